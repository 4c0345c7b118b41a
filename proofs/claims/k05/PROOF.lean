import PyProof.Rows.All
import Wide.All
import OpenK.AllK
import Wide.FinOn
import HandS.ForMost
import HandS.RaiseMore
import HandS.Strs
import HandS.SetFor
import HandS.Conv
import HandS.Wide
import HandS.IsInst
import HandS.Codes
import HandS.TupAny
import HandS.ForExc
import HandS.ExcInit
import HandS.ExcField
import HandS.ExcIs
import HandS.ExcOwn
import HandS.TupSets
import HandS.Walk
import HandS.RevRange
import HandS.Rev
import KE.GoesMore
import PySem.Challenge.RW_evenfailover_k05_sets_by_number
set_option Elab.async false
set_option linter.all false
set_option maxRecDepth 100000
set_option maxHeartbeats 4000000
namespace Ef
/-- Pascal's triangle -/
def C : Nat → Nat → Nat
  | _, 0 => 1
  | 0, _ + 1 => 0
  | n + 1, k + 1 => C n k + C n (k + 1)
theorem C_zero (n : Nat) : C n 0 = 1 := by cases n <;> rfl
theorem C_zs (k : Nat) : C 0 (k + 1) = 0 := rfl
theorem C_ss (n k : Nat) : C (n + 1) (k + 1) = C n k + C n (k + 1) := rfl
theorem C_big : ∀ (n k : Nat), n < k → C n k = 0
  | 0, k + 1, _ => rfl
  | n + 1, k + 1, h => by
    rw [C_ss, C_big n k (by omega), C_big n (k + 1) (by omega)]
theorem C_self : ∀ n : Nat, C n n = 1
  | 0 => rfl
  | n + 1 => by rw [C_ss, C_self n, C_big n (n + 1) (by omega)]
theorem C_absorb : ∀ (n k : Nat), C (n + 1) (k + 1) * (k + 1) = (n + 1) * C n k
  | 0, 0 => rfl
  | 0, k + 1 => by
    rw [C_ss, C_zs, C_zs]; simp
  | n + 1, 0 => by
    have h := C_absorb n 0
    rw [C_zero] at h
    rw [C_ss, C_zero]
    omega
  | n + 1, j + 1 => by
    have h1 := C_absorb n j
    have h2 := C_absorb n (j + 1)
    have e : C (n + 1) (j + 1) = C n j + C n (j + 1) := C_ss n j
    rw [C_ss (n + 1) (j + 1)]
    have a1 : (C (n + 1) (j + 1) + C (n + 1) (j + 1 + 1)) * (j + 1 + 1) = C (n + 1) (j + 1) * (j + 1) + C (n + 1) (j + 1) + C (n + 1) (j + 1 + 1) * (j + 1 + 1) := by
      rw [Nat.add_mul, Nat.mul_succ (C (n + 1) (j + 1)) (j + 1)]
    rw [a1, h1, h2]
    have a2 : (n + 1 + 1) * C (n + 1) (j + 1) = (n + 1) * C (n + 1) (j + 1) + C (n + 1) (j + 1) := Nat.succ_mul _ _
    rw [a2]
    have a3 : (n + 1) * C (n + 1) (j + 1) = (n + 1) * C n j + (n + 1) * C n (j + 1) := by rw [e, Nat.mul_add]
    rw [a3]
    omega
theorem C_step (n k : Nat) (h : k ≤ n) : C n (k + 1) * (k + 1) = C n k * (n - k) := by
  have h1 := C_absorb n k
  rw [C_ss, Nat.add_mul] at h1
  have h2 : (n + 1) * C n k = C n k * (k + 1) + C n k * (n - k) := by
    rw [← Nat.mul_add, Nat.mul_comm]
    congr 1
    omega
  omega
theorem C_symm : ∀ (n k : Nat), k ≤ n → C n k = C n (n - k)
  | n, 0, _ => by rw [C_zero, Nat.sub_zero, C_self]
  | n + 1, k + 1, h => by
    by_cases e : k = n
    · subst e
      rw [C_self, Nat.sub_self, C_zero]
    · have e1 : n + 1 - (k + 1) = (n - (k + 1)) + 1 := by omega
      rw [e1, C_ss, C_ss, ← C_symm n (k + 1) (by omega), show n - (k + 1) + 1 = n - k by omega, ← C_symm n k (by omega), Nat.add_comm]
theorem C_le : ∀ (n k : Nat), C n k ≤ 2 ^ n
  | n, 0 => by rw [C_zero]; exact Nat.one_le_two_pow
  | 0, k + 1 => by rw [C_zs]; exact Nat.zero_le _
  | n + 1, k + 1 => by
    have a := C_le n k
    have b := C_le n (k + 1)
    rw [C_ss, Nat.pow_succ]
    omega
theorem C_pos : ∀ (n k : Nat), k ≤ n → 0 < C n k
  | n, 0, _ => by rw [C_zero]; decide
  | n + 1, k + 1, h => by
    rw [C_ss]
    have := C_pos n k (by omega)
    omega
theorem C_min (n k : Nat) (h : k ≤ n) : C n (min k (n - k)) = C n k := by
  by_cases e : k ≤ n - k
  · rw [Nat.min_eq_left e]
  · rw [Nat.min_eq_right (by omega), ← C_symm n k h]
theorem C_60 (n k : Nat) (h : n ≤ 60) : C n k ≤ 1152921504606846976 := Nat.le_trans (C_le n k) (Nat.le_trans (Nat.pow_le_pow_right (by decide) h) (by decide))
/-- what the program's binomial answers -/
def binZ (n k : Int) : Int := if k < 0 ∨ n < k then 0 else (C n.toNat k.toNat : Int)
theorem binZ_nat (n k : Nat) : binZ n k = (C n k : Int) := by
  unfold binZ
  by_cases h : n < k
  · rw [if_pos (by omega), C_big n k h]; rfl
  · rw [if_neg (by omega)]; simp
/-- one step of its product -/
theorem C_div (n s : Nat) (h : s < n) : ((C n s : Int) * ((n : Int) + 1 - (1 + (s : Int)))) / (1 + (s : Int)) = (C n (s + 1) : Int) := by
  have e : (C n s : Int) * ((n : Int) + 1 - (1 + (s : Int))) = (C n (s + 1) : Int) * (1 + (s : Int)) := by
    have h1 := C_step n s (by omega)
    have h2 : ((n : Int) + 1 - (1 + (s : Int))) = ((n - s : Nat) : Int) := by omega
    have h3 : (1 + (s : Int)) = ((s + 1 : Nat) : Int) := by omega
    rw [h2, h3, ← Int.natCast_mul, ← Int.natCast_mul, h1]
  rw [e]
  exact Int.mul_ediv_cancel _ (by omega)
end Ef
namespace Ef
/-! ### the least numbers of lists -/
def stepL (a b : Nat) : Nat := a / Nat.gcd a b * b
def leastL (n : Nat) : Nat → Nat
  | 0 => 1
  | d + 1 => stepL (leastL n d) (n * C (n - 1) d)
theorem stepL_pos {a b : Nat} (ha : 0 < a) (hb : 0 < b) : 0 < stepL a b := by
  unfold stepL
  have h1 : Nat.gcd a b ≤ a := Nat.gcd_le_left b ha
  have h2 : 0 < Nat.gcd a b := Nat.gcd_pos_of_pos_left b ha
  exact Nat.mul_pos (Nat.div_pos h1 h2) hb
theorem edge_pos {n d : Nat} (h : d < n) : 0 < n * C (n - 1) d := Nat.mul_pos (by omega) (C_pos _ _ (by omega))
theorem leastL_pos {n : Nat} : ∀ {d : Nat}, d ≤ n → 0 < leastL n d
  | 0, _ => Nat.one_pos
  | d + 1, h => stepL_pos (leastL_pos (by omega)) (edge_pos (by omega))
theorem C_adj : ∀ (n k : Nat), C n k + C n (k + 1) ≤ 2 ^ n
  | 0, 0 => by decide
  | 0, k + 1 => by
    rw [C_zs, C_zs]
    decide
  | n + 1, 0 => by
    have h := C_adj n 0
    have h1 : 1 ≤ 2 ^ n := Nat.one_le_two_pow
    rw [C_zero] at h
    rw [C_ss, C_zero, C_zero, Nat.pow_succ]
    omega
  | n + 1, j + 1 => by
    have h := C_adj n j
    have h2 := C_adj n (j + 1)
    rw [C_ss, C_ss, Nat.pow_succ]
    omega
theorem C_half (n k : Nat) (h : 1 ≤ n) : C n k ≤ 2 ^ (n - 1) := by
  obtain ⟨m, rfl⟩ : ∃ m, n = m + 1 := ⟨n - 1, by omega⟩
  cases k with
  | zero =>
    rw [C_zero]
    exact Nat.one_le_two_pow
  | succ k => exact C_adj m k
theorem edge_lt {n d : Nat} (h : n ≤ 60) : n * C (n - 1) d < 18446744073709551616 := by
  by_cases h1 : n ≤ 1
  · have e : n - 1 = 0 := by omega
    have h2 : C (n - 1) d ≤ 2 ^ 0 := by rw [e]; exact C_le 0 d
    exact Nat.lt_of_le_of_lt (Nat.mul_le_mul h1 h2) (by decide)
  · have h2 : C (n - 1) d ≤ 2 ^ 58 := Nat.le_trans (C_half (n - 1) d (by omega)) (Nat.pow_le_pow_right (by decide) (by omega))
    exact Nat.lt_of_le_of_lt (Nat.mul_le_mul h h2) (by decide)
/-! rows of the triangle, reckoned one from the other -/
def nextRow : List Nat → List Nat := fun r => 1 :: List.zipWith (· + ·) r r.tail
def isRow (n : Nat) (r : List Nat) : Prop := ∀ k, k ≤ 60 → r[k]? = some (C n k)
theorem nextRow_is {n : Nat} {r : List Nat} (h : isRow n r) : ∀ k, k ≤ 60 → (nextRow r)[k]? = some (C (n + 1) k)
  | 0, _ => by
    rw [C_zero]
    rfl
  | k + 1, hk => by
    have h1 := h k (by omega)
    have h2 := h (k + 1) hk
    unfold nextRow
    rw [List.getElem?_cons_succ, List.getElem?_zipWith, h1, List.getElem?_tail, h2]
    rfl
def row0 : List Nat := 1 :: List.replicate 60 0
theorem row0_is : isRow 0 row0 := fun k hk => by
  cases k with
  | zero => rfl
  | succ k =>
    unfold row0
    rw [List.getElem?_cons_succ, List.getElem?_replicate, if_pos (by omega)]
    rfl
/-- P holds along the chain of least numbers: f of each -/
def chainOk (n : Nat) (f : Nat → Nat → Bool) : Nat → Nat → Nat → List Nat → Bool
  | 0, d, a, _ => f d a
  | m + 1, d, a, c :: r => f d a && chainOk n f m (d + 1) (stepL a (n * c)) r
  | _ + 1, _, _, [] => false
theorem chain_all {n : Nat} {f : Nat → Nat → Bool} {row : List Nat} (hr : isRow (n - 1) row) (hn : n ≤ 60) : ∀ (m d : Nat), d + m = n → chainOk n f m d (leastL n d) (row.drop d) = true → ∀ e, d ≤ e → e ≤ n → f e (leastL n e) = true
  | 0, d, h, ok, e, h1, h2 => by
    have e1 : e = d := by omega
    subst e1
    exact ok
  | m + 1, d, h, ok, e, h1, h2 => by
    have hd := hr d (by omega)
    have hlt : d < row.length := (List.getElem?_eq_some_iff.mp hd).1
    have hdr : row.drop d = C (n - 1) d :: row.drop (d + 1) := by
      rw [List.drop_eq_getElem_cons hlt]
      congr 1
      rw [List.getElem?_eq_getElem hlt] at hd
      exact Option.some.inj hd
    rw [hdr] at ok
    have ok2 : (f d (leastL n d) && chainOk n f m (d + 1) (leastL n (d + 1)) (row.drop (d + 1))) = true := ok
    rw [Bool.and_eq_true] at ok2
    by_cases c : e = d
    · rw [c]
      exact ok2.1
    · exact chain_all hr hn m (d + 1) (by omega) ok2.2 e (by omega) h2
def rowsOk (f : Nat → Nat → Nat → Bool) : Nat → Nat → List Nat → Bool
  | 0, _, _ => true
  | m + 1, n, row => chainOk n (f n) n 0 1 row && rowsOk f m (n + 1) (nextRow row)
theorem rows_all {f : Nat → Nat → Nat → Bool} : ∀ (m n : Nat) (row : List Nat), isRow (n - 1) row → 1 ≤ n → rowsOk f m n row = true → ∀ k, n ≤ k → k < n + m → k ≤ 60 → ∀ d, d ≤ k → f k d (leastL k d) = true
  | 0, _, _, _, _, _, k, h1, h2, _, _, _ => by omega
  | m + 1, n, row, hr, h0, ok, k, h1, h2, h6, d, hd => by
    have ok2 : (chainOk n (f n) n 0 1 row && rowsOk f m (n + 1) (nextRow row)) = true := ok
    rw [Bool.and_eq_true] at ok2
    by_cases c : k = n
    · subst c
      exact chain_all hr h6 k 0 (by omega) ok2.1 d (by omega) hd
    · have hr2 : isRow (n + 1 - 1) (nextRow row) := fun j hj => by
        have e : n + 1 - 1 = (n - 1) + 1 := by omega
        rw [e]
        exact nextRow_is hr j hj
      exact rows_all m (n + 1) (nextRow row) hr2 (by omega) ok2.2 k (by omega) (by omega) h6 d hd
theorem small_ok : rowsOk (fun _ _ a => Nat.blt a (2 ^ 100)) 60 1 row0 = true := by decide +kernel
theorem leastL_lt {n d : Nat} (h1 : 1 ≤ n) (h6 : n ≤ 60) (hd : d ≤ n) : leastL n d < 2 ^ 100 := by
  have h := rows_all 60 1 row0 row0_is (by decide) small_ok n h1 (by omega) h6 d hd
  have h2 : Nat.blt (leastL n d) (2 ^ 100) = true := h
  rw [Nat.blt_eq] at h2
  exact h2
end Ef
namespace Ef
/-! ### the standard table -/
theorem stepL_left (a b : Nat) (ha : 0 < a) : a ∣ stepL a b := by
  unfold stepL
  have h1 : Nat.gcd a b ∣ a := Nat.gcd_dvd_left a b
  have h2 : Nat.gcd a b ∣ b := Nat.gcd_dvd_right a b
  refine ⟨b / Nat.gcd a b, ?_⟩
  obtain ⟨x, hx⟩ := h1
  obtain ⟨y, hy⟩ := h2
  have g0 : 0 < Nat.gcd a b := Nat.gcd_pos_of_pos_left b ha
  generalize Nat.gcd a b = g at hx hy g0
  subst hx hy
  rw [Nat.mul_div_cancel_left _ g0, Nat.mul_div_cancel_left _ g0, Nat.mul_comm g x, Nat.mul_assoc]
theorem stepL_right (a b : Nat) : b ∣ stepL a b := ⟨a / Nat.gcd a b, Nat.mul_comm _ _⟩
theorem leastL_dvd {n : Nat} : ∀ {d : Nat}, d ≤ n → ∀ b, b < d → n * C (n - 1) b ∣ leastL n d
  | 0, _, b, h => by omega
  | d + 1, hd, b, h => by
    by_cases e : b = d
    · subst e
      exact stepL_right _ _
    · exact Nat.dvd_trans (leastL_dvd (by omega) b (by omega)) (stepL_left _ _ (leastL_pos (by omega)))
/-- width of a block at a level -/
def wd (n c s : Nat) : Nat := c / (n * C (n - 1) s)
theorem wd_eq {n c s : Nat} (h : n * C (n - 1) s ∣ c) : wd n c s * (n * C (n - 1) s) = c := Nat.div_mul_cancel h
theorem wd_pos {n c s : Nat} (h : n * C (n - 1) s ∣ c) (hc : 0 < c) : 0 < wd n c s := by
  have e := wd_eq h
  cases z : wd n c s with
  | zero =>
    rw [z, Nat.zero_mul] at e
    omega
  | succ k => omega
theorem wd_step {n c b : Nat} (h1 : n * C (n - 1) b ∣ c) (h2 : n * C (n - 1) (b + 1) ∣ c) (hb : b + 1 < n) : wd n c b * (b + 1) = wd n c (b + 1) * (n - (b + 1)) := by
  have e1 := wd_eq h1
  have e2 := wd_eq h2
  have s := C_step (n - 1) b (by omega)
  have p : 0 < n * C (n - 1) b := edge_pos (by omega)
  have x1 : wd n c b * (b + 1) * (n * C (n - 1) b) = c * (b + 1) := by
    rw [Nat.mul_right_comm, e1]
  have x2 : wd n c (b + 1) * (n - (b + 1)) * (n * C (n - 1) b) = c * (b + 1) := by
    have y : wd n c (b + 1) * (n * C (n - 1) (b + 1)) * (b + 1) = c * (b + 1) := by rw [e2]
    rw [← y, Nat.mul_assoc, Nat.mul_assoc (wd n c (b + 1)), Nat.mul_assoc n, s, show n - 1 - b = n - (b + 1) by omega]
    congr 1
    rw [Nat.mul_comm (n - (b + 1)), Nat.mul_assoc]
  exact Nat.eq_of_mul_eq_mul_right p (x1.trans x2.symm)
theorem wd_zero {n c : Nat} (h : n * C (n - 1) 0 ∣ c) : wd n c 0 * n = c := by
  have e := wd_eq h
  rw [C_zero, Nat.mul_one] at e
  exact e
theorem wd_le (n c s : Nat) : wd n c s ≤ c := Nat.div_le_self _ _
/-- what 'follow' takes and what it leaves -/
def fol (n c : Nat) : List Nat → List Nat → Nat → List Nat × Nat
  | [], _, r => ([], r)
  | s :: ss, L, r => (L.getD (r / wd n c s) 0 :: (fol n c ss (L.eraseIdx (r / wd n c s)) (wd n c s * (L.getD (r / wd n c s) 0 - r / wd n c s) + r % wd n c s)).1,
      (fol n c ss (L.eraseIdx (r / wd n c s)) (wd n c s * (L.getD (r / wd n c s) 0 - r / wd n c s) + r % wd n c s)).2)
def FolOk (n c : Nat) : List Nat → List Nat → Nat → Prop
  | [], _, _ => True
  | s :: ss, L, r => 0 < wd n c s ∧ r / wd n c s < L.length ∧ r / wd n c s ≤ L.getD (r / wd n c s) 0 ∧
      FolOk n c ss (L.eraseIdx (r / wd n c s)) (wd n c s * (L.getD (r / wd n c s) 0 - r / wd n c s) + r % wd n c s)
theorem fol_cons (n c s : Nat) (ss L : List Nat) (r : Nat) : fol n c (s :: ss) L r = (L.getD (r / wd n c s) 0 :: (fol n c ss (L.eraseIdx (r / wd n c s)) (wd n c s * (L.getD (r / wd n c s) 0 - r / wd n c s) + r % wd n c s)).1, (fol n c ss (L.eraseIdx (r / wd n c s)) (wd n c s * (L.getD (r / wd n c s) 0 - r / wd n c s) + r % wd n c s)).2) := rfl
theorem fol_len (n c : Nat) : ∀ ss L r, (fol n c ss L r).1.length = ss.length
  | [], _, _ => rfl
  | s :: ss, L, r => congrArg (· + 1) (fol_len n c ss _ _)
/-- ascending -/
abbrev Asc (L : List Nat) : Prop := L.Pairwise (· < ·)
theorem getD_of {L : List Nat} {i : Nat} (h : i < L.length) : L[i]? = some (L.getD i 0) := by
  rw [List.getD_eq_getElem?_getD, List.getElem?_eq_getElem h]
  rfl
/-- an ascending list counted from lo -/
theorem asc_from : ∀ {L : List Nat} {lo : Nat}, Asc L → (∀ x ∈ L, lo ≤ x) → ∀ {i x : Nat}, L[i]? = some x → lo + i ≤ x
  | [], _, _, _, _, _, h => by cases h
  | y :: L, lo, a, hl, 0, x, h => by
    obtain rfl : y = x := Option.some.inj h
    exact hl y List.mem_cons_self
  | y :: L, lo, a, hl, i + 1, x, h => by
    have h1 : L[i]? = some x := h
    have hy := hl y List.mem_cons_self
    have h2 := asc_from (L := L) (lo := lo + 1) (List.pairwise_cons.mp a).2 (fun z hz => by
      have := (List.pairwise_cons.mp a).1 z hz
      omega) h1
    omega
theorem asc_ge {L : List Nat} (a : Asc L) {i x : Nat} (h : L[i]? = some x) : i ≤ x := by
  have := asc_from a (lo := 0) (fun _ _ => Nat.zero_le _) h
  omega
theorem asc_le : ∀ {L : List Nat} {n : Nat}, Asc L → (∀ x ∈ L, x < n) → ∀ {i x : Nat}, L[i]? = some x → x + (L.length - i) ≤ n
  | [], _, _, _, _, _, h => by cases h
  | [y], n, _, hl, 0, x, h => by
    obtain rfl : y = x := Option.some.inj h
    have := hl y List.mem_cons_self
    show y + 1 ≤ n
    omega
  | y :: z :: L, n, a, hl, 0, x, h => by
    obtain rfl : y = x := Option.some.inj h
    have h1 := asc_le (L := z :: L) (List.pairwise_cons.mp a).2 (fun u hu => hl u (List.mem_cons_of_mem _ hu)) (i := 0) (x := z) rfl
    have h2 := (List.pairwise_cons.mp a).1 z List.mem_cons_self
    have e : (y :: z :: L).length = (z :: L).length + 1 := rfl
    omega
  | y :: L, n, a, hl, i + 1, x, h => by
    have h1 := asc_le (L := L) (List.pairwise_cons.mp a).2 (fun u hu => hl u (List.mem_cons_of_mem _ hu)) (i := i) (x := x) h
    have e : (y :: L).length = L.length + 1 := rfl
    omega
theorem asc_erase {L : List Nat} (a : Asc L) (i : Nat) : Asc (L.eraseIdx i) := a.sublist (List.eraseIdx_sublist L i)
/-- the way forward keeps within its bounds -/
theorem folOk_path {n c d : Nat} (hd : ∀ b, b < d → n * C (n - 1) b ∣ c) (hc : 0 < c) (hdn : d ≤ n) : ∀ (m b : Nat) (L : List Nat) (r : Nat), b + m = d → Asc L → (∀ x ∈ L, x < n) → L.length = n - b → (b < d → r < wd n c b * (n - b)) → FolOk n c (List.range' b m) L r
  | 0, _, _, _, _, _, _, _, _ => trivial
  | m + 1, b, L, r, e, a, hl, hlen, hr => by
    have hb := hd b (by omega)
    have w0 := wd_pos hb hc
    have hr2 := hr (by omega)
    have hi : r / wd n c b < L.length := by
      rw [hlen]
      exact Nat.div_lt_of_lt_mul hr2
    have hx := getD_of hi
    have g1 := asc_ge a hx
    have g2 := asc_le a hl hx
    refine ⟨w0, hi, g1, ?_⟩
    refine folOk_path hd hc hdn m (b + 1) _ _ (by omega) (asc_erase a _) (fun x hx => hl x (List.mem_of_mem_eraseIdx hx)) ?_ (fun hlt => ?_)
    · rw [List.length_eraseIdx, if_pos hi]
      omega
    · rw [← wd_step hb (hd (b + 1) hlt) (by omega)]
      have h1 : r % wd n c b < wd n c b := Nat.mod_lt _ w0
      have h2 : L.getD (r / wd n c b) 0 - r / wd n c b ≤ b := by omega
      have h3 : wd n c b * (L.getD (r / wd n c b) 0 - r / wd n c b) ≤ wd n c b * b := Nat.mul_le_mul_left _ h2
      rw [Nat.mul_add, Nat.mul_one]
      omega
/-- count of lists and depth that go together -/
structure Std (n d c : Nat) : Prop where
  n60 : n ≤ 60
  n1 : 1 ≤ n
  dn : d ≤ n
  c0 : 0 < c
  dv : leastL n d ∣ c
theorem Std.dvd {n d c : Nat} (h : Std n d c) (b : Nat) (hb : b < d) : n * C (n - 1) b ∣ c := Nat.dvd_trans (leastL_dvd h.dn b hb) h.dv
def path (n d c k : Nat) : List Nat × Nat := fol n c (List.range' 0 d) (List.range' 0 n) k
theorem asc_range' : ∀ (m b : Nat), Asc (List.range' b m) := fun m b => List.pairwise_lt_range'
theorem mem_range0 {n x : Nat} : x ∈ List.range' 0 n ↔ x < n := by
  rw [List.mem_range']
  exact ⟨fun ⟨i, h1, h2⟩ => by omega, fun h => ⟨x, h, by omega⟩⟩
theorem path_ok {n d c k : Nat} (h : Std n d c) (hk : k < c) : FolOk n c (List.range' 0 d) (List.range' 0 n) k :=
  folOk_path h.dvd h.c0 h.dn d 0 _ _ (by omega) (asc_range' n 0) (fun x hx => mem_range0.mp hx) (by rw [List.length_range']; omega) fun hd => by
    rw [Nat.sub_zero, wd_zero (h.dvd 0 hd)]
    exact hk
theorem fol_mem {n c : Nat} : ∀ {ss L : List Nat} {r : Nat}, FolOk n c ss L r → ∀ x ∈ (fol n c ss L r).1, x ∈ L
  | [], _, _, _, x, hx => by cases hx
  | s :: ss, L, r, ok, x, hx => by
    rw [fol_cons] at hx
    obtain ⟨_, h2, _, ok2⟩ := ok
    rcases List.mem_cons.mp hx with rfl | hx
    · exact List.mem_of_getElem? (getD_of h2)
    · exact List.mem_of_mem_eraseIdx (fol_mem ok2 x hx)
theorem nodup_inj {L : List Nat} (hn : L.Nodup) {i j x : Nat} (h1 : L[i]? = some x) (h2 : L[j]? = some x) : i = j := by
  obtain ⟨a1, a2⟩ := List.getElem?_eq_some_iff.mp h1
  obtain ⟨b1, b2⟩ := List.getElem?_eq_some_iff.mp h2
  rcases Nat.lt_trichotomy i j with c | c | c
  · exact absurd (a2.trans b2.symm) (List.pairwise_iff_getElem.mp hn i j a1 b1 c)
  · exact c
  · exact absurd (b2.trans a2.symm) (List.pairwise_iff_getElem.mp hn j i b1 a1 c)
theorem not_mem_erase {L : List Nat} {i x : Nat} (hn : L.Nodup) (h : L[i]? = some x) : x ∉ L.eraseIdx i := by
  intro hm
  obtain ⟨k, hk⟩ := List.getElem?_of_mem hm
  rw [List.getElem?_eraseIdx] at hk
  split at hk
  · have := nodup_inj hn hk h
    omega
  · have := nodup_inj hn hk h
    omega
theorem fol_nodup {n c : Nat} : ∀ {ss L : List Nat} {r : Nat}, FolOk n c ss L r → L.Nodup → (fol n c ss L r).1.Nodup
  | [], _, _, _, _ => List.nodup_nil
  | s :: ss, L, r, ok, hn => by
    rw [fol_cons]
    obtain ⟨_, h2, _, ok2⟩ := ok
    refine List.nodup_cons.mpr ⟨fun hx => not_mem_erase hn (getD_of h2) (fol_mem ok2 _ hx), fol_nodup ok2 (hn.sublist (List.eraseIdx_sublist _ _))⟩
theorem asc_nodup {L : List Nat} (h : Asc L) : L.Nodup := h.imp fun z => Nat.ne_of_lt z
theorem path_nodup {n d c k : Nat} (h : Std n d c) (hk : k < c) : (path n d c k).1.Nodup := fol_nodup (path_ok h hk) (asc_nodup (asc_range' n 0))
theorem path_lt {n d c k : Nat} (h : Std n d c) (hk : k < c) : ∀ x ∈ (path n d c k).1, x < n := fun x hx => mem_range0.mp (fol_mem (path_ok h hk) x hx)
theorem path_len (n d c k : Nat) : (path n d c k).1.length = d := by
  unfold path
  rw [fol_len, List.length_range']
theorem fol_rest {n c d : Nat} (hd : ∀ b, b < d → n * C (n - 1) b ∣ c) (hc : 0 < c) (hdn : d ≤ n) : ∀ (m b : Nat) (L : List Nat) (r : Nat), b + m = d → Asc L → (∀ x ∈ L, x < n) → L.length = n - b → (b < d → r < wd n c b * (n - b)) → r < c → (fol n c (List.range' b m) L r).2 < c
  | 0, _, _, _, _, _, _, _, _, h => h
  | m + 1, b, L, r, e, a, hl, hlen, hr, h => by
    have hb := hd b (by omega)
    have w0 := wd_pos hb hc
    have hr2 := hr (by omega)
    have hi : r / wd n c b < L.length := by
      rw [hlen]
      exact Nat.div_lt_of_lt_mul hr2
    have hx := getD_of hi
    have g1 := asc_ge a hx
    have g2 := asc_le a hl hx
    have h1 : r % wd n c b < wd n c b := Nat.mod_lt _ w0
    have h2 : L.getD (r / wd n c b) 0 - r / wd n c b ≤ b := by omega
    have h3 : wd n c b * (L.getD (r / wd n c b) 0 - r / wd n c b) ≤ wd n c b * b := Nat.mul_le_mul_left _ h2
    have h4 : wd n c b * (L.getD (r / wd n c b) 0 - r / wd n c b) + r % wd n c b < wd n c b * (b + 1) := by
      rw [Nat.mul_add, Nat.mul_one]
      omega
    have h5 : wd n c b * (b + 1) ≤ c := by
      have p : 0 < C (n - 1) b := C_pos _ _ (by omega)
      have p2 : b + 1 ≤ n * C (n - 1) b := Nat.le_trans (show b + 1 ≤ n * 1 by omega) (Nat.mul_le_mul_left n p)
      have := Nat.mul_le_mul_left (wd n c b) p2
      rw [wd_eq hb] at this
      exact this
    rw [List.range'_succ, fol_cons]
    refine fol_rest hd hc hdn m (b + 1) _ _ (by omega) (asc_erase a _) (fun x hx => hl x (List.mem_of_mem_eraseIdx hx)) ?_ (fun hlt => ?_) (by omega)
    · rw [List.length_eraseIdx, if_pos hi]
      omega
    · rw [← wd_step hb (hd (b + 1) hlt) (by omega)]
      exact h4
theorem path_rest {n d c k : Nat} (h : Std n d c) (hk : k < c) : (path n d c k).2 < c :=
  fol_rest h.dvd h.c0 h.dn d 0 _ _ (by omega) (asc_range' n 0) (fun x hx => mem_range0.mp hx) (by rw [List.length_range']; omega) (fun hd => by
    rw [Nat.sub_zero, wd_zero (h.dvd 0 hd)]
    exact hk) hk
theorem asc_unique {L M : List Nat} (a : Asc L) (b : Asc M) (p : L.Perm M) : L = M :=
  List.Perm.eq_of_pairwise (le := (· ≤ ·)) (fun a b _ _ h1 h2 => Nat.le_antisymm h1 h2) (a.imp fun z => Nat.le_of_lt z) (b.imp fun z => Nat.le_of_lt z) p
theorem std_of {n d : Nat} (h6 : n ≤ 60) (h1 : 1 ≤ n) (hd : d ≤ n) (q : Nat) (hq : 0 < q) : Std n d (leastL n d * q) := ⟨h6, h1, hd, Nat.mul_pos (leastL_pos hd) hq, ⟨q, rfl⟩⟩
/-! what stands outside a set, and the places in it -/
theorem below_at : ∀ {M : List Nat}, Asc M → ∀ {j s : Nat}, M[j]? = some s → (M.filter fun x => decide (x < s)).length = j
  | [], _, _, _, h => by cases h
  | y :: M, a, 0, s, h => by
    obtain rfl : y = s := Option.some.inj h
    rw [List.filter_cons_of_neg (by simp), List.filter_eq_nil_iff.mpr]
    · rfl
    · intro x hx
      have := (List.pairwise_cons.mp a).1 x hx
      simp
      omega
  | y :: M, a, j + 1, s, h => by
    have h1 : M[j]? = some s := h
    have h2 := (List.pairwise_cons.mp a).1 s (List.mem_of_getElem? h1)
    rw [List.filter_cons_of_pos (by simpa using h2)]
    exact congrArg (· + 1) (below_at (List.pairwise_cons.mp a).2 h1)
/-- L: the servers outside I, ascending -/
structure Compl (n : Nat) (I L : List Nat) : Prop where
  aI : Asc I
  aL : Asc L
  bI : ∀ x ∈ I, x < n
  mem : ∀ x, x ∈ L ↔ x < n ∧ x ∉ I
theorem Compl.count {n : Nat} {I L : List Nat} (h : Compl n I L) {i s : Nat} (e : L[i]? = some s) : (I.filter fun x => decide (x < s)).length + i = s := by
  have hs := (h.mem s).mp (List.mem_of_getElem? e)
  have p : ((I.filter fun x => decide (x < s)) ++ (L.filter fun x => decide (x < s))).Perm (List.range' 0 s) := by
    refine (List.perm_ext_iff_of_nodup ?_ (asc_nodup (asc_range' s 0))).mpr fun x => ?_
    · refine List.nodup_append.mpr ⟨(asc_nodup h.aI).filter _, (asc_nodup h.aL).filter _, fun x hx y hy e2 => ?_⟩
      subst e2
      exact ((h.mem x).mp (List.mem_filter.mp hy).1).2 (List.mem_filter.mp hx).1
    · rw [List.mem_append, List.mem_filter, List.mem_filter, mem_range0, h.mem]
      simp only [decide_eq_true_eq]
      constructor
      · rintro (⟨_, h⟩ | ⟨_, h⟩) <;> exact h
      · intro hx
        by_cases c : x ∈ I
        · exact .inl ⟨c, hx⟩
        · exact .inr ⟨⟨by omega, c⟩, hx⟩
  have l := p.length_eq
  rw [List.length_append, below_at h.aL e, List.length_range'] at l
  exact l
theorem Compl.start (n : Nat) : Compl n [] (List.range' 0 n) := ⟨List.Pairwise.nil, asc_range' n 0, fun x hx => absurd hx List.not_mem_nil, fun x => by rw [mem_range0]; simp⟩
theorem Compl.next {n : Nat} {I L I' : List Nat} (h : Compl n I L) {i s : Nat} (e : L[i]? = some s) (hp : I'.Perm (I ++ [s])) (ha : Asc I') : Compl n I' (L.eraseIdx i) := by
  have hs := (h.mem s).mp (List.mem_of_getElem? e)
  refine ⟨ha, asc_erase h.aL i, fun x hx => ?_, fun x => ?_⟩
  · rcases List.mem_append.mp (hp.mem_iff.mp hx) with hx | hx
    · exact h.bI x hx
    · rw [List.mem_singleton.mp hx]
      exact hs.1
  · constructor
    · intro hx
      have h1 := (h.mem x).mp (List.mem_of_mem_eraseIdx hx)
      refine ⟨h1.1, fun hx2 => ?_⟩
      rcases List.mem_append.mp (hp.mem_iff.mp hx2) with z | z
      · exact h1.2 z
      · rw [List.mem_singleton.mp z] at hx
        exact not_mem_erase (asc_nodup h.aL) e hx
    · rintro ⟨h1, h2⟩
      have h3 : x ∉ I := fun z => h2 (hp.mem_iff.mpr (List.mem_append_left _ z))
      have h4 : x ≠ s := fun z => h2 (hp.mem_iff.mpr (List.mem_append_right _ (by rw [z]; exact List.mem_singleton_self s)))
      obtain ⟨k, hk⟩ := List.getElem?_of_mem ((h.mem x).mpr ⟨h1, h3⟩)
      have hki : k ≠ i := fun z => by
        rw [z, e] at hk
        exact h4 (Option.some.inj hk).symm
      rcases Nat.lt_or_gt_of_ne hki with hlt | hgt
      · exact List.mem_of_getElem? (i := k) (by rw [List.getElem?_eraseIdx, if_pos hlt]; exact hk)
      · exact List.mem_of_getElem? (i := k - 1) (by rw [List.getElem?_eraseIdx, if_neg (by omega), show k - 1 + 1 = k by omega]; exact hk)
/-- the place of the new one -/
theorem Compl.index {n : Nat} {I L I' : List Nat} (h : Compl n I L) {i j s : Nat} (e : L[i]? = some s) (hp : I'.Perm (I ++ [s])) (ha : Asc I') (hj : I'[j]? = some s) : j + i = s := by
  have h1 := h.count e
  have h2 := below_at ha hj
  have h3 := (hp.filter fun x => decide (x < s)).length_eq
  rw [List.filter_append, List.length_append] at h3
  have h4 : (List.filter (fun x => decide (x < s)) [s]).length = 0 := by
    rw [List.filter_cons_of_neg (by simp)]
    rfl
  omega
theorem Compl.free {n : Nat} {I L : List Nat} (h : Compl n I L) : (List.range' 0 n).filter (fun x => !decide (x ∈ I)) = L := by
  have a1 : Asc ((List.range' 0 n).filter (fun x => !decide (x ∈ I))) := (asc_range' n 0).filter _
  refine List.Perm.eq_of_pairwise (le := (· ≤ ·)) (fun a b _ _ h1 h2 => Nat.le_antisymm h1 h2) (a1.imp fun z => Nat.le_of_lt z) (h.aL.imp fun z => Nat.le_of_lt z) ?_
  refine (List.perm_ext_iff_of_nodup (asc_nodup a1) (asc_nodup h.aL)).mpr fun x => ?_
  rw [List.mem_filter, mem_range0, h.mem]
  simp
end Ef
namespace Ef
/-! ### the least numbers once more: common multiples of n, n - 1, .. -/
def leastP (n : Nat) : Nat → Nat
  | 0 => 1
  | d + 1 => stepL (leastP n d) (n - d)
theorem parts_ok : rowsOk (fun n d a => Nat.beq (leastP n d) a) 60 1 row0 = true := by decide +kernel
theorem leastP_eq {n d : Nat} (h1 : 1 ≤ n) (h6 : n ≤ 60) (hd : d ≤ n) : leastP n d = leastL n d :=
  Nat.eq_of_beq_eq_true (rows_all 60 1 row0 row0_is (by decide) parts_ok n h1 (by omega) h6 d hd)
theorem stepL_lcm (a b : Nat) : stepL a b = Nat.lcm a b := by
  unfold stepL Nat.lcm
  exact Nat.div_mul_right_comm (Nat.gcd_dvd_left a b) b
theorem stepL_dvd (a b c : Nat) : stepL a b ∣ c ↔ a ∣ c ∧ b ∣ c := by
  rw [stepL_lcm]
  exact ⟨fun h => ⟨Nat.dvd_trans (Nat.dvd_lcm_left a b) h, Nat.dvd_trans (Nat.dvd_lcm_right a b) h⟩, fun h => Nat.lcm_dvd h.1 h.2⟩
theorem leastP_dvd (n c : Nat) : ∀ d, leastP n d ∣ c ↔ ∀ i, i < d → (n - i) ∣ c
  | 0 => ⟨fun _ i h => absurd h (Nat.not_lt_zero i), fun _ => Nat.one_dvd c⟩
  | d + 1 => by
    show stepL (leastP n d) (n - d) ∣ c ↔ _
    rw [stepL_dvd, leastP_dvd n c d]
    constructor
    · intro h i hi
      by_cases e : i = d
      · rw [e]
        exact h.2
      · exact h.1 i (by omega)
    · intro h
      exact ⟨fun i hi => h i (by omega), h d (by omega)⟩
/-- a number is a multiple of the least one exactly if n, n - 1, .. divide it -/
theorem least_parts {n d : Nat} (h1 : 1 ≤ n) (h6 : n ≤ 60) (hd : d ≤ n) (c : Nat) : leastL n d ∣ c ↔ ∀ i, i < d → (n - i) ∣ c := by
  rw [← leastP_eq h1 h6 hd]
  exact leastP_dvd n c d
def partsV (n d : Nat) : List Nat := (List.range d).map fun i => n - i
theorem parts_at {n d i : Nat} (h : i < d) : (partsV n d)[i]? = some (n - i) := by
  unfold partsV
  rw [List.getElem?_map, List.getElem?_range h]
  rfl
theorem parts_len (n d : Nat) : (partsV n d).length = d := by
  unfold partsV
  rw [List.length_map, List.length_range]
def wdsL (n c d : Nat) : List Nat := (List.range d).map (wd n c)
theorem wds_step (n c d : Nat) : wdsL n c (d + 1) = wdsL n c d ++ [wd n c d] := by
  unfold wdsL
  rw [List.range_succ, List.map_append]
  rfl
theorem wds_len (n c d : Nat) : (wdsL n c d).length = d := by
  unfold wdsL
  rw [List.length_map, List.length_range]
/-- one step of the edges -/
theorem edge_step {n s : Nat} (h : s < n) : n * C (n - 1) s * (n - 1 - s) / (s + 1) = n * C (n - 1) (s + 1) := by
  rw [Nat.mul_assoc, ← C_step (n - 1) s (by omega), ← Nat.mul_assoc, Nat.mul_div_cancel _ (Nat.succ_pos s)]
end Ef
namespace Ef
/-! ### sets and their numbers -/
def many (k : Nat) : Nat → Nat
  | 0 => 0
  | j + 1 => C k j
theorem C_many (k j : Nat) : C (k + 1) j = many k j + C k j := by
  cases j with
  | zero => rw [C_zero, C_zero]; rfl
  | succ j => exact C_ss k j
theorem binZ_many (k j : Nat) : binZ (k : Int) ((j : Int) - 1) = (many k j : Int) := by
  cases j with
  | zero => exact if_pos (.inl (by decide))
  | succ j =>
    rw [show ((j + 1 : Nat) : Int) - 1 = (j : Int) by omega]
    exact binZ_nat k j
/-- the set with the number r among those of j of the k servers from s on -/
def unr : Nat → Nat → Nat → Nat → List Nat
  | _, 0, _, _ => []
  | s, k + 1, j, r => if r < many k j then s :: unr (s + 1) k (j - 1) r else unr (s + 1) k j (r - many k j)
/-- the number of a set among those of its size of the k servers from s on -/
def rnk : Nat → Nat → List Nat → Nat
  | _, 0, _ => 0
  | s, k + 1, ms => if ms.head? = some s then rnk (s + 1) k ms.tail else many k ms.length + rnk (s + 1) k ms
def Sub (s k : Nat) (ms : List Nat) : Prop := ms.Pairwise (· < ·) ∧ ∀ m ∈ ms, s ≤ m ∧ m < s + k
theorem unr_spec : ∀ (k s j r : Nat), r < C k j → (unr s k j r).length = j ∧ Sub s k (unr s k j r) ∧ rnk s k (unr s k j r) = r
  | 0, s, j, r, h => by
    cases j with
    | zero =>
      have h0 : r < 1 := h
      exact ⟨rfl, ⟨List.Pairwise.nil, fun m hm => absurd hm List.not_mem_nil⟩, by show 0 = r; omega⟩
    | succ j => exact absurd h (Nat.not_lt_zero _)
  | k + 1, s, j, r, h => by
    rw [C_many] at h
    by_cases c : r < many k j
    · have e : unr s (k + 1) j r = s :: unr (s + 1) k (j - 1) r := if_pos c
      cases j with
      | zero => exact absurd c (Nat.not_lt_zero _)
      | succ j =>
        obtain ⟨h1, h2, h3⟩ := unr_spec k (s + 1) j r c
        rw [e]
        refine ⟨?_, ⟨?_, ?_⟩, ?_⟩
        · show (unr (s + 1) k j r).length + 1 = j + 1
          rw [h1]
        · refine List.Pairwise.cons (fun m hm => ?_) h2.1
          have := h2.2 m hm
          omega
        · intro m hm
          rcases List.mem_cons.mp hm with rfl | hm
          · omega
          · have := h2.2 m hm
            omega
        · have e3 : rnk s (k + 1) (s :: unr (s + 1) k j r) = rnk (s + 1) k (unr (s + 1) k j r) := if_pos rfl
          exact e3.trans h3
    · have e : unr s (k + 1) j r = unr (s + 1) k j (r - many k j) := if_neg c
      obtain ⟨h1, h2, h3⟩ := unr_spec k (s + 1) j (r - many k j) (by omega)
      rw [e]
      refine ⟨h1, ⟨h2.1, fun m hm => by have := h2.2 m hm; omega⟩, ?_⟩
      have hh : ¬ (unr (s + 1) k j (r - many k j)).head? = some s := fun z => by
        have hm : s ∈ unr (s + 1) k j (r - many k j) := List.mem_of_mem_head? z
        have := h2.2 s hm
        omega
      show (if (unr (s + 1) k j (r - many k j)).head? = some s then _ else many k (unr (s + 1) k j (r - many k j)).length + rnk (s + 1) k (unr (s + 1) k j (r - many k j))) = r
      rw [if_neg hh, h1, h3]
      omega
theorem rnk_spec : ∀ (k s : Nat) (ms : List Nat), Sub s k ms → rnk s k ms < C k ms.length ∧ unr s k ms.length (rnk s k ms) = ms
  | 0, s, ms, h => by
    cases ms with
    | nil => exact ⟨Nat.one_pos, rfl⟩
    | cons m r =>
      have := h.2 m List.mem_cons_self
      omega
  | k + 1, s, ms, h => by
    by_cases c : ms.head? = some s
    · cases ms with
      | nil => cases c
      | cons m t =>
        obtain rfl : m = s := Option.some.inj c
        have ht : Sub (m + 1) k t := ⟨(List.pairwise_cons.mp h.1).2, fun x hx => by
          have h1 := (List.pairwise_cons.mp h.1).1 x hx
          have h2 := h.2 x (List.mem_cons_of_mem _ hx)
          omega⟩
        obtain ⟨h1, h2⟩ := rnk_spec k (m + 1) t ht
        have e : rnk m (k + 1) (m :: t) = rnk (m + 1) k t := if_pos rfl
        rw [e]
        have hm : rnk (m + 1) k t < many k (t.length + 1) := h1
        refine ⟨?_, ?_⟩
        · rw [C_many]
          exact Nat.lt_of_lt_of_le hm (Nat.le_add_right _ _)
        · show unr m (k + 1) (t.length + 1) (rnk (m + 1) k t) = m :: t
          have e2 : unr m (k + 1) (t.length + 1) (rnk (m + 1) k t) = m :: unr (m + 1) k t.length (rnk (m + 1) k t) := if_pos hm
          rw [e2, h2]
    · have hs : Sub (s + 1) k ms := ⟨h.1, fun x hx => by
        have h2 := h.2 x hx
        have hne : x ≠ s := fun z => by
          subst z
          cases ms with
          | nil => cases hx
          | cons m t =>
            rcases List.mem_cons.mp hx with z | hx
            · exact c (by rw [z]; rfl)
            · have h3 := (List.pairwise_cons.mp h.1).1 x hx
              have h4 := h.2 m List.mem_cons_self
              omega
        omega⟩
      obtain ⟨h1, h2⟩ := rnk_spec k (s + 1) ms hs
      have e : rnk s (k + 1) ms = many k ms.length + rnk (s + 1) k ms := if_neg c
      rw [e]
      refine ⟨by rw [C_many]; omega, ?_⟩
      have e2 : unr s (k + 1) ms.length (many k ms.length + rnk (s + 1) k ms) = unr (s + 1) k ms.length (many k ms.length + rnk (s + 1) k ms - many k ms.length) := if_neg (by omega)
      rw [e2, Nat.add_sub_cancel_left, h2]
/-! the small sets, one after the other -/
def allG (few : Nat) : Nat → List (List Nat)
  | 0 => [[]]
  | i + 1 => allG few i ++ ((allG few i).filter fun s => decide (s.length < few)).map fun s => s ++ [i]
def allS (n few : Nat) : List (List Nat) := (allG few n).filter fun s => decide (s.length = few)
def inOrder (n few : Nat) : List (List Nat) := (List.range (C n few)).map (unr 0 n few)
def codeN : List Nat → Nat
  | [] => 0
  | d :: r => d * 8 ^ r.length + codeN r
def smallOk (n few : Nat) : Bool := (allS n few).isPerm (inOrder n few) && decide ((inOrder n few).Pairwise fun a b => codeN a < codeN b)
theorem small_sets : ((List.range 6).all fun i => (List.range (i + 3)).all fun few => smallOk (i + 2) few) = true := by decide +kernel
theorem small_lens : ((List.range 6).all fun i => (List.range (i + 3)).all fun few => decide (C (i + 2) few < 64) && (allS (i + 2) few).all fun s => decide (s.length = few) && s.all fun m => decide (m < 8)) = true := by decide +kernel
theorem gen_lens : ((List.range 6).all fun i => (List.range (i + 3)).all fun few => (List.range (i + 3)).all fun t => decide ((allG few t).length ≤ 200) && (allG few t).all fun s => decide (s.length ≤ 8)) = true := by decide +kernel
theorem small_sets' {n k : Nat} (h2 : 2 ≤ n) (h7 : n ≤ 7) (hk : k ≤ n) : (allS n k).Perm (inOrder n k) ∧ (inOrder n k).Pairwise (fun a b => codeN a < codeN b) ∧ C n k < 64 ∧ ∀ s ∈ allS n k, s.length = k ∧ ∀ m ∈ s, m < 8 := by
  obtain ⟨i, rfl⟩ : ∃ i, n = i + 2 := ⟨n - 2, by omega⟩
  have h1 := List.all_eq_true.mp (List.all_eq_true.mp small_sets i (List.mem_range.mpr (by omega))) k (List.mem_range.mpr (by omega))
  unfold smallOk at h1
  rw [Bool.and_eq_true] at h1
  have h3 := List.all_eq_true.mp (List.all_eq_true.mp small_lens i (List.mem_range.mpr (by omega))) k (List.mem_range.mpr (by omega))
  rw [Bool.and_eq_true] at h3
  refine ⟨List.isPerm_iff.mp h1.1, of_decide_eq_true h1.2, of_decide_eq_true h3.1, fun s hs => ?_⟩
  have h4 := List.all_eq_true.mp h3.2 s hs
  rw [Bool.and_eq_true] at h4
  exact ⟨of_decide_eq_true h4.1, fun m hm => of_decide_eq_true (List.all_eq_true.mp h4.2 m hm)⟩
theorem gen_lens' {n k t : Nat} (h2 : 2 ≤ n) (h7 : n ≤ 7) (hk : k ≤ n) (ht : t ≤ n) : (allG k t).length ≤ 200 ∧ ∀ s ∈ allG k t, s.length ≤ 8 := by
  obtain ⟨i, rfl⟩ : ∃ i, n = i + 2 := ⟨n - 2, by omega⟩
  have h1 := List.all_eq_true.mp (List.all_eq_true.mp (List.all_eq_true.mp gen_lens i (List.mem_range.mpr (by omega))) k (List.mem_range.mpr (by omega))) t (List.mem_range.mpr (by omega))
  rw [Bool.and_eq_true] at h1
  exact ⟨of_decide_eq_true h1.1, fun s hs => of_decide_eq_true (List.all_eq_true.mp h1.2 s hs)⟩
theorem code_inj {L : List (List Nat)} (h : L.Pairwise fun a b => codeN a < codeN b) {a b : List Nat} (ha : a ∈ L) (hb : b ∈ L) (e : codeN a = codeN b) : a = b := by
  induction L with
  | nil => cases ha
  | cons x r ih =>
    obtain ⟨h1, h2⟩ := List.pairwise_cons.mp h
    rcases List.mem_cons.mp ha with e1 | ha2
    · rcases List.mem_cons.mp hb with e2 | hb2
      · rw [e1, e2]
      · have := h1 b hb2
        rw [← e1] at this
        omega
    · rcases List.mem_cons.mp hb with e2 | hb2
      · have := h1 a ha2
        rw [← e2] at this
        omega
      · exact ih h2 ha2 hb2
theorem order_unique {L M : List (List Nat)} (hM : M.Pairwise fun a b => codeN a < codeN b) (hL : L.Pairwise fun a b => codeN a ≤ codeN b) (h : L.Perm M) : L = M := by
  induction M generalizing L with
  | nil => exact List.perm_nil.mp h
  | cons x r ih =>
    cases L with
    | nil => exact absurd h.length_eq (by simp)
    | cons y t =>
      obtain ⟨h1, h2⟩ := List.pairwise_cons.mp hM
      obtain ⟨h3, h4⟩ := List.pairwise_cons.mp hL
      have hyx : y = x := by
        have hy : y ∈ x :: r := h.mem_iff.mp List.mem_cons_self
        have hx : x ∈ y :: t := h.mem_iff.mpr List.mem_cons_self
        rcases List.mem_cons.mp hy with e | hy
        · exact e
        · rcases List.mem_cons.mp hx with e | hx
          · exact e.symm
          · have h5 := h1 y hy
            have h6 := h3 x hx
            omega
      subst hyx
      rw [ih h2 h4 h.cons_inv]
end Ef
namespace Ef
open PySem PySem.Spec PyProof.Rows L2
/-! ### a call whose arguments are all given by name -/
def permL {α : Type} (perm : List Nat) (n : Nat) (us ws : List α) : List α :=
  if us.length = 0 ∧ ws.length = n then perm.filterMap (fun i => ws[i]?) else []
theorem paired_len {α β : Type} {F : α → β → Prop} : ∀ {l : List α} {m : List β}, Paired F l m → l.length = m.length
  | _, _, .nil => rfl
  | _, _, .cons _ t => congrArg (· + 1) (paired_len t)
theorem paired_at {α β : Type} {F : α → β → Prop} : ∀ {l : List α} {m : List β}, Paired F l m → ∀ i : Nat, (l[i]? = none ∧ m[i]? = none) ∨ ∃ x y, l[i]? = some x ∧ m[i]? = some y ∧ F x y
  | _, _, .nil, _ => .inl ⟨rfl, rfl⟩
  | _, _, .cons h _, 0 => .inr ⟨_, _, rfl, rfl, h⟩
  | _, _, .cons _ t, i + 1 => by
    rw [List.getElem?_cons_succ, List.getElem?_cons_succ]
    exact paired_at t i
theorem paired_pick {α β : Type} {F : α → β → Prop} {l : List α} {m : List β} (h : Paired F l m) : ∀ perm : List Nat, Paired F (perm.filterMap (fun i => l[i]?)) (perm.filterMap (fun i => m[i]?))
  | [] => .nil
  | i :: r => by
    rcases paired_at h i with ⟨e1, e2⟩ | ⟨x, y, e1, e2, f⟩
    · rw [List.filterMap_cons_none e1, List.filterMap_cons_none e2]
      exact paired_pick h r
    · rw [List.filterMap_cons_some e1, List.filterMap_cons_some e2]
      exact .cons f (paired_pick h r)
theorem permL_rel {perm : List Nat} {n : Nat} {vs zs : List V} {us ws : List Value} (r : Vals vs us) (rz : Vals zs ws) : Vals (permL perm n vs zs) (permL perm n us ws) := by
  unfold permL
  rw [paired_len r, paired_len rz]
  by_cases h : us.length = 0 ∧ ws.length = n
  · rw [if_pos h, if_pos h]
    exact paired_pick rz perm
  · rw [if_neg h, if_neg h]
    exact .nil
theorem kb_of {K : PySem.W.Frag} {fd : FuncData} {ps ks : List Str} {perm : List Nat} {n : Nat} (h0 : ps ≠ [])
    (h : ∀ ws : List Value, ws.length = n → bindArgs fd ⟨[], ks.zip ws⟩ = pure (ps.zip (perm.filterMap (fun i => ws[i]?)))) :
    KBinds K fd ps ks (permL perm n) (permL perm n) := by
  refine ⟨fun s us ws _ hl => ?_, fun r rz => permL_rel r rz⟩
  unfold permL at hl ⊢
  by_cases c : us.length = 0 ∧ ws.length = n
  · rw [if_pos c]
    have e : us = [] := List.length_eq_zero_iff.mp c.1
    subst e
    exact .of_eq (h ws c.2)
  · rw [if_neg c] at hl
    exact absurd (List.length_eq_zero_iff.mp hl.symm) h0
theorem Fun_kb {K : PySem.W.Frag} {x qual : Str} {st : Stmt} {f : Addr} {fd : FuncData} {ps ks : List Str} (perm : List Nat) (n : Nat) (F : Fun K x qual st f fd) (h0 : ps ≠ [])
    (h : ∀ (kV doc pm : Value) (an : Option Addr) (cdv ct : Value) (ws : List Value), ws.length = n → bindArgs (PySem.W.fnOf x qual (defArgs st) (defBody st) (defScope st) .none kV doc pm an cdv ct) ⟨[], ks.zip ws⟩ = pure (ps.zip (perm.filterMap (fun i => ws[i]?)))) :
    KBinds K fd ps ks (permL perm n) (permL perm n) := by
  obtain ⟨oc, od, kV, doc, pm, an, cdv, ct, osl, rfl, lk, hcd⟩ := F.ex
  exact kb_of h0 (h kV doc pm an cdv ct)
section
variable {X : Cx} {CX : CXT} {k : Nat} {f : Addr} {fd : FuncData} {ps ks : List Str} {sp : Sp} {E : XK} {x : Str} {p pos : Pos} {kws : List Keyword} {tk : TA}
variable {g : List Value → List Value → List Value} {gV : List V → List V → List V}
/-- f(k = v, ..) -/
theorem pe_kw (F : FnOk X.prog X.w X.K X.mg X.base CX k f fd ps sp) (hr : Room k X.A) (hg : Gl X x) (hm : X.mg x = some (.ref f))
    (hk : PySem.W.keepIn X.K (.ref f) = true) (hb : KBinds X.K fd ps ks g gV) (hx : Passes CX X E) (hkw : PK X kws tk)
    (a1 : (backToKw pos (keywordEach kws X.env)).all (fun z => z.1.isSome) = true := by rfl)
    (a2 : (backToKw pos (keywordEach kws X.env)).filterMap (fun z => z.1) = ks := by rfl)
    (a3 : (x == ("__debug__" : Str)) = false := by decide)
    (a4 : ((backTo pos (starEach [] X.env)).any (fun z => z.1) || (backToKw pos (keywordEach kws X.env)).any (fun z => z.1.isNone)) = false := by rfl) :
    PE X (.Call (.Name x p) [] kws pos) (tCallK sp gV E tNil tk) := by
  refine ⟨fun pins s σ H Q I h => wpAny_Call_Name_kw (ld_glob I hg hm ?_ a3)⟩
  refine PySem.W.callWith_KW0 (h₀ := X.base) I.ok.mod.kin hk a1 ?_ a4
  refine thn (hkw.run pos pins s σ H _ I h) fun ws s2 z => ?_
  obtain ⟨zs, H2, I2, rz, q2⟩ := z
  refine ⟨I2.kIn, ?_⟩
  rw [a2]
  exact run_fnk (us := []) (vs := []) F hr hb hx I2 .nil rz q2
end
/-! ### heaps -/
theorem same_new {H : Hp} {p : Addr} {o : HO} (h : H p = none) : Same H (upd H p o) := fun b x e => by
  rw [upd_ne (ne_of_none e h)]
  exact e
theorem keep_upd {H H1 : Hp} {p : Addr} {o : HO} (s : Same H H1) (h : H p = none) : Same H (upd H1 p o) := fun b x e => by
  rw [upd_ne (ne_of_none e h)]
  exact s b x e
/-- all but what stands at p is as it was -/
def But (p : Addr) (H H' : Hp) : Prop := ∀ b o, b ≠ p → H b = some o → H' b = some o
theorem But.refl (p : Addr) (H : Hp) : But p H H := fun _ _ _ e => e
theorem But.trans {p : Addr} {H H1 H2 : Hp} (s : But p H H1) (t : But p H1 H2) : But p H H2 := fun b o n e => t b o n (s b o n e)
theorem But.same {p : Addr} {H H1 H2 : Hp} (s : But p H H1) (t : Same H1 H2) : But p H H2 := fun b o n e => t b o (s b o n e)
theorem But.of {p : Addr} {H H1 : Hp} (t : Same H H1) : But p H H1 := fun b o _ e => t b o e
theorem But.upd {p : Addr} {H H1 : Hp} {o : HO} (s : But p H H1) : But p H (upd H1 p o) := fun b x n e => by
  rw [upd_ne n]
  exact s b x n e
theorem But.to {p : Addr} {H H1 : Hp} (s : But p H H1) (h : H p = none) : Same H H1 := fun b x e => s b x (ne_of_none e h) e
theorem But.seq {K : PySem.W.Frag} {p a : Addr} {H H' : Hp} {xs : List V} (e : But p H H') (n : a ≠ p) (h : SqL K H a xs) : SqL K H' a xs := by
  rcases h with (h | ⟨o, h⟩) | h
  · exact .inl (.inl (e _ _ n h))
  · exact .inl (.inr ⟨o, e _ _ n h⟩)
  · exact .inr h
end Ef
namespace Ef
open PySem PySem.Spec PyProof.Rows L2
/-! ### promises of defs that are called where no repr is under way -/
structure FnG (P : Program) (w : World) (K : PySem.W.Frag) (mg : Str → Option Value) (base : Heap) (CX : CXT) (k : Nat) (f : Addr) (fd : FuncData) (ps : List Str) (sp : Sp) : Prop where
  len : ∀ vs H Q E, sp vs H Q E → vs.length = ps.length
  run : ∀ (A : Around), A.guards = some [] → ∀ (outer : List Env) (s : Shared) (H : Hp) (args : Args) (us : List Value) (vs : List V) (Q : VK) (E : XK),
    Room k A → Env0 P w K mg base A outer s H → BindsTo s fd args (ps.zip us) → Vals vs us → sp vs H Q E →
      codeAny (model P w) A (.call (.ref f) args) (CR CX outer P w H s Q E) s
section
variable {P : Program} {w : World} {K : PySem.W.Frag} {mg : Str → Option Value} {base : Heap} {CX : CXT}
theorem FnG.of {k : Nat} {f : Addr} {fd : FuncData} {ps : List Str} {sp : Sp} (F : FnOk P w K mg base CX k f fd ps sp) : FnG P w K mg base CX k f fd ps sp :=
  ⟨F.len, fun A _ outer s H args us vs Q E => F.run A outer s H args us vs Q E⟩
theorem Fun_okG {x qual : Str} {st : Stmt} {f : Addr} {fd : FuncData} {N ps : List Str} {k : Nat} {sp : Sp} (F : Fun K x qual st f fd) (S : FnScope N ps (defScope st)) (len : ∀ vs H Q E, sp vs H Q E → vs.length = ps.length)
    (bod : ∀ (cdv : Value) (A : Around) (outer : List Env) (s : Shared) (H : Hp) (vs : List V) (Q : VK) (E : XK), A.guards = some [] → Room k (A.deeper (envOfC qual (defScope st) s.heap.objs.size f cdv)) → sp vs H Q E →
      ∃ t, PSs (cxOf CX P w K mg base N qual (defScope st) f cdv A outer s H E) (defBody st) t ∧ t { nx := fun _ H' => Q .non H', rt := Q } (start N vs) H) :
    FnG P w K mg base CX (k + 1) f fd ps sp := by
  obtain ⟨oc, od, kV, doc, pm, an, cdv, ct, osl, rfl, lk, hcd⟩ := F.ex
  refine ⟨len, fun A gd outer s H args us vs Q E room e0 bnd rel wish => ?_⟩
  have kin : K.In s.heap := e0.mod.kin.keeps fun b o z => (e0.bs b o z).1
  have nolim : s.heap.NoLimit := e0.mod.nolimit.keeps fun b o z => (e0.bs b o z).1
  refine codeAny_call_function room.depth (kin _ _ lk) rfl S.co S.gen rfl (PySem.W.codeRec_of kin hcd) (bnd _ _ _ _ ?_)
  refine wpAny_newFunctionEnv_cells S.kind ?_ fun env hev s1 ic => ?_
  · rintro ⟨n, v⟩ hy
    rcases S.par n (List.of_mem_zip hy).1 with z | z
    · exact .inl z
    · exact .inr ⟨z, PySem.W.cellsFrom_some _ _ _ (.inl z)⟩
  · subst hev
    refine ⟨nolim.keeps ic.toInCall.keep, codeAny_func ?_⟩
    obtain ⟨t, pt, rd⟩ := bod cdv A outer s H vs Q E gd (room.deeper _) wish
    have J0 := inv_start (CX := CX) (E := E) S room.hd e0 (len _ _ _ _ wish) rel ic
    refine wpAny_mono (pt.run [] s1 (start N vs) H _ J0 rd) (fun fl s' got => ?_) fun e s' got => got
    cases fl with
    | brk =>
      obtain ⟨_, _, _, z⟩ := got
      exact z.elim
    | cont =>
      obtain ⟨_, _, _, z⟩ := got
      exact z.elim
    | next =>
      obtain ⟨σ', H', J, z⟩ := got
      exact ⟨V.non, H', J.os, J.bare, J.base, J.hok, (rfl : RelV V.non Value.none), z⟩
    | ret u =>
      obtain ⟨v, σ', H', J, rv, z⟩ := got
      exact ⟨v, H', J.os, J.bare, J.base, J.hok, rv, z⟩
end
/-- the same of a def that lets no exception out -/
theorem Fun_ok0 {P : Program} {w : World} {K : PySem.W.Frag} {mg : Str → Option Value} {base : Heap} {x qual : Str} {st : Stmt} {f : Addr} {fd : FuncData} {N ps : List Str} {k : Nat} {sp : Sp} (F : Fun K x qual st f fd) (S : FnScope N ps (defScope st)) (len : ∀ vs H Q E, sp vs H Q E → vs.length = ps.length)
    (bod : ∀ (cdv : Value) (A : Around) (outer : List Env) (s : Shared) (H : Hp) (vs : List V) (Q : VK) (E : XK), A.guards = some [] → Room k (A.deeper (envOfC qual (defScope st) s.heap.objs.size f cdv)) → sp vs H Q E →
      ∃ t, PSs (cxOf CX0 P w K mg base N qual (defScope st) f cdv A outer s H E).nox (defBody st) t ∧ t { nx := fun _ H' => Q .non H', rt := Q } (start N vs) H) :
    FnG P w K mg base CX0 (k + 1) f fd ps sp :=
  Fun_okG F S len fun cdv A outer s H vs Q E gd room wish => by
    obtain ⟨t, pt, rd⟩ := bod cdv A outer s H vs Q E gd room wish
    exact ⟨t, pt.nox, rd⟩
section
variable {X : Cx} {CX : CXT} {k : Nat} {f : Addr} {fd : FuncData} {ps : List Str} {sp : Sp} {E : XK} {x : Str} {p pos : Pos} {e : Expr} {es : List Expr} {t : TA}
theorem run_G {pins : List (Addr × Obj)} {σ : L2.St} {H : Hp} {s : Shared} {Q : VK} {us : List Value} {vs : List V} (F : FnG X.prog X.w X.K X.mg X.base CX k f fd ps sp)
    (gd : X.A.guards = some []) (room : Room k X.A) (bnd : Binds X.K fd ps []) (pass : Passes CX X E) (I : Inv X pins σ H s) (rel : Vals vs us) (wish : sp vs H Q E) :
    wpAny (model X.prog X.w) X.A (call (.ref f) us) (EP X pins σ Q) X.xe s := by
  have hl : (us ++ []).length = ps.length := by
    rw [List.append_nil, ← rel.length]
    exact F.len _ _ _ _ wish
  have b1 := bnd s us I.kIn hl
  rw [List.append_nil] at b1
  refine wpAny_call (codeAny_mono (F.run X.A gd X.stack s H ⟨us, []⟩ us vs Q E room I.env0 b1 rel wish) fun res s' got => ?_)
  cases res with
  | error z => exact pass pins σ H s z s' I got
  | ok fl =>
    cases fl with
    | ret u => exact I.after got
    | next => exact got.elim
    | brk => exact got.elim
    | cont => exact got.elim
/-- f(e, ..) of a def whose promise holds where no repr is under way -/
theorem pe_callG (F : FnG X.prog X.w X.K X.mg X.base CX k f fd ps sp) (gd : X.A.guards = some []) (room : Room k X.A) (hg : Gl X x) (hm : X.mg x = some (.ref f))
    (hk : PySem.W.keepIn X.K (.ref f) = true) (bnd : Binds X.K fd ps []) (pass : Passes CX X E) (ha : PA X (e :: es) t)
    (a1 : (x == ("__debug__" : Str)) = false := by decide) (a2 : starEach (e :: es) X.env = (false, eval e X.env) :: starEach es X.env := by rfl)
    (a3 : (backTo pos (starEach es X.env)).any (fun z => z.1) = false := by rfl) :
    PE X (.Call (.Name x p) (e :: es) [] pos) (tCall sp [] E t) := by
  refine ⟨fun pins s σ H Q I h => wpAny_Call_Name_kw (ld_glob I hg hm ?_ a1)⟩
  refine PySem.W.callWith_K (h₀ := X.base) I.ok.mod.kin hk (thn (ha.run pos pins s σ H _ I h) fun us s1 z => ?_) a2 a3
  obtain ⟨vs, H1, I1, r, q⟩ := z
  rw [List.append_nil] at q
  exact ⟨I1.kIn, run_G F gd room bnd pass I1 r q⟩
end
/-! ### the law's own end, where no repr is under way -/
def scriptObj (vs : List Value) : Obj := { cls := .type "list", data := .seq vs.toArray }
def scriptHp (K : PySem.W.Frag) (a : Addr) (vs : List Value) (ns : List Int) : Hp := fun b => if b = a ∧ K.lookup a = none then some (.frz (scriptObj vs) (.lst (ns.map V.int))) else none
section
variable {K : PySem.W.Frag} {a : Addr} {vs : List Value} {ns : List Int}
theorem scriptHp_only : Only (scriptHp K a vs ns) := fun b => by
  unfold scriptHp
  by_cases c : b = a ∧ K.lookup a = none
  · exact .inr ⟨_, _, if_pos c⟩
  · exact .inl (if_neg c)
theorem scriptHp_some {b : Addr} {u : HO} (h : scriptHp K a vs ns b = some u) : b = a ∧ K.lookup a = none ∧ u = .frz (scriptObj vs) (.lst (ns.map V.int)) := by
  unfold scriptHp at h
  by_cases c : b = a ∧ K.lookup a = none
  · rw [if_pos c] at h
    exact ⟨c.1, c.2, (Option.some.inj h).symm⟩
  · rw [if_neg c] at h
    cases h
theorem scriptHp_none {b : Addr} {o : Obj} {h : Heap} (ha : h.get? a = some (scriptObj vs)) (e : h.get? b = some o) (hd : ∀ its n, o.data ≠ .seq its n) : scriptHp K a vs ns b = none := by
  cases q : scriptHp K a vs ns b with
  | none => rfl
  | some u =>
    obtain ⟨rfl, _, _⟩ := scriptHp_some q
    rw [ha] at e
    cases e
    exact absurd rfl (hd vs.toArray _)
theorem lawG {l : PySem.W.OpenLaw} {n k : Nat} {q : Program} {loose : List Str} {XP : (Str → Option Value) → Heap → Prop} {YP : World → Heap → Prop} {d : DefRec} {K : Params → PySem.W.Frag} {sp : World → Sp} {x : Str}
    (hn : l.most = some n) (hn2 : n ≤ sizeLine) (hdf : d.params.defaults = []) (room : Room k callerA)
    (hY : ∀ (w : World) (h : Heap), YP w h → (K w.params).In h)
    (F : ∀ (w : World) (mg : Str → Option Value) (fa : Addr) (h : Heap), (K w.params).In h → h.Ns mainGlobals mg → mg d.name = some (.ref fa) →
      ∃ fd : FuncData, (∀ (s : Shared) (u : Value), BindsTo s fd ⟨[u], []⟩ [(x, u)]) ∧
        ∀ base : Heap, (K w.params).In base → base.Ns mainGlobals mg → FnG l.prog w (K w.params) mg base CX0 k fa fd [x] (sp w))
    (hsp : ∀ (w : World) (H : Hp) (a : Addr) (ns : List Int), ns.length ≤ n → Only H → SqL (K w.params) H a (ns.map V.int) → sp w [.ref a] H (fun v _ => v = .bl true) fun _ _ _ => False) :
    PySem.W.WalkO q loose XP YP l.row.toRowW d [] (fun f vs => PySem.call f vs) := by
  refine Att.attach_call hn hdf fun w s₀ s₁ mg mb fa o pm cd doc a vs ns G Y ho hd hcd hmg hobj hints hlen hgen => ?_
  have kin := hY w _ Y
  obtain ⟨fd, bnd, FF⟩ := F w mg fa _ kin G.T.g hmg
  have ha : s₁.heap.get? a = some (scriptObj vs) := hobj
  have short : ns.length ≤ sizeLine := Nat.le_trans hlen hn2
  have keep0 : ∀ {b : Addr} {o : Obj}, s₁.heap.get? b = some o → scriptHp (K w.params) a vs ns b = none → (hidT s₁.heap (scriptHp (K w.params) a vs ns)).get? b = some o := fun e z => hidT_get e z
  have nsK : ∀ {b : Addr} {m : Str → Option Value}, s₁.heap.Ns b m → (hidT s₁.heap (scriptHp (K w.params) a vs ns)).Ns b m := by
    rintro b m ⟨o, es, ep, e, dd, r⟩
    exact ⟨o, es, ep, keep0 e (scriptHp_none ha e fun its n z => by rw [dd] at z; cases z), dd, r⟩
  have kinB : (K w.params).In (hidT s₁.heap (scriptHp (K w.params) a vs ns)) := fun b o e => keep0 (kin b o e) (by
    cases z : scriptHp (K w.params) a vs ns b with
    | none => rfl
    | some u =>
      obtain ⟨rfl, z2, _⟩ := scriptHp_some z
      rw [z2] at e
      cases e)
  have hM : Mod (K w.params) mg (hidT s₁.heap (scriptHp (K w.params) a vs ns)) := by
    obtain ⟨mc, h1, h2⟩ := G.T.nolimit
    exact ⟨kinB, nsK G.T.g, ⟨mb, nsK G.T.b, G.T.builtins⟩, ⟨mc, nsK h1, h2⟩⟩
  have hok : HOk l.prog w (scriptHp (K w.params) a vs ns) s₁.heap := fun b u z => by
    obtain ⟨rfl, _, rfl⟩ := scriptHp_some z
    exact ⟨ha, by rw [List.length_map]; exact short, vs, _, vals_ints hints, ha⟩
  have hS : SqL (K w.params) (scriptHp (K w.params) a vs ns) a (ns.map V.int) := by
    cases hk : (K w.params).lookup a with
    | none => exact .inl (.inr ⟨scriptObj vs, if_pos ⟨rfl, hk⟩⟩)
    | some o =>
      have e := kin a o hk
      rw [ha] at e
      obtain rfl := Option.some.inj e
      exact .inr ⟨_, vs.toArray, _, hk, rfl, rfl, rfl, by rw [List.size_toArray, hints.length]; exact short, by simpa using vals_ints hints⟩
  have e0 : Env0 l.prog w (K w.params) mg (hidT s₁.heap (scriptHp (K w.params) a vs ns)) callerA [] s₁ (scriptHp (K w.params) a vs ns) :=
    ⟨rfl, hM, fun b o e => of_hidT e, Nat.le_of_eq (hidT_size _ _), trivial, fun b z => absurd (show b ∈ ([] : List Addr) from z) (by simp), hok, .of_eq hgen⟩
  refine codeAny_mono ((FF _ kinB (nsK G.T.g)).run callerA rfl [] s₁ _ ⟨[.ref a], []⟩ [.ref a] [.ref a] _ _ room e0 (bnd s₁ (.ref a)) (.cons rfl .nil) (hsp w _ a ns hlen scriptHp_only hS)) fun r s' got => ?_
  cases r with
  | error e => exact got.elim
  | ok fl =>
    cases fl with
    | next => exact got.elim
    | brk => exact got.elim
    | cont => exact got.elim
    | ret u =>
      obtain ⟨v, H', os, bare, un, hok', rv, z⟩ := got
      obtain rfl : v = .bl true := z
      obtain rfl : u = Value.bool true := rv
      refine ⟨rfl, OldK.of_keep fun b o e => ?_, os, bare⟩
      cases z : scriptHp (K w.params) a vs ns b with
      | none => exact un.keep b o e z (fun y => absurd (show b ∈ ([] : List Addr) from y) (by simp)) (by simp)
      | some u =>
        obtain ⟨_, _, rfl⟩ := scriptHp_some z
        have z2 := un.frzs b _ _ z
        obtain ⟨e1, _⟩ := hok b _ z
        obtain ⟨e2, _⟩ := hok' b _ z2
        rw [e] at e1
        obtain rfl := Option.some.inj e1
        exact e2
end
/-! ### repr of data -/
theorem Dp_ref {K : PySem.W.Frag} {H : Hp} {v : V} {d : PyData} (h : Dp K H v d) : (∃ a, v = .ref a) ∨ (v = .non ∧ d = .none) ∨ (∃ b, v = .bl b ∧ d = .bool b) ∨ (∃ i, v = .int i ∧ d = .int i) ∨ ∃ x, v = .str x ∧ d = .str x := by
  cases h with
  | non => exact .inr (.inl ⟨rfl, rfl⟩)
  | bl b => exact .inr (.inr (.inl ⟨b, rfl, rfl⟩))
  | int i => exact .inr (.inr (.inr (.inl ⟨i, rfl, rfl⟩)))
  | str x => exact .inr (.inr (.inr (.inr ⟨x, rfl, rfl⟩)))
  | lst _ _ => exact .inl ⟨_, rfl⟩
  | tup _ _ => exact .inl ⟨_, rfl⟩
/-- data that can be shown: not deeper than dp, not heavier than wt -/
structure Sh (dp wt : Nat) (d : PyData) : Prop where
  can : d.canLay0 = true
  dep : d.depth ≤ dp
  shw : d.showable = true
  lvs : d.leavesShort 200 = true
  wgt : d.weight ≤ wt
structure ShAll (dp wt : Nat) (ds : List PyData) : Prop where
  can : PyData.canLayAll0 ds = true
  dep : PyData.depthAll ds ≤ dp
  shw : PyData.showableAll ds = true
  lvs : PyData.leavesShortAll 200 ds = true
  wgt : PyData.weightAll ds ≤ wt
theorem Sh.mono {dp wt dp' wt' : Nat} {d : PyData} (h : Sh dp wt d) (h1 : dp ≤ dp') (h2 : wt ≤ wt') : Sh dp' wt' d := ⟨h.can, Nat.le_trans h.dep h1, h.shw, h.lvs, Nat.le_trans h.wgt h2⟩
theorem ShAll.mono {dp wt dp' wt' : Nat} {ds : List PyData} (h : ShAll dp wt ds) (h1 : dp ≤ dp') (h2 : wt ≤ wt') : ShAll dp' wt' ds := ⟨h.can, Nat.le_trans h.dep h1, h.shw, h.lvs, Nat.le_trans h.wgt h2⟩
theorem Sh.none : Sh 0 0 .none := ⟨rfl, Nat.le_refl _, rfl, rfl, Nat.le_refl _⟩
theorem Sh.bool (b : Bool) : Sh 0 0 (.bool b) := ⟨rfl, Nat.le_refl _, rfl, rfl, Nat.le_refl _⟩
theorem Sh.int {b : Nat} (h0 : 0 < b) (h6 : b ≤ 600) {i : Int} (h : i.natAbs < 2 ^ b) : Sh 0 b (.int i) := by
  have l2 := PySem.Flt.log2_lt_of h0 h
  refine ⟨rfl, Nat.le_refl _, decide_eq_true (by omega), decide_eq_true ?_, ?_⟩
  · have h1 : i.natAbs < 10 ^ 199 := Nat.lt_of_lt_of_le h (Nat.le_trans (Nat.pow_le_pow_right (by decide) h6) (by decide +kernel))
    have e := int_text_length_le10 (k := 199) (by decide) h1
    show (Str.ofString (toString i)).length ≤ 200
    rw [PySem.ofString_length]
    exact e
  · show (if i == 0 then 0 else i.natAbs.log2 + 1) ≤ b
    split <;> omega
theorem Sh.tup {dp wt : Nat} {ds : List PyData} (h : ShAll dp wt ds) : Sh (dp + 1) wt (.tuple ds) := ⟨h.can, Nat.add_le_add_right h.dep 1, h.shw, h.lvs, h.wgt⟩
theorem Sh.lst {dp wt : Nat} {ds : List PyData} (h : ShAll dp wt ds) : Sh (dp + 1) wt (.list ds) := ⟨h.can, Nat.add_le_add_right h.dep 1, h.shw, h.lvs, h.wgt⟩
theorem ShAll.nil : ShAll 0 0 [] := ⟨rfl, Nat.le_refl _, rfl, rfl, Nat.le_refl _⟩
theorem ShAll.cons {dp wt wt' : Nat} {d : PyData} {ds : List PyData} (h : Sh dp wt d) (t : ShAll dp wt' ds) : ShAll dp (wt + 1 + wt') (d :: ds) := by
  refine ⟨?_, Nat.max_le.mpr ⟨h.dep, t.dep⟩, ?_, ?_, ?_⟩
  · show (d.canLay0 && PyData.canLayAll0 ds) = true
    rw [h.can, t.can]
    rfl
  · show (d.showable && PyData.showableAll ds) = true
    rw [h.shw, t.shw]
    rfl
  · show (d.leavesShort 200 && PyData.leavesShortAll 200 ds) = true
    rw [h.lvs, t.lvs]
    rfl
  · show d.weight + 1 + PyData.weightAll ds ≤ wt + 1 + wt'
    have h1 := h.wgt
    have h2 := t.wgt
    omega
theorem ShAll.ints {b : Nat} (h0 : 0 < b) (h6 : b ≤ 600) : ∀ {ns : List Int}, (∀ x ∈ ns, x.natAbs < 2 ^ b) → ShAll 0 ((b + 1) * ns.length) (ns.map PyData.int)
  | [], _ => ShAll.nil
  | x :: r, h => by
    have h1 := ShAll.cons (Sh.int h0 h6 (h x List.mem_cons_self)) (ShAll.ints h0 h6 fun y hy => h y (List.mem_cons_of_mem _ hy))
    exact h1.mono (Nat.le_refl _) (by rw [List.length_cons, Nat.mul_succ]; omega)
theorem Sh.shaped {dp wt : Nat} {d : PyData} (h : Sh dp wt d) (h1 : dp ≤ 64) : SeqAt.shaped d = true := by
  unfold SeqAt.shaped
  rw [h.can]
  exact decide_eq_true (Nat.le_trans h.dep h1)
theorem Sh.fits {dp wt : Nat} {d : PyData} (h : Sh dp wt d) (h1 : wt ≤ 80000) : d.shown.length ≤ sizeLine := by
  have h2 := PyData.shown_le 200 (by decide) d h.lvs
  have h3 := h.wgt
  have h4 : (200 + 2) * d.weight ≤ 202 * 80000 := Nat.mul_le_mul (by omega) (by omega)
  have h5 : sizeLine = 16777216 := by decide
  omega
theorem dp_ints {K : PySem.W.Frag} {H : Hp} : ∀ ns : List Int, DpAll K H (ns.map V.int) (ns.map PyData.int)
  | [] => .nil
  | n :: r => .cons (.int n) (dp_ints r)
theorem eqvAll_ints : ∀ ns : List Int, PyData.eqvAll (ns.map PyData.int) (ns.map PyData.int) = true
  | [] => rfl
  | n :: r => by
    show (PyData.eqv (.int n) (.int n) && PyData.eqvAll (r.map PyData.int) (r.map PyData.int)) = true
    rw [eqvAll_ints r]
    show ((n == n) && true) = true
    rw [beq_self_eq_true]
    rfl
section
variable {X : Cx}
/-- repr(x), x data: its text -/
theorem call_reprD (gd : X.A.guards = some []) (hu : X.A.units + 66 < cLine) : CallR X (.builtin "repr") (fun xs H Q => ∃ v d, xs = [v] ∧ Dp X.K H v d ∧ Sh 60 80000 d ∧ Q (.str d.shown) H) := by
  intro pins s σ H xs us Q I r h
  obtain ⟨v, d, rfl, hD, hd, q⟩ := h
  have hsh := hd.shaped (by decide)
  have hsz := hd.fits (by decide)
  obtain ⟨u, rfl, ru⟩ := vals1 r
  rcases Dp_ref hD with ⟨a, rfl⟩ | ⟨rfl, rfl⟩ | ⟨b, rfl, rfl⟩ | ⟨i, rfl, rfl⟩ | ⟨x, rfl, rfl⟩
  · obtain rfl : u = Value.ref a := ru
    obtain ⟨as, rd⟩ := Dp.reads I d _ _ hD rfl
    have hdp := hd.dep
    refine repr_of_reads' rd hd.shw (PyData.noDict_hsm (PyData.hasDict_of_canLay d hd.can)) gd (by omega) (fun _ _ e => e) (fun h' u tk hk => ?_) hsz
    exact ⟨.str _, H, I.kept hk, ⟨u, rfl⟩, q⟩
  · obtain rfl : u = Value.none := ru
    exact P.repr_of_none ⟨.str _, H, I.tok _, ⟨_, rfl⟩, q⟩
  · obtain rfl : u = Value.bool b := ru
    exact P.repr_of_bool ⟨.str _, H, I.tok _, ⟨_, rfl⟩, q⟩
  · obtain ⟨t, rfl⟩ := ru
    exact P.repr_of_int (of_decide_eq_true hd.shw) ⟨.str _, H, I.tok _, ⟨_, rfl⟩, q⟩
  · obtain ⟨t, rfl⟩ := ru
    exact P.repr_of_str ⟨.str _, H, I.tok _, ⟨_, rfl⟩, q⟩ hsz
/-- a ** b of greater numbers -/
theorem op_powB : OpR X (binaryOp .Pow) (rI (fun i j => 0 ≤ j ∧ (Builtin.Int.intBits i : Int) * j ≤ 2 ^ 27) fun i j => .int (i ^ j.toNat)) := opI fun _ _ _ _ _ _ _ hc q => pow_int hc.1 hc.2 q
/-- set(t), t a tuple of ints -/
theorem cr_setT (hc : X.calm = true) : CallR X (.type "set") (fun xs H Q => ∃ (l : Addr) (ns : List Int), xs = [.ref l] ∧ SqT X.K H l (ns.map V.int) ∧ ns.length ≤ 1000 ∧
    ∀ (p : Addr) (c : Nat), H p = none → Q (.ref p) (upd H p (SetO X.w p (fun j => decide (j ∈ ns)) c))) := by
  intro pins s σ H xs us Q I r h
  obtain ⟨l, ns, rfl, hq, hl, q⟩ := h
  obtain ⟨u, rfl, ru⟩ := vals1 r
  obtain rfl : u = Value.ref l := ru
  obtain ⟨its, rv, pt, hz⟩ := I.tuple hq
  refine call_set_tupI ns (I.ok.hd hc) (show s.heap.IsTuple l its.toArray from pt) (ints_of_vals rv) (by unfold scanBound; omega) fun h' tk c R1 hcn k => ?_
  exact ⟨.ref _, _, I.laid (t' := tk) k (Nat.le_refl _) (setO_new R1), rfl, q _ c (I.hok.fresh (Nat.le_refl _))⟩
end

/-! ### the same rules with the written part as a letter (for comprehensions) -/
section
variable {X : Cx} (K : PySem.W.Frag)
theorem ix_listK (h : X.K = K := by rfl) : IxR X (rIxL K) := h ▸ ix_list
theorem ix_tupK (h : X.K = K := by rfl) : IxR X (rIxT K) := h ▸ ix_tup
theorem op_inK (h : X.K = K := by rfl) : OpR X (compareOp .In) (rIn K false) := h ▸ op_in_seq
theorem op_notInK (h : X.K = K := by rfl) : OpR X (compareOp .NotIn) (rIn K true) := h ▸ op_notIn_seq
def rLenK (K : PySem.W.Frag) : List V → Hp → VK → Prop := fun xs H Q => ∃ p ys, xs = [.ref p] ∧ (SqL K H p ys ∨ SqT K H p ys) ∧ Q (.int ys.length) H
theorem call_lenK (h : X.K = K := by rfl) : CallR X (.builtin "len") (rLenK K) := h ▸ call_len_seq
def rReprK (K : PySem.W.Frag) : List V → Hp → VK → Prop := fun xs H Q => ∃ v d, xs = [v] ∧ Dp K H v d ∧ Sh 60 80000 d ∧ Q (.str d.shown) H
theorem call_reprK (gd : X.A.guards = some []) (hu : X.A.units + 66 < cLine) (h : X.K = K := by rfl) : CallR X (.builtin "repr") (rReprK K) := h ▸ call_reprD gd hu
theorem call_isiK1 (h : X.K = K := by rfl) : CallR X (.builtin "isinstance") (rIsi K) := h ▸ call_isi
def rTupleK (K : PySem.W.Frag) : List V → Hp → VK → Prop := fun xs H Q => ∃ p ys, xs = [.ref p] ∧ ((SqL K H p ys ∧ ∀ l, H l = none → Q (.ref l) (upd H l (.tup ys))) ∨ (SqT K H p ys ∧ Q (.ref p) H))
theorem call_tupleK (h : X.K = K := by rfl) : CallR X (.type "tuple") (rTupleK K) := h ▸ call_tuple_of
def rListK (K : PySem.W.Frag) : List V → Hp → VK → Prop := fun xs H Q => ∃ p ys, xs = [.ref p] ∧ (SqL K H p ys ∨ SqT K H p ys) ∧ ∀ l, H l = none → Q (.ref l) (upd H l (.lst ys))
theorem call_listK (h : X.K = K := by rfl) : CallR X (.type "list") (rListK K) := h ▸ call_list_of
theorem op_eqDK (hu : X.A.units + 64 < cLine) (h : X.K = K := by rfl) : OpR X (compareOp .Eq) (rEqD K) := h ▸ op_eqD hu
theorem op_neDK (hu : X.A.units + 64 < cLine) (h : X.K = K := by rfl) : OpR X (compareOp .NotEq) (rNeD K) := h ▸ op_neD hu
end
end Ef
namespace Ef
open PySem PySem.Spec PyProof.Rows L2
/-! ### tuples: sums, parts, the other way round -/
theorem Same.seqT {K : PySem.W.Frag} {H H' : Hp} {a : Addr} {xs : List V} (e : Same H H') (h : SqT K H a xs) : SqT K H' a xs := by
  rcases h with (h | ⟨o, h⟩) | h
  · exact .inl (.inl (e _ _ h))
  · exact .inl (.inr ⟨o, e _ _ h⟩)
  · exact .inr h
theorem But.seqT {K : PySem.W.Frag} {p a : Addr} {H H' : Hp} {xs : List V} (e : But p H H') (n : ∀ o, H p = some o → a = p → False) (h : SqT K H a xs) : SqT K H' a xs := by
  rcases h with (h | ⟨o, h⟩) | h
  · exact .inl (.inl (e _ _ (fun z => n _ (z ▸ h) z) h))
  · exact .inl (.inr ⟨o, e _ _ (fun z => n _ (z ▸ h) z) h⟩)
  · exact .inr h
/-- t + u -/
def rCatS (K : PySem.W.Frag) : R2 := fun x y H Q => ∃ a b xs ys, x = .ref a ∧ y = .ref b ∧ SqT K H a xs ∧ SqT K H b ys ∧ xs.length + ys.length ≤ sizeLine ∧ ∀ p H', Same H H' → SqT K H' p (xs ++ ys) → Q (.ref p) H'
/-- t[lo:hi] -/
def rSlS (K : PySem.W.Frag) : V → Option Int → Option Int → Hp → VK → Prop := fun x lo hi H Q => ∃ a xs, x = .ref a ∧ SqT K H a xs ∧ ∀ p H', Same H H' → SqT K H' p (cutV xs lo hi) → Q (.ref p) H'
theorem cut_whole {xs : List V} {lo hi : Option Int} (h : HT.sIx xs.length 0 lo = 0 ∧ HT.sIx xs.length xs.length hi = xs.length) : cutV xs lo hi = xs := by
  unfold cutV
  rw [h.1, h.2]
  show (xs.drop 0).take (xs.length - 0) = xs
  rw [List.drop_zero, Nat.sub_zero]
  exact List.take_length
section
variable {X : Cx} (K : PySem.W.Frag)
theorem op_catS (h : X.K = K := by rfl) : OpR X (binaryOp .Add) (rCatS K) := by
  subst h
  intro pins s σ H x y v u Q I rx ry h
  obtain ⟨a, b, xs, ys, rfl, rfl, ha, hb, hz, q⟩ := h
  refine op_catA pins s σ H _ _ v u Q I rx ry ⟨a, b, xs, ys, rfl, rfl, ha, hb, hz, fun z => ?_, fun _ z => ?_, fun _ _ p np => ?_⟩
  · subst z
    exact q b H (Same.refl H) hb
  · subst z
    refine q a H (Same.refl H) ?_
    rw [List.append_nil]
    exact ha
  · exact q p _ (same_new np) (SqT.of upd_same)
theorem sl_tupS (h : X.K = K := by rfl) : SlR X (rSlS K) := by
  subst h
  intro pins s σ H x v vl vu lo hi sl Q I rx hs pl pu h
  obtain ⟨a, xs, rfl, hx, q⟩ := h
  refine sl_tupA pins s σ H _ v vl vu lo hi sl Q I rx hs pl pu ⟨a, xs, rfl, hx, fun z => ?_, fun _ p np => ?_⟩
  · refine q a H (Same.refl H) ?_
    rw [cut_whole z]
    exact hx
  · exact q p _ (same_new np) (SqT.of upd_same)
end
theorem fm_congr {α β : Type} {f g : α → Option β} : ∀ l : List α, (∀ x ∈ l, f x = g x) → l.filterMap f = l.filterMap g
  | [], _ => rfl
  | x :: r, h => by
    have h1 := h x List.mem_cons_self
    have h2 := fm_congr r fun y hy => h y (List.mem_cons_of_mem _ hy)
    cases e : f x with
    | none => rw [List.filterMap_cons_none e, List.filterMap_cons_none (h1 ▸ e), h2]
    | some b => rw [List.filterMap_cons_some e, List.filterMap_cons_some (h1 ▸ e), h2]
theorem range_pick {α : Type} : ∀ (n : Nat) (ys : List α), ys.length = n → (List.range n).filterMap (fun m => ys[m]?) = ys
  | 0, ys, h => by
    rw [List.length_eq_zero_iff.mp h]
    rfl
  | n + 1, ys, h => by
    have hne : ys ≠ [] := fun z => by
      rw [z] at h
      cases h
    have hl : ys.dropLast.length = n := by
      rw [List.length_dropLast]
      omega
    have e : ys = ys.dropLast ++ [ys.getLast hne] := (List.dropLast_concat_getLast hne).symm
    rw [List.range_succ, List.filterMap_append]
    have e1 : (List.range n).filterMap (fun m => ys[m]?) = ys.dropLast := by
      have e3 : (List.range n).filterMap (fun m => ys[m]?) = (List.range n).filterMap (fun m => ys.dropLast[m]?) := by
        refine fm_congr _ fun m hm => ?_
        have hm' : m < ys.dropLast.length := by
          rw [hl]
          exact List.mem_range.mp hm
        have e4 : (ys.dropLast ++ [ys.getLast hne])[m]? = ys.dropLast[m]? := List.getElem?_append_left hm'
        rw [← e4, List.dropLast_concat_getLast hne]
      rw [e3]
      exact range_pick n ys.dropLast hl
    have e2 : [n].filterMap (fun m => ys[m]?) = [ys.getLast hne] := by
      have : ys[n]? = some (ys.getLast hne) := by
        rw [List.getLast_eq_getElem hne, ← List.getElem?_eq_getElem]
        congr 1
        omega
      rw [List.filterMap_cons_some this]
      rfl
    rw [e1, e2]
    exact e.symm
theorem pick_back (xs : Array Value) : ((List.range xs.size).filterMap fun (m : Nat) => xs[(((xs.size : Int) - 1) + (m : Int) * (-1)).toNat]?).toArray = xs.toList.reverse.toArray := by
  congr 1
  have h : xs.toList.reverse.length = xs.size := by
    rw [List.length_reverse, Array.length_toList]
  rw [← range_pick xs.size xs.toList.reverse h]
  refine fm_congr _ fun m hm => ?_
  have hm' : m < xs.size := List.mem_range.mp hm
  have e : (((xs.size : Int) - 1) + (m : Int) * (-1)).toNat = xs.size - 1 - m := by omega
  rw [e, List.getElem?_reverse (by rw [Array.length_toList]; exact hm'), Array.length_toList, Array.getElem?_toList]
section
variable {prog : Program} {w : World} {A : Around} {E : Value → Shared → Prop} {s : Shared}
theorem tuple_back {t sl : Addr} {items : Array Value} {vl vu vs : Value} {Q : Value → Shared → Prop} (ht : IsTup s.heap t items) (hs : s.heap.IsSliceOf sl vl vu vs) (pl : PySem.IsPart vl none) (pu : PySem.IsPart vu none) (ps : PySem.IsPart vs (some (-1)))
    (h : Q (.ref s.heap.objs.size) { s with heap := s.heap.push { cls := .type "tuple", data := .seq items.toList.reverse.toArray } })
    (hsz : items.size ≤ sizeLine) : wpAny (model prog w) A (getItem (.ref t) (.ref sl)) Q E s := by
  have hfit : sizeOk (.seq items.toList.reverse.toArray) := by
    show items.toList.reverse.toArray.size ≤ sizeLine
    rw [List.size_toArray, List.length_reverse, Array.length_toList]
    exact hsz
  obtain ⟨os, hos, hcs, hds⟩ := id hs
  have tys : s.TypeIs (.ref sl) "slice" := ⟨os, hos, hcs⟩
  unfold getItem
  try with_reducible refine wpAny_holding ?_
  first | refine wpAny_bind (wpAny_pure ?_) | skip
  refine wpAny_bind (wpAny_sequenceKey ht.typeIs (by decide) ?_)
  refine wpAny_bind (wpAny_callSpecial?_slot (name := Str.ofString "__getitem__") ht.typeIs PyProof.Rows.slot_tuple_getitem
    (wpAny_call_entry PyProof.Rows.slot_tuple_getitem ht.typeIs PyProof.Rows.entry_tuple_getitem ?_ (PyProof.Rows.args_tuple_getitem _ _)))
  show wpAny _ _ (Builtin.Tuple.tupleItemsOf (.ref t) >>= _) _ _ s
  refine wpAny_bind (PyProof.Rows.tupleItemsOf_ ht ?_)
  refine wpAny_bind (wpAny_typeOf tys ?_)
  rw [if_pos (by decide)]
  have look : ∀ {B : Around} {E : Value → Shared → Prop} {R : Int × Int × Nat → Shared → Prop}, R (((items.size : Int) - 1), -1, items.size) s → wpAny (model prog w) B (Builtin.Slice.sliceApplied (.ref sl) (pure (items.size : Int))) R E s := fun {B E R} hR => by
    unfold Builtin.Slice.sliceApplied Builtin.Slice.sliceFields
    refine wpAny_bind (wpAny_bind (wpAny_field hos hds (x := vl) rfl (wpAny_bind (wpAny_field hos hds (x := vu) rfl (wpAny_bind (wpAny_field hos hds (x := vs) rfl (wpAny_pure ?_)))))))
    refine wpAny_bind (HT.slicePart_ ps ?_)
    show wpAny _ _ (if ((-1 : Int) == 0) = true then _ else _) _ _ s
    rw [if_neg (by decide)]
    refine wpAny_bind (HT.slicePart_ pl (wpAny_bind (HT.slicePart_ pu (wpAny_bind (wpAny_pure ?_)))))
    show wpAny _ _ (pure (((items.size : Int) - 1), (-1 : Int), Builtin.Slice.slicePlaces ((items.size : Int) - 1) (-1) (-1))) _ _ s
    have e : Builtin.Slice.slicePlaces ((items.size : Int) - 1) (-1) (-1) = items.size := by
      unfold Builtin.Slice.slicePlaces
      rw [if_neg (by decide)]
      by_cases c : ((items.size : Int) - 1) > -1
      · rw [if_pos c, show -(-1 : Int) = 1 from rfl, Int.ediv_one]
        omega
      · rw [if_neg c]
        omega
    rw [e]
    exact wpAny_pure hR
  refine wpAny_bind (look ?_)
  have no : ¬ ((((items.size : Int) - 1) == 0 && (-1 : Int) == 1 && items.size == items.size) = true) := by
    intro z
    rw [Bool.and_eq_true, Bool.and_eq_true] at z
    exact absurd z.1.2 (by decide)
  show wpAny _ _ (if (((items.size : Int) - 1) == 0 && (-1 : Int) == 1 && items.size == items.size) = true then _ else _) _ _ s
  rw [if_neg no, pick_back]
  first
    | exact wpAny_bind (m := Builtin.Tuple.tupleExact _) (wpAny_newObj_type (wpAny_pure ⟨_, rfl, wpAny_pure h⟩) hfit)
    | exact wpAny_bind (m := Builtin.Tuple.tupleExact _) (wpAny_newObj_type (wpAny_bind (wpAny_pure (wpAny_pure ⟨_, rfl, wpAny_pure h⟩))) hfit)
    | exact wpAny_bind (wpAny_bind (m := Builtin.Tuple.tupleExact _) (wpAny_newObj_type (wpAny_pure (wpAny_pure ⟨_, rfl, wpAny_pure h⟩)) hfit))
    | exact wpAny_bind (wpAny_bind (m := Builtin.Tuple.tupleExact _) (wpAny_newObj_type (wpAny_pure ⟨_, rfl, wpAny_pure h⟩) hfit))
end
/-! ### t[::-1] -/
def tRevT (K : PySem.W.Frag) (te : TE) : TE := fun σ H Q => te σ H fun x H1 => ∃ a xs, x = .ref a ∧ SqT K H1 a xs ∧ ∀ p, H1 p = none → Q (.ref p) (upd H1 p (.tup xs.reverse))
theorem pe_revT {X : Cx} {e : Expr} {te : TE} {k : Nat} {p1 p2 p3 pos : Pos} (he : PE X e te) : PE X (.Subscript e (.Slice none none (some (.UnaryOp .USub (.Constant (.int 1) k p1) p2)) p3) pos) (tRevT X.K te) := by
  refine ⟨fun pins s σ H Q I h => ?_⟩
  refine Subscript_ (thn (he.run pins s σ H _ I h) fun v s1 z1 => ?_)
  obtain ⟨x, H1, I1, r1, a, xs, ex, hx, q⟩ := z1
  subst ex
  cases r1
  have hst : PO X (some (.UnaryOp .USub (.Constant (.int 1) k p1) p2)) (tPart (tUn (rU fun i => .int (-i)) (tC (.int 1)))) := po_some (pe_un un_neg pe_int)
  refine wpAny_Slice (thn (po_none.run pins s1 σ H1 (fun o H2 => o = none ∧ H2 = H1) I1 ⟨rfl, rfl⟩) fun vl s2 z2 => ?_)
  obtain ⟨l, H2, I2, pl, rfl, rfl⟩ := z2
  refine thn (po_none.run pins s2 σ H2 (fun o H3 => o = none ∧ H3 = H2) I2 ⟨rfl, rfl⟩) fun vu s3 z3 => ?_
  obtain ⟨u, H3, I3, pu, rfl, rfl⟩ := z3
  refine thn (hst.run pins s3 σ H3 (fun o H4 => o = some (-1) ∧ H4 = H3) I3 ⟨1, rfl, -1, rfl, rfl, rfl⟩) fun vs s4 z4 => ?_
  obtain ⟨o, H4, I4, ps, rfl, rfl⟩ := z4
  have I5 : Inv X pins σ H4 { s4 with heap := s4.heap.push { cls := .type "slice", data := .fields #[vl, vu, vs] } } := I4.kept (t' := s4.toks) fun b ob z => Heap.get?_push_of_some _ z
  obtain ⟨its, r, ht, hz⟩ := I5.tuple hx
  show wpAny (model X.prog X.w) X.A (subscriptTail e (.Slice none none (some (.UnaryOp .USub (.Constant (.int 1) k p1) p2)) p3) (.ref a) (.ref s4.heap.objs.size)) (EP X pins σ Q) X.xe _
  refine tail_any (ops := [.ref a, .ref s4.heap.objs.size]) ht.typeIs (PyProof.Rows.slot_tuple_getitem.lookup) ?_ (by with_unfolding_all rfl)
  refine tuple_back ht (Heap.IsSliceOf.new _ vl vu vs) pl pu ps ?_ (by rw [List.size_toArray, ← r.length]; exact hz)
  refine ⟨.ref _, _, I5.laid (t' := s4.toks) (o := .tup xs.reverse) (fun b ob z => Heap.get?_push_of_some _ z) (Nat.le_refl _) ?_, rfl, q _ (I5.hok.fresh (Nat.le_refl _))⟩
  exact ⟨by rw [List.length_reverse]; exact hz, _, r.reverse, IsTup.new _ _⟩
end Ef
namespace Ef
open PySem PySem.Spec PyProof.Rows L2
/-! ### values of all sorts -/
mutual
theorem Dp.mono {K : PySem.W.Frag} {H H' : Hp} (s : Same H H') : ∀ {v : V} {d : PyData}, Dp K H v d → Dp K H' v d
  | _, _, .non => .non
  | _, _, .bl b => .bl b
  | _, _, .int i => .int i
  | _, _, .str x => .str x
  | _, _, .lst h t => .lst (s.seq h) (DpAll.mono s t)
  | _, _, .tup h t => .tup (Same.seqT s h) (DpAll.mono s t)
theorem DpAll.mono {K : PySem.W.Frag} {H H' : Hp} (s : Same H H') : ∀ {vs : List V} {ds : List PyData}, DpAll K H vs ds → DpAll K H' vs ds
  | _, _, .nil => .nil
  | _, _, .cons h t => .cons (Dp.mono s h) (DpAll.mono s t)
end
theorem DpAll.app {K : PySem.W.Frag} {H : Hp} : ∀ {xs ys : List V} {ds es : List PyData}, DpAll K H xs ds → DpAll K H ys es → DpAll K H (xs ++ ys) (ds ++ es)
  | _, _, _, _, .nil, t => t
  | _, _, _, _, .cons h r, t => .cons h (DpAll.app r t)
theorem dpAll_at {K : PySem.W.Frag} {H : Hp} : ∀ {xs : List V} {ds : List PyData}, DpAll K H xs ds → ∀ {i : Nat} {x : V}, xs[i]? = some x → ∃ d, ds[i]? = some d ∧ Dp K H x d
  | _, _, .nil, _, _, h => by cases h
  | _, _, .cons h _, 0, x, e => ⟨_, rfl, by rw [← Option.some.inj e]; exact h⟩
  | _, _, .cons _ t, i + 1, x, e => by
    rw [List.getElem?_cons_succ] at e ⊢
    exact dpAll_at t e
theorem dpAll_len {K : PySem.W.Frag} {H : Hp} : ∀ {xs : List V} {ds : List PyData}, DpAll K H xs ds → ds.length = xs.length
  | _, _, .nil => rfl
  | _, _, .cons _ t => congrArg (· + 1) (dpAll_len t)
theorem ShAll.app {dp w1 w2 : Nat} : ∀ {ds es : List PyData}, ShAll dp w1 ds → ShAll dp w2 es → ShAll dp (w1 + w2) (ds ++ es)
  | [], es, _, t => t.mono (Nat.le_refl _) (by omega)
  | d :: r, es, h, t => by
    have hc : (d.canLay0 && PyData.canLayAll0 r) = true := h.can
    have hs : (d.showable && PyData.showableAll r) = true := h.shw
    have hl : (d.leavesShort 200 && PyData.leavesShortAll 200 r) = true := h.lvs
    have hw : d.weight + 1 + PyData.weightAll r ≤ w1 := h.wgt
    have hd : max d.depth (PyData.depthAll r) ≤ dp := h.dep
    rw [Bool.and_eq_true] at hc hs hl
    rw [Nat.max_le] at hd
    have h1 : Sh dp d.weight d := ⟨hc.1, hd.1, hs.1, hl.1, Nat.le_refl _⟩
    have h2 : ShAll dp (PyData.weightAll r) r := ⟨hc.2, hd.2, hs.2, hl.2, Nat.le_refl _⟩
    exact (ShAll.cons h1 (ShAll.app h2 t)).mono (Nat.le_refl _) (by omega)
/-- all but what stands at p -/
def hide (p : Addr) (H : Hp) : Hp := fun b => if b = p then none else H b
theorem hide_ne {p b : Addr} {H : Hp} (n : b ≠ p) : hide p H b = H b := if_neg n
theorem hide_same (p : Addr) (H : Hp) : Same (hide p H) H := fun b o e => by
  by_cases c : b = p
  · unfold hide at e
    rw [if_pos c] at e
    cases e
  · rw [hide_ne c] at e
    exact e
theorem But.hide {p : Addr} {H H' : Hp} (s : But p H H') : Same (Ef.hide p H) (Ef.hide p H') := fun b o e => by
  by_cases c : b = p
  · unfold Ef.hide at e
    rw [if_pos c] at e
    cases e
  · rw [hide_ne c] at e ⊢
    exact s b o c e
theorem hide_lst {K : PySem.W.Frag} {p a : Addr} {H : Hp} {xs : List V} (n : a ≠ p) (h : H a = some (.lst xs)) : SqL K (hide p H) a xs := SqL.of (by rw [hide_ne n]; exact h)
theorem hide_tup {K : PySem.W.Frag} {p a : Addr} {H : Hp} {xs ys : List V} (hp : H p = some (.lst ys)) (h : SqT K H a xs) : SqT K (hide p H) a xs := by
  rcases h with (h | ⟨o, h⟩) | h
  · have n : a ≠ p := fun z => by
      rw [z, hp] at h
      cases h
    exact .inl (.inl (by rw [hide_ne n]; exact h))
  · have n : a ≠ p := fun z => by
      rw [z, hp] at h
      cases h
    exact .inl (.inr ⟨o, by rw [hide_ne n]; exact h⟩)
  · exact .inr h
/-- data, or an empty dict -/
def ItemV (K : PySem.W.Frag) (H : Hp) (v : V) (d : PyData) : Prop := (Dp K H v d ∧ Sh 60 80000 d) ∨ (d = .dict [] ∧ ∃ p, v = .ref p ∧ H p = some (.dK []))
theorem ItemV.mono {K : PySem.W.Frag} {H H' : Hp} {v : V} {d : PyData} (s : Same H H') (h : ItemV K H v d) : ItemV K H' v d := by
  rcases h with ⟨h, h2⟩ | ⟨e, p, e2, h⟩
  · exact .inl ⟨Dp.mono s h, h2⟩
  · exact .inr ⟨e, p, e2, s _ _ h⟩
def tyN : PyData → String
  | .none => "NoneType"
  | .bool _ => "bool"
  | .int _ => "int"
  | .str _ => "str"
  | .list _ => "list"
  | .tuple _ => "tuple"
  | .dict _ => "dict"
theorem Dp.ty {K : PySem.W.Frag} {H : Hp} {v : V} {d : PyData} (h : Dp K H v d) : TyX K H v (.type (tyN d)) := by
  cases h with
  | non => exact .base .non
  | bl b => exact .base (.bl b)
  | int i => exact .base (.int i)
  | str x => exact .base (.str x)
  | lst h _ =>
    rcases h with (h | ⟨o, h⟩) | ⟨o, its, n, h1, h2, _⟩
    · exact .base (.lst h)
    · exact .base (.frz h)
    · exact .kList h1 h2
  | tup h _ =>
    rcases h with (h | ⟨o, h⟩) | ⟨o, its, n, h1, h2, _⟩
    · exact .base (.tup h)
    · exact .fTuple h
    · exact .kTuple h1 h2
theorem ItemV.ty {K : PySem.W.Frag} {H : Hp} {v : V} {d : PyData} (h : ItemV K H v d) : TyX K H v (.type (tyN d)) := by
  rcases h with ⟨h, _⟩ | ⟨rfl, p, rfl, h⟩
  · exact Ef.Dp.ty h
  · exact .base (.dK h)
section
variable {X : Cx} (K : PySem.W.Frag)
def rReprI (K : PySem.W.Frag) : List V → Hp → VK → Prop := fun xs H Q => ∃ v d, xs = [v] ∧ ItemV K H v d ∧ Q (.str d.shown) H
theorem call_reprI (gd : X.A.guards = some []) (hu : X.A.units + 66 < cLine) (h : X.K = K := by rfl) : CallR X (.builtin "repr") (rReprI K) := by
  subst h
  intro pins s σ H xs us Q I r h
  obtain ⟨v, d, rfl, hI, q⟩ := h
  rcases hI with ⟨hD, hS⟩ | ⟨rfl, p, rfl, hp⟩
  · exact call_reprD gd hu pins s σ H _ us Q I r ⟨v, d, rfl, hD, hS, q⟩
  · obtain ⟨u, rfl, ru⟩ := vals1 r
    obtain rfl : u = Value.ref p := ru
    obtain ⟨_, hsys, vs, kv, o, es, ep, ho, hx, hd, hk, hpr, hn⟩ := dk_of I.hok hp
    have e1 : vs = [] := by
      cases kv
      rfl
    subst e1
    have e2 : es.toList = [] := by
      generalize es.toList = l at hpr ⊢
      cases hpr
      rfl
    have dep : PyData.depth (.dict []) ≤ 2 := by decide
    have rd : Reads s.heap (.ref p) (.dict []) (p :: [] ++ []) := by
      refine .dict ho hx.1 hd ?_ ?_
      · rw [e2]
        exact .nil
      · rw [e2]
        exact .nil
    refine repr_of_reads' rd rfl (fun _ hm => ?_) gd (by omega) (fun _ _ e => e) (fun h' u tk hk => ?_) (by decide +kernel)
    · have e3 : sysModules = p := by simpa using hm
      rw [← e3] at hsys
      exact absurd hsys (by simp)
    · exact ⟨.str _, H, I.kept hk, ⟨u, rfl⟩, q⟩
end
end Ef
set_option maxHeartbeats 4000000
namespace Ef
open PySem PySem.Spec PyProof.Rows L2
/-! ### Base.__init__(self, ..) where Base is an own class without an __init__ of its own -/
section
variable {X : Cx} {e : Expr} {es : List Expr} {ta : TA} {x : Str} {p1 p2 pos : Pos} {B : Addr}
theorem pe_baseInit {pl : Sem Bool} (hg : Gl X x) (hm : X.mg x = some (.ref B))
    (h1 : PySem.W.specialIn X.K (.ref B) "__getattribute__" = some (some (.builtin "type.__getattribute__")))
    (h2 : PySem.W.typeIn X.K (.ref B) = some (.type "type")) (h3 : PySem.W.readsIn X.K B (.type "type") = true)
    (h4 : PySem.W.findCls X.K (.ref B) (.type "type") "__init__" = some (.val (.builtin "ValueError.__init__"))) (ha : PA X (e :: es) ta)
    (a1 : eval (.Call (.Attribute (.Name x p1) "__init__" p2) (e :: es) [] pos) X.env = (do
      let bv ← eval (.Name x p1) X.env
      standAt p2.atName
      let (g, first) ← holding [bv] (getMethod bv "__init__" pl)
      callWith pos g first (backTo pos (starEach (e :: es) X.env)) (backToKw pos (keywordEach [] X.env))) := by rfl)
    (a2 : starEach (e :: es) X.env = (false, eval e X.env) :: starEach es X.env := by rfl)
    (a3 : (backTo pos (starEach es X.env)).any (fun z => z.1) = false := by rfl) (a4 : (x == ("__debug__" : Str)) = false := by decide) :
    PE X (.Call (.Attribute (.Name x p1) "__init__" p2) (e :: es) [] pos) (tVeI X.K ta) := by
  refine ⟨fun pins s σ H Q I h => ?_⟩
  refine PySem.W.methodCall_KW (ld_glob I hg hm ?_ a4) a1
  obtain ⟨m, fr⟩ := I.fr
  refine PySem.W.method_of_cls fr I.ok.mod.kin h1 ?_
  refine PySem.W.cls_val fr I.ok.mod.kin h2 h3 h4 (by decide +kernel) ?_
  show wpAny _ _ (callWith pos (Value.builtin "ValueError.__init__") [] (backTo pos (starEach (e :: es) X.env)) []) _ _ _
  refine PyProof.Rows.callWith_method1 (thn (ha.run pos pins _ σ H _ (I.tok _) h) fun us s1 got => ?_) a2 a3
  obtain ⟨vs, H1, I1, r1, a, C, ws, rfl, hl, T, ea, q⟩ := got
  cases r1 with
  | @cons _ u0 _ ur ra rest =>
    obtain rfl : u0 = Value.ref a := ra
    refine oinit_ok T I1 ea ?_ fun s' J => ⟨.non, H1, J, rfl, q⟩
    have hl2 := Paired.length rest
    rw [sizeLine_eq]
    omega
end
/-! ### an exception that is kept as a value -/
/-- at a: an exception of the class cls, its dict at d -/
def exk (a : Addr) (cls : Value) (d : Option Addr) : HO := .ext fun h => ∃ oe vs, h.get? a = some oe ∧ oe.cls = cls ∧ oe.dict = d ∧ oe.data = .fields vs
theorem exk_ok {P : Program} {w : World} {H : Hp} {h : Heap} {a : Addr} {cls : Value} {d : Option Addr} {oe : Obj} {vs : Array Value} (he : h.get? a = some oe) (hc : oe.cls = cls) (hd : oe.dict = d) (hv : oe.data = .fields vs) : ObjOk P w H h a (exk a cls d) :=
  ⟨⟨oe, vs, he, hc, hd, hv⟩, ⟨oe, he⟩, fun h1 h2 z k => by
    obtain ⟨o, v, z1, z2⟩ := z
    exact ⟨o, v, k _ z1, z2⟩⟩
theorem exk_at {P : Program} {w : World} {H : Hp} {h : Heap} {a : Addr} {cls : Value} {d : Option Addr} (hok : HOk P w H h) (e : H a = some (exk a cls d)) : ∃ oe vs, h.get? a = some oe ∧ oe.cls = cls ∧ oe.dict = d ∧ oe.data = .fields vs := by
  have z : ObjOk P w H h a (.ext fun h => ∃ oe vs, h.get? a = some oe ∧ oe.cls = cls ∧ oe.dict = d ∧ oe.data = .fields vs) := hok a _ e
  exact z.1
theorem Inv_track {X : Cx} {pins : List (Addr × Obj)} {σ : L2.St} {H : Hp} {s : Shared} {a : Addr} {oe : Obj} {vs : Array Value} {cls : Value} {d : Option Addr} (I : L2.Inv X ((a, oe) :: pins) σ H s)
    (hc : oe.cls = cls) (hd : oe.dict = d) (hv : oe.data = .fields vs) (new : X.s_0.heap.get? a = none) (hp : ∀ p ∈ X.pn ++ pins, p.1 ≠ a) : L2.Inv X pins σ (upd H a (exk a cls d)) s := by
  obtain ⟨ha, na, nL, nF, nc⟩ := I.pin (a, oe) (List.mem_append_right _ List.mem_cons_self)
  have kp : ∀ {b : Addr} {u : HO}, H b = some u → upd H a (exk a cls d) b = some u := fun {b u} z => by
    rw [upd_ne (ne_of_none z na)]
    exact z
  refine ⟨I.ok, I.os, I.bare, ⟨I.base.keep, I.base.slot, fun b o z n hx => ?_, I.base.there, fun b xs z => kp (I.base.tups b xs z), fun b o u z => kp (I.base.frzs b o u z), fun b ps z => ?_⟩, I.loc, I.cell, ?_, fun y c z => ?_, fun p q => ?_, fun b o z => ?_, I.len⟩
  · rw [upd_ne (fun y => by rw [y, new] at z; cases z)]
    exact I.base.free b o z n hx
  · obtain ⟨more, z2⟩ := I.base.tbls b ps z
    exact ⟨more, kp z2⟩
  · rw [upd_ne nL.symm]
    exact I.free
  · have nca : c ≠ a := fun y2 => by
      obtain ⟨v, oc, z3, z4⟩ := I.cell y c z
      rw [y2, ha] at z3
      obtain rfl := Option.some.inj z3
      first
        | exact nc _ z4
        | exact nc _ z4.2
        | exact nc _ z4.1
    rw [upd_ne nca]
    exact I.freeC y c z
  · obtain ⟨z1, z2, z3, z4, z5⟩ := I.pin p (by
      rcases List.mem_append.mp q with q | q
      · exact List.mem_append_left _ q
      · exact List.mem_append_right _ (List.mem_cons_of_mem _ q))
    exact ⟨z1, by rw [upd_ne (hp p q)]; exact z2, z3, z4, z5⟩
  · by_cases hb : b = a
    · subst hb
      rw [upd_same] at z
      obtain rfl := Option.some.inj z
      exact exk_ok ha hc hd hv
    · rw [upd_ne hb] at z
      exact (I.hok b o z).stay (fun _ _ _ y => y) (fun c y => kp y) fun c xs y => kp y
/-- what 'except x as n: suite' wishes of an exception of the body, the exception being kept: slot i is n's -/
def wKeep (K : PySem.W.Frag) (c : Value) (i : Nat) (ts : Addr → Value → Option Addr → TS) (Wout : WX) (D : Ends) : WX := fun cls d σ H =>
  ∃ b, PySem.W.exmOne K cls c = some b ∧ (b = true → ∀ a, H a = none → ts a cls d { nx := fun σ' H' => D.nx (σ'.set i none) (upd H' a (exk a cls d)), rt := fun _ _ => False } (σ.set i (some (.ref a))) H) ∧
    (b = false → Wout cls d σ H)
section
variable {X : Cx} {x n : Str} {c : Value} {i : Nat} {body suite : List Stmt} {b₀ : Stmt} {np pos pos' : Pos} {tb : WX → TS} {ts : Addr → Value → Option Addr → TS} {Wout : WX}
theorem ps_try_keep (stk : X.stack = X.env :: X.outer) (frm : X.env.frame = some X.env.locals) (hex : X.ex = []) (hN : X.N.Nodup) (hi : X.N[i]? = some n) (hln : X.env.kindOf n = some .local) (nm : Names X x c) (tk : Takes X Wout)
    (hb : ∀ (W : WX) (pn : List (Addr × Obj)) (xe : Value → Shared → Prop), Takes (X.tr pn xe) W → PassesOwn (model X.prog X.w) X.A X.env xe → PSs (X.tr pn xe) body (tb W))
    (hsu : ∀ (a : Addr) (oe : Obj) (cls : Value) (d : Option Addr) (pn : List (Addr × Obj)), Zc cls d oe → (∃ vs, oe.data = .fields vs) → PSs (X.suite a ((a, oe) :: pn)) (b₀ :: suite) (ts a cls d)) :
    PS X (.Try body [.ExceptHandler (some (.Name x np)) (some n) (b₀ :: suite) pos'] [] [] pos) (fun D σ H => tb (wKeep X.K c i ts Wout D) D σ H) := by
  refine ⟨fun pins s σ H D I wish => ?_⟩
  have okX := I.ok
  have frs1 : X.A.frames = some (X.env :: X.outer) := by rw [okX.frames, stk]
  refine wpAny_Try_except ?_
  refine wpAny_mono ((hb (wKeep X.K c i ts Wout D) (X.pn ++ pins) (fun z s₁ => wpAny (model X.prog X.w) X.A (noteFrame z X.env) (fun _ s₂ => wpAny (model X.prog X.w) X.A (setFlight z none) (fun _ s₃ =>
    wpAny (model X.prog X.w) X.A (handleBy z X.env [.ExceptHandler (some (.Name x np)) (some n) (b₀ :: suite) pos']) (SP X pins D) X.xe s₃) X.xe s₂) X.xe s₁) (fun u s' air => ?_) PassesOwn.looking).run [] s σ H D (I.toTry _) wish) (fun fl s1 got => ?_) (fun z s1 got => got)
  · obtain ⟨a, B, sI, pins', σ', H', cls, d, rfl, J', nb, up, sky, na, os, ag, b, hb1, hyes, hno⟩ := air
    have J : L2.Inv X pins σ' H' sI := J'.ofTry okX
    have sky1 : Sky B (X.env :: X.outer) a (Zc cls d) X.env.locals s'.heap := by rw [← stk]; exact sky
    show wpAny (model X.prog X.w) X.A (noteFrame (.ref a) X.env) _ _ _
    refine Sky.land Zc.steady frs1 frm sky1 fun h3 fl3 up3 => ?_
    have J3 : L2.Inv X pins σ' H' { s' with heap := h3 } := J.landed nb fl3.1 (up.trans up3) os ag
    obtain ⟨oe3, vs3, he3, hz3, hd3⟩ := fl3.there
    have nfr : a ∉ frs (X.env :: X.outer) := fun hm => by
      obtain ⟨_, o', e', hnf⟩ := fl3.2.2.1.mem hm
      rw [he3] at e'
      cases e'
      exact hnf _ hd3
    have nL : a ≠ X.env.locals := fun z => nfr (List.mem_filterMap.mpr ⟨X.env, List.mem_cons_self, by rw [frm, z]⟩)
    have nF : a ∉ X.fs := fun hm => by
      obtain ⟨en, hen, y⟩ := List.mem_filterMap.mp hm
      exact nfr (List.mem_filterMap.mpr ⟨en, List.mem_cons_of_mem _ hen, y⟩)
    have newI : ∀ o, sI.heap.get? a = some o → False := fun o y => by
      have y2 := nb a o y (by rw [stk]; exact nfr)
      rw [fl3.2.1] at y2
      cases y2
    have new0 : X.s_0.heap.get? a = none := by
      cases y : X.s_0.heap.get? a with
      | none => rfl
      | some o =>
        obtain ⟨o', y2⟩ := J.base.there a o y (by rw [hex]; exact List.not_mem_nil)
        exact (newI o' y2).elim
    have apart : ∀ p ∈ X.pn ++ pins, p.1 ≠ a := fun p hp y => newI p.2 (by rw [← y]; exact (J.pin p hp).1)
    have S3 := J3.suite he3 hd3 na nL nF
    refine wpAny_handleBy_cons (codeAny_handlers_test ?_) (by intro y; cases y)
    have LT : PySem.W.Looks (model X.prog X.w) h3 (typeOf (.ref a)) cls := fun A Q E s k y => wpAny_typeOf_ref (k _ _ he3) (by rw [hz3.1]; exact y)
    have LM := PySem.W.exm_one (M := model X.prog X.w) (J3.kIn) LT hb1
    have asked : ∀ {Q : Value → Shared → Prop} {E : Value → Shared → Prop}, Q c { s' with heap := h3 } → wpAny (model X.prog X.w) (X.A.mark (some (.ref a))) (eval (.Name x np) X.env) Q E { s' with heap := h3 } := fun {Q E} y => by
      obtain ⟨hg, hdbg, hm | ⟨hm, hv, hnn⟩⟩ := nm
      · exact ld_glob (X := X.suite a ((a, oe3) :: (X.pn ++ pins))) S3 hg hm y hdbg
      · exact ld_blt (X := X.suite a ((a, oe3) :: (X.pn ++ pins))) S3 hg hm hv y hnn hdbg
    refine asked (LM.here ?_)
    cases b with
    | true =>
      refine codeAny_handlers_suite_as ?_
      refine HandSPX.lands_againZ fl3 fun h4 fl4 up4 => ?_
      have J4 : L2.Inv X pins σ' H' { s' with heap := h4 } := J.landed nb fl4.1 ((up.trans up3).trans up4) os ag
      obtain ⟨oe4, vs4, he4, hz4, hd4⟩ := fl4.there
      have S4 := J4.suite he4 hd4 na nL nF
      refine store_ok (X := X.suite a ((a, oe4) :: (X.pn ++ pins))) (v := .ref a) S4 hN hi (.inl hln) rfl (fun s5 S5 => ?_) (.inr hln)
      refine wpAny_mono ((hsu a oe4 cls d (X.pn ++ pins) hz4 ⟨_, hd4⟩).run [] s5 _ H' _ S5 (hyes rfl a na)) (fun fl s6 got => ?_) (fun _ _ y => False.elim y)
      cases fl with
      | next =>
        obtain ⟨σ6, H6, S6, q6⟩ := got
        have P6 := S6.pin (a, oe4) (List.mem_append_left _ List.mem_cons_self)
        have J6 : L2.Inv X ((a, oe4) :: pins) σ6 H6 s6 := (S6.unsuite okX).pins_of fun p hp => by
          rcases List.mem_cons.mp hp with rfl | hp
          · exact P6
          · exact (S6.unsuite okX).pin p (List.mem_append_right _ hp)
        exact gone_ok J6 hN hi hln fun s7 J7 => ⟨_, _, Inv_track J7 hz4.1 hz4.2 hd4 new0 apart, q6⟩
      | brk =>
        obtain ⟨σ6, H6, S6, q6⟩ := got
        exact q6.elim
      | cont =>
        obtain ⟨σ6, H6, S6, q6⟩ := got
        exact q6.elim
      | ret u =>
        obtain ⟨v6, σ6, H6, S6, r6, q6⟩ := got
        exact q6.elim
    | false =>
      show wpAny _ X.A (handleBy (.ref a) X.env []) _ _ _
      refine wpAny_handleBy_nil ?_
      obtain ⟨k1, k2, k3, oe, vs, T, oT, ts', he, hz, hd, h1, hr⟩ := id fl3
      unfold PySem.passOn
      refine wpAny_bind (wpAny_field he hd h1 ?_)
      rw [if_neg (show ¬ ((Value.ref T == Value.none) = true) from by simp)]
      have fin : wpAny (model X.prog X.w) X.A (setFlight (.ref a) X.env.frame) (fun _ s4 => wpAny (model X.prog X.w) X.A (throw (.ref a) : Sem Flow) (SP X pins D) X.xe s4) X.xe { s' with heap := h3 } := by
        rw [frm]
        refine HandSPX.setFlight_upZ fl3 fun h4 hh4 up4 => wpAny_throw (tk _ _ ?_)
        exact ⟨a, B, sI, pins, σ', H', cls, d, rfl, J, nb, (up.trans up3).trans up4, .inr (.inr (by rw [stk]; exact hh4)), na, os, ag, hno rfl⟩
      first
        | exact wpAny_bind (wpAny_pure (wpAny_bind fin))
        | exact wpAny_bind fin
  · cases fl with
    | next =>
      obtain ⟨σ', H', J', q⟩ := got
      exact wpAny_execs_nil ⟨σ', H', J'.ofTry okX, q⟩
    | brk =>
      obtain ⟨σ', H', J', q⟩ := got
      exact ⟨σ', H', J'.ofTry okX, q⟩
    | cont =>
      obtain ⟨σ', H', J', q⟩ := got
      exact ⟨σ', H', J'.ofTry okX, q⟩
    | ret u =>
      obtain ⟨v, σ', H', J', r, q⟩ := got
      exact ⟨v, σ', H', J'.ofTry okX, r, q⟩
end
theorem takesF {X : Cx} : Takes X (fun _ _ _ _ => False) := fun _ _ x => by
  obtain ⟨_, _, _, _, _, _, _, _, _, _, _, _, _, _, _, _, z⟩ := x
  exact z.elim
theorem passF {X : Cx} : Passes (L2.CX X.prog X.w) X (fun _ _ _ => False) := fun _ _ _ _ _ _ _ x => by
  obtain ⟨_, _, _, _, _, _, _, _, _, _, _, _, z⟩ := x
  exact z.elim
/-! ### what is asked of an exception that was kept -/
section
open PySem.W PySem.Calls
variable {prog : Program} {w : World} {A : Around} {E : Value → Shared → Prop} {s : Shared} {K : PySem.W.Frag} {y D : Addr} {oy : Obj} {od : Option Obj}
theorem class_of_exc {Q : Option Value → Shared → Prop} (T : ExcC K D) (kin : K.In s.heap) (I : InstAt s.heap y oy D od) (hod : od.isSome = true) (h : Q (some (.ref D)) { s with toks := s.toks + 1 }) :
    wpAny (model prog w) A (getAttr? (.ref y) "__class__") Q E s := by
  obtain ⟨oo, rfl⟩ := Option.isSome_iff_exists.mp hod
  have ff : findObj K D (some oo) "__class__" = some (.bind (.builtin "getset_descriptor.__get__") (.builtin "object.__class__")) := findObj_data (by obtain ⟨cd, hc, _⟩ := any_some T.hd; rw [hc]; rfl) T.ha T.hn T.ht
  obtain ⟨hp, g, d, t, os⟩ := s
  have T0 := I.type (M := model prog w)
  have T1 := looks_findIn (M := model prog w) kin T.hg
  have T2 := looks_findIn (M := model prog w) kin T.hk
  have T3 := looks_find (M := model prog w) kin I ff
  have inB : Looks (model prog w) hp (isInstance (.ref y) (.type "BaseException")) true := T0.andThen (looks_subIn kin T.hs)
  have b0 : (false && onTheHeap (Value.builtin "BaseException.__getattribute__")) = false := rfl
  have b2 : (Value.builtin "BaseException.__getattribute__" == Value.builtin "object.__getattribute__") = false := by decide +kernel
  have b1 : (onTheHeap (Value.ref D) && Value.builtin "BaseException.__getattribute__" == Value.builtin "object.__getattribute__") = false := by rw [b2]; rfl
  unfold getAttr? getAttrBy? getAttrBy
  refine wpAny_bind (wpAny_mkText (wpAny_bind (wpAny_attempt (wpAny_holding (wpAny_bind (T0.at (wpAny_bind (T1.at ?_))))))))
  show wpAny _ _ (if (onTheHeap (Value.ref D) && Value.builtin "BaseException.__getattribute__" == Value.builtin "object.__getattribute__") = true then _ else _) _ _ ⟨hp, g, d, t + 1, os⟩
  rw [b1, if_neg Bool.false_ne_true]
  unfold getAttrByItsOwn hookBefore
  refine wpAny_bind ?_
  rw [if_pos (show onTheHeap (Value.ref D) = true from rfl)]
  refine T2.at ?_
  refine wpAny_bind (wpAny_attempt (wpAny_holding ?_))
  unfold callGetattribute
  rw [b0, if_neg Bool.false_ne_true]
  unfold boundAndCalled
  rw [PySem.F.excAttr_ValueError.ga.bind (.ref y)]
  refine wpAny_bind (wpAny_pure ?_)
  show wpAny _ _ (call (.builtin "BaseException.__getattribute__") [.ref y, .str "__class__" t]) _ _ _
  refine wpAny_call (codeAny_call_builtin PySem.F.excAttr_ValueError.ga.plain PySem.F.entry_bexc_ga ?_)
  refine @check_slot (model prog w) _ _ ⟨hp, g, d, t + 1, os⟩ "BaseException.__getattribute__" "BaseException" "__getattribute__" (.ref y) [.str "__class__" t] [] _ (by decide +kernel) (by decide +kernel) inB (PySem.F.args_bexc_ga (.ref y) (.str "__class__" t)) ?_
  unfold Builtin.«object.__getattribute__»
  refine wpAny_bind (wpAny_of_eq (a := ((Value.ref y : Value), [Value.str "__class__" t])) (by first | rfl | (simp only [slotArgs]; rfl)) ?_)
  refine wpAny_bind (wpAny_pure (wpAny_bind (T0.at (wpAny_bind (T3.at ?_)))))
  show wpAny _ _ (holding [Value.builtin "object.__class__"] (call (.builtin "getset_descriptor.__get__") [.builtin "object.__class__", .ref y, .ref D]) >>= ret) _ _ ⟨hp, g, d, t + 1, os⟩
  refine wpAny_bind (wpAny_holding (wpAny_call (class_get (s := ⟨hp, g, d, t + 1, os⟩) (ox := oy) (od := some oo) kin I T.hm ?_)))
  refine wpAny_pure ?_
  show wpAny _ _ (handedOut (.ref D)) _ _ ⟨hp, g, d, t + 1, os⟩
  rw [handedOut_of (v := .ref D) rfl]
  first
    | exact wpAny_pure (wpAny_pure h)
    | exact wpAny_pure h
    | exact wpAny_pure (wpAny_bind (wpAny_pure (wpAny_pure h)))
theorem kit_kept (T : ExcC K D) : KitX K (.ref y) (.ref D) (fun h => ∃ oy oo, InstAt h y oy D (some oo)) where
  ty := fun _ _ _ I => by
    obtain ⟨_, _, I⟩ := I
    exact I.type
  it := fun _ _ kin _ => by
    obtain ⟨cd, hc, _⟩ := any_some T.hd
    unfold clsIn at hc
    split at hc
    · rename_i c' d' cd' sl' ho
      intro A' Q' E' s' k q
      unfold isType loadHead
      exact wpAny_bind (wpAny_loadPart (k _ _ (kin _ _ ho)) (wpAny_pure q))
    · cases hc
  ne := fun h tp dd its n sl kin htp => by
    obtain ⟨cd, hc, _⟩ := any_some T.hd
    refine Bool.eq_false_iff.mpr fun q => ?_
    obtain rfl : D = tp := Value.ref.inj (beq_iff_eq.mp q)
    unfold clsIn at hc
    split at hc
    · rename_i c' d' cd' sl' ho
      have z := (kin _ _ ho).symm.trans htp
      cases z
    · cases hc
  ca := fun kin I k => by
    obtain ⟨_, _, I⟩ := I
    exact class_of_exc T kin I rfl k
end
section
variable {X : Cx} {pins : List (Addr × Obj)} {σ : L2.St} {H : Hp} {s : Shared}
theorem kept_inst {a D d : Addr} {fs : List (Str × V)} (I : L2.Inv X pins σ H s) (e : H a = some (exk a (.ref D) (some d))) (ed : H d = some (.xd fs)) : ∃ oy oo, PySem.W.InstAt s.heap a oy D (some oo) ∧ ∃ mA : Str → Option Value, (∀ f, RelO (fs.lookup f) (mA f)) ∧ ∀ n, PySem.W.lookIn n oo = some (mA n) := by
  obtain ⟨oe, vs, h1, h2, h3, h4⟩ := exk_at I.hok e
  obtain ⟨mA, hns, hr⟩ := (show ObjOk X.prog X.w H s.heap d (.xd fs) from I.hok d _ ed)
  obtain ⟨oo, ho, hl⟩ := lookIn_ns hns
  exact ⟨oe, oo, ⟨h1, h2, by unfold PySem.W.notCls; rw [h4] <;> rfl, by rw [h3]; exact ho⟩, mA, hr, hl⟩
end
/-- isinstance(x, c), x an exception that was kept -/
def rIsX (K : PySem.W.Frag) : List V → Hp → VK → Prop := fun xs H Q => ∃ (a D d : Addr) (fs : List (Str × V)) (c : V) (u : Value) (b : Bool), xs = [.ref a, c] ∧ H a = some (exk a (.ref D) (some d)) ∧ H d = some (.xd fs) ∧ ExcC K D ∧ ClsV c u ∧ PySem.W.kitOne K (.ref D) u = some b ∧ Q (.bl b) H
/-- isinstance(x, (c1, ..)) -/
def rIsXT (K : PySem.W.Frag) : List V → Hp → VK → Prop := fun xs H Q => ∃ (a D d : Addr) (fs : List (Str × V)) (tp : Addr) (cs : List V) (us : List Value) (b : Bool), xs = [.ref a, .ref tp] ∧ H a = some (exk a (.ref D) (some d)) ∧ H d = some (.xd fs) ∧ ExcC K D ∧ H tp = some (.tup cs) ∧ Paired ClsV cs us ∧ PySem.W.kitAny K (.ref D) us = some b ∧ Q (.bl b) H
section
variable {X : Cx}
theorem call_isX : CallR X (.builtin "isinstance") (rIsX X.K) := by
  intro pins s σ H xs us Q I r h
  obtain ⟨a, D, d, fs, c, u, b, rfl, ea, ed, T, k, e, q⟩ := h
  obtain ⟨u1, u2, rfl, r1, r2⟩ := vals2 r
  obtain rfl := k.eq r2
  obtain rfl : u1 = Value.ref a := r1
  obtain ⟨oy, oo, J, _⟩ := kept_inst I ea ed
  exact PySem.W.kia_one (kit_kept T) I.kIn ⟨_, _, J⟩ e (fun z => nomatch z) fun tk => ⟨.bl b, H, I.tok tk, rfl, q⟩
theorem call_isXT : CallR X (.builtin "isinstance") (rIsXT X.K) := by
  intro pins s σ H xs us Q I r h
  obtain ⟨a, D, d, fs, tp, cs, ws, b, rfl, ea, ed, T, hT, k, e, q⟩ := h
  obtain ⟨u1, u2, rfl, r1, r2⟩ := vals2 r
  obtain rfl : u1 = Value.ref a := r1
  obtain rfl : u2 = Value.ref tp := r2
  obtain ⟨oy, oo, J, _⟩ := kept_inst I ea ed
  obtain ⟨_, its, rv, o, h1, h2, n, h3⟩ := (show ObjOk X.prog X.w H s.heap tp (.tup cs) from I.hok tp _ hT)
  obtain rfl := ClsV.all k rv
  obtain ⟨oc, odd, dt, sl⟩ := o
  simp only at h2 h3
  subst h2 h3
  exact PySem.W.kia_tup (kit_kept T) I.kIn ⟨_, _, J⟩ h1 e (fun z => nomatch z) fun tk => ⟨.bl b, H, I.tok tk, rfl, q⟩
/-- e.f, e an exception that was kept -/
def tFldX (K : PySem.W.Frag) (f : Str) (te : TE) : TE := fun σ H Q => te σ H fun x H1 => ∃ (a D d : Addr) (fs : List (Str × V)) (v : V), x = .ref a ∧ H1 a = some (exk a (.ref D) (some d)) ∧ H1 d = some (.xd fs) ∧ XfC K D ∧ PySem.W.findIn K (.ref D) f = some none ∧ fs.lookup f = some v ∧ Q v H1
theorem pe_fldX {e : Expr} {te : TE} {pos : Pos} {f : Str} (he : PE X e te) (hb : attributeBase e f X.env (eval e X.env) = eval e X.env := by rfl) : PE X (.Attribute e f pos) (tFldX X.K f te) := by
  refine ⟨fun pins s σ H Q I h => ?_⟩
  refine attr_of hb (thn (he.run pins s σ H _ I h) fun u s1 got => ?_)
  obtain ⟨x, H1, I1, rx, a, D, d, fs, v, rfl, ea, ed, T, hno, l, q⟩ := got
  obtain rfl : u = Value.ref a := rx
  obtain ⟨oy, oo, J, mA, hr, hl⟩ := kept_inst I1 ea ed
  obtain ⟨u, hu, ru⟩ := RelO.some_of (v := v) (o := mA f) (by rw [← l]; exact hr f)
  exact HandSPX.exc_get I1.kIn J T.ga T.gg T.exC (PySem.W.findObj_own T.hdC hno rfl (by rw [hl, hu])) (handed_of ru) ⟨v, H1, I1.tok _, ru, q⟩
end
/-! ### what the written part says of the program's error classes -/
structure BaseT (K : PySem.W.Frag) (B : Addr) : Prop where
  sp : PySem.W.specialIn K (.ref B) "__getattribute__" = some (some (.builtin "type.__getattribute__"))
  ty : PySem.W.typeIn K (.ref B) = some (.type "type")
  rd : PySem.W.readsIn K B (.type "type") = true
  fc : PySem.W.findCls K (.ref B) (.type "type") "__init__" = some (.val (.builtin "ValueError.__init__"))
structure ErrT (K : PySem.W.Frag) (C fI : Addr) (f : Str) (B : Addr) : Prop where
  ox : OexC K C
  xf : XfC K C
  ec : ExcC K C
  no : PySem.W.findIn K (.ref C) f = some none
  iC : PySem.W.findIn K (.ref C) "__init__" = some (some (.ref fI))
  tI : PySem.W.typeIn K (.ref fI) = some (.type "function")
  ex : PySem.W.exmOne K (.ref C) (.ref B) = some true
/-- an error's __init__: the base's, then the field -/
def spErr (K : PySem.W.Frag) (C : Addr) (f : Str) : Sp := fun vs H Q _ => ∃ (a : Addr) (v : V), vs = [.ref a, v] ∧ H a = some (exo a C none) ∧ ∀ dx, H dx = none → dx ≠ a → Q .non (upd (upd H dx (exd dx [(f, v)])) a (exo a C (some dx)))
/-- behind the raise: the error's dict, all else as it was -/
theorem err_end {H : Hp} {a C dx : Addr} {f : Str} {v : V} (na : H a = none) (nd : (upd H a (exo a C none)) dx = none) (ne : dx ≠ a) :
    let H2 := upd (upd (upd H a (exo a C none)) dx (exd dx [(f, v)])) a (exo a C (some dx))
    H2 a = some (exo a C (some dx)) ∧ H2 dx = some (exd dx [(f, v)]) ∧ H dx = none ∧ Same H (upd (del H2 a) dx (.xd [(f, v)])) ∧ (upd (del H2 a) dx (.xd [(f, v)])) dx = some (.xd [(f, v)]) := by
  have hd : H dx = none := by
    rw [upd_ne ne] at nd
    exact nd
  refine ⟨upd_same, by rw [upd_ne ne, upd_same], hd, fun b o z => ?_, upd_same⟩
  have n1 : b ≠ a := ne_of_none z na
  have n2 : b ≠ dx := ne_of_none z hd
  rw [upd_ne n2, del_ne n1, upd_ne n1, upd_ne n2, upd_ne n1]
  exact z
end Ef
set_option maxHeartbeats 4000000
namespace Ef
open PySem PySem.Spec PyProof.Rows L2
open Sem (wp)
/-! ### enumerate(tuple) -/
theorem meets_enumerate_newG {v : Value} {o : Obj} {H : Heap → Prop} (B : Begins v o H) :
    Meets (Builtin.«enumerate.__new__» ⟨[.type "enumerate", v], []⟩) (fun _ R s => H s.heap ∧
      R (.ok (.ret (.ref (s.heap.push o).objs.size))) { s with heap := (s.heap.push o).push { cls := .type "enumerate", data := .fields #[.none, .bool false, .ref s.heap.objs.size, rawInt 0, .none, .none] } }) :=
  .of_wp fun prog w A R s h => by
    obtain ⟨hp, g, d, tk, os⟩ := s; obtain ⟨h1, h⟩ := h
    have hsub := sub_enumerate
    have q1 : ∀ {A' : Around} {E : Value → Shared → Prop} {Q : Value → Shared → Prop}, Q (.ref hp.objs.size) ⟨hp.push o, g, d, tk, os⟩ → wpAny (model prog w) A' (pyIter v) Q E ⟨hp, g, d, tk, os⟩ :=
      fun q => B.iter prog w _ _ ⟨hp, g, d, tk, os⟩ _ h1 q
    wp_walk using q1
    refine wpAny_stack_any fun st => wpAny_pure ?_
    split
    · rename_i c _ _ _ _ _
      cases (c == Value.type "enumerate")
      · wp_walk using q1
        exact ⟨_, rfl, h⟩
      · wp_walk using q1
        exact ⟨_, rfl, h⟩
    · wp_walk using q1
      exact ⟨_, rfl, h⟩
theorem call_enumerate_tup {prog : Program} {w : World} {A : Around} {E : Value → Shared → Prop} {s : Shared} {t : Addr} {items : Array Value} {Q : Value → Shared → Prop} (hT : s.heap.IsTuple t items)
    (h : ∀ h', IsEnum h' (s.heap.objs.size + 1) s.heap.objs.size 0 .none → h'.IsTupleIter s.heap.objs.size t 0 → h'.objs.size = s.heap.objs.size + 2 →
      (∀ b o, s.heap.get? b = some o → h'.get? b = some o) → Q (.ref (s.heap.objs.size + 1)) { s with heap := h' }) :
    wpAny (model prog w) A (call (.type "enumerate") [.ref t]) Q E s := by
  refine callType_new F.called_enumerate (by decide) (F.typeCall_enumerate_1 _) (F.newCall_enumerate_1 _) (fun obj => F.args_object_init_2 obj _) F.entry_enumerate_new
    (meets_enumerate_newG (begins_tuple t items)) ⟨hT, ?_⟩
  have hz : (s.heap.push { cls := .type "tuple_iterator", data := .fields #[.ref t, .int 0 0] }).objs.size = s.heap.objs.size + 1 := Heap.size_push ..
  show _ ∧ _
  rw [hz]
  have he : IsEnum ((s.heap.push { cls := .type "tuple_iterator", data := .fields #[.ref t, .int 0 0] }).push
      { cls := .type "enumerate", data := .fields #[.none, .bool false, .ref s.heap.objs.size, rawInt 0, .none, .none] }) (s.heap.objs.size + 1) s.heap.objs.size 0 .none := by
    have := Heap.get?_push_size (s.heap.push { cls := .type "tuple_iterator", data := .fields #[.ref t, .int 0 0] })
      (o := { cls := .type "enumerate", data := .fields #[.none, .bool false, .ref s.heap.objs.size, rawInt 0, .none, .none] }) rfl
    rw [hz] at this; exact this
  exact ⟨⟨_, he, rfl⟩, h _ he ⟨_, Heap.get?_push_of_some _ (Heap.get?_push_size _ rfl), rfl, rfl⟩ (by rw [Heap.size_push, hz]) fun b o x => Heap.get?_push_of_some _ (Heap.get?_push_of_some _ x)⟩
/-- the tuple at a, each item in a new pair -/
def Itet (K : PySem.W.Frag) (a : Addr) : It :=
  ⟨fun i H => ∃ (xs : List V) (x : V), SqT K H a xs ∧ xs[i]? = some x, fun i H v H' => ∃ T x, v = .ref T ∧ H T = none ∧ H' = upd H T (.tup [.int (i : Nat), x]) ∧ ∀ xs, SqT K H a xs → xs[i]? = some x, fun i H => ∃ xs : List V, SqT K H a xs ∧ xs.length ≤ i⟩
theorem tup_ne_iter {h : Heap} {a it : Addr} {items : Array Value} {i : Nat} (ht : h.IsTuple a items) (hit : h.IsTupleIter it a i) : a ≠ it := by
  rintro rfl
  obtain ⟨o, h1, c1, _⟩ := ht
  obtain ⟨o', h2, c2, _⟩ := hit
  rw [h1] at h2
  obtain rfl := Option.some.inj h2
  rw [c1] at c2
  injection c2 with c3
  exact absurd c3 (by decide)
theorem enum_ne_tup {h : Heap} {a e it : Addr} {items : Array Value} {i : Int} {old : Value} (ht : h.IsTuple a items) (he : IsEnum h e it i old) : e ≠ a := by
  rintro rfl
  obtain ⟨o, h1, c1, _⟩ := ht
  have h2 : h.get? e = _ := he
  rw [h1] at h2
  obtain rfl := Option.some.inj h2
  injection c1 with c3
  exact absurd c3 (by decide)
theorem wpAny_pyNext_enum_endX {prog : Program} {w : World} {A : Around} {E : Value → Shared → Prop} {s : Shared} {e it t : Addr} {i : Nat} {items : Array Value} {old : Value} {Q : Option Value → Shared → Prop} (hh : A.handled = none)
    (he : IsEnum s.heap e it i old) (hit : s.heap.IsTupleIter it t i) (ht : s.heap.IsTuple t items) (hx : items[i]? = none)
    (hQ : ∀ h', Heap.ExtBut it s.heap h' → Q none { s with heap := h' }) : wpAny (model prog w) A (pyNext (.ref e)) Q E s := by
  have hT : s.TypeIs (.ref e) "enumerate" := ⟨_, he, rfl⟩
  unfold pyNext
  refine wpAny_bind (wpAny_attempt (wpAny_callSpecial?_slot (name := Str.ofString "__next__") hT F.slot_enumerate_next
    (wpAny_call_entry F.slot_enumerate_next hT F.entry_enumerate_next ?_ (F.args_enumerate_next_1 _))))
  show wpAny _ _ (field (.ref e) 2 >>= _) _ _ _
  refine wpAny_bind (wpAny_field he rfl (x := .ref it) rfl ?_)
  refine wpAny_bind (wpAny_nextOf_tuple_end (show A.in1.handled = none from hh) hit ht hx fun h' x he' hx' => ?_)
  obtain ⟨o, ho, hc⟩ := hx'
  refine wpAny_bind (wpAny_isInstance (T := "StopIteration") (b := true) ⟨o, ho, hc⟩ isSubtype_stop ?_)
  exact wpAny_pure (hQ _ he')
theorem turn_enumT {P : Program} {w : World} {K : PySem.W.Frag} {elts : List Expr} {kk : Nat} {tpos : Pos} (a e it : Addr) :
    Turn P w K (.Tuple elts kk tpos) (Itet K a) [e, it] e (fun i h => (∃ old, IsEnum h e it ((i : Nat) : Int) old) ∧ h.IsTupleIter it a i ∧ e ≠ it) where
  mem := by simp
  obj := fun i h st b hb => by
    obtain ⟨⟨old, he⟩, ⟨o, ho, hc, hd⟩, _⟩ := st
    have e' : b = e ∨ b = it := by simpa using hb
    rcases e' with z | z
    · rw [z]; exact ⟨_, he, fun v q => nomatch q⟩
    · rw [z]; exact ⟨o, ho, fun v q => by rw [hd] at q; cases q⟩
  keep := fun i h h' st k => let ⟨⟨old, he⟩, hi, hne⟩ := st; ⟨⟨old, k e (by simp) _ he⟩, hi.at fun o q => k it (by simp) o q, hne⟩
  item := by
    intro X hP hw hK hc i pins s σ H E I hf st hg
    subst hP hw hK
    obtain ⟨⟨old, he⟩, hit, hne⟩ := st
    obtain ⟨xs, x, hq, hx⟩ := hg
    obtain ⟨its, rv, p, hz⟩ := I.tuple hq
    obtain ⟨u, hu, ru⟩ := rv.get hx
    have hel : e < s.heap.objs.size := Heap.lt_size he
    have hil : it < s.heap.objs.size := by obtain ⟨_, q, _⟩ := hit; exact Heap.lt_size q
    have pT : s.heap.IsTuple a its.toArray := p
    have hai := tup_ne_iter pT hit
    have hei : i < its.toArray.size := by
      have h9 : i < its.length := by
        rw [← rv.length]
        exact (List.getElem?_eq_some_iff.mp hx).1
      simpa using h9
    refine wpAny_pyNext_enum_itemD (Draws.tuple (show X.A.in1.handled = none from I.ok.hd hc) it a hai its.toArray) he ⟨hit, pT⟩ hei hne (fun z => ?_) fun x2 h' tk hP ho hst' hT hsz hk => ?_
    · rcases List.mem_cons.mp z with z | z
      · exact hne z
      · exact enum_ne_tup pT he (by simpa using z)
    have hP2 : its.toArray[i]? = some x2 := hP
    obtain rfl : u = x2 := by
      have h9 : its[i]? = some x2 := by simpa using hP2
      rw [hu] at h9
      exact Option.some.inj h9
    refine ⟨_, rfl, wpAny_letOwnedTupleGo_enum (s := { s with heap := h', toks := tk + 1 }) ho fun h'' he' sb => ?_⟩
    have hT2 : h''.get? s.heap.objs.size = some { cls := .type "tuple", data := .seq #[.int i tk, u] } := (sb.2 _ (Nat.ne_of_gt hel)).trans hT
    have new : ObjOk X.prog X.w (upd H s.heap.objs.size (.tup [.int (i : Nat), x])) h'' s.heap.objs.size (.tup [.int (i : Nat), x]) :=
      ⟨by show 2 ≤ sizeLine; decide, [.int i tk, u], .cons ⟨_, rfl⟩ (.cons ru .nil), ⟨_, hT2, rfl, _, rfl⟩⟩
    have I1 : Inv X pins σ (upd H s.heap.objs.size (.tup [.int (i : Nat), x])) { s with heap := h'', toks := tk + 1 } :=
      I.turnedNew (ch := [e, it]) (fun b ob hb q => (sb.2 b (fun z => hb (by simp [z]))).trans (hk b ob (fun z => hb (by simp [z])) (fun z => hb (by simp [z])) q)) hf (Nat.le_refl _) new
    refine ⟨.ref s.heap.objs.size, _, I1, rfl, ⟨_, x, rfl, I.hok.fresh (Nat.le_refl _), rfl, fun ys hy => by rw [I.tuple_inj hy hq]; exact hx⟩, ⟨⟨u, ?_⟩, hst'.1.at fun o q => (sb.2 it (Ne.symm hne)).trans q, hne⟩, fun b hb => ?_⟩
    · have e1 : ((i + 1 : Nat) : Int) = (i : Int) + 1 := by omega
      rw [e1]; exact he'
    · have hb' : b < s.heap.objs.size := by
        have e' : b = e ∨ b = it := by simpa using hb
        rcases e' with z | z
        · rw [z]; exact hel
        · rw [z]; exact hil
      rw [upd_ne (Nat.ne_of_lt hb')]
      exact (hf b hb).1
  done := by
    intro X hP hw hK hc i pins s σ H E I hf st hg
    subst hP hw hK
    obtain ⟨⟨old, he⟩, hit, hne⟩ := st
    obtain ⟨xs, hq, hx⟩ := hg
    obtain ⟨its, rv, p, hz⟩ := I.tuple hq
    obtain ⟨f0, f1, f2, f3, f4, f5⟩ := hf it (by simp)
    have pT : s.heap.IsTuple a its.toArray := p
    have hl := rv.length
    refine wpAny_pyNext_enum_endX (I.ok.hd hc) he hit pT (by simp; omega) fun h' eb => ⟨rfl, I.turned (t' := s.toks) (fun b o hb q => eb b o hb q) f0 f1 f3 f4 f5⟩
  self := fun A i s Q E st h => let ⟨⟨_, he⟩, _⟩ := st; wpAny_pyIter_enum he h
def iEnumT (K : PySem.W.Frag) (ta : TA) : TI := fun σ H R => ta σ H fun vs H1 => ∃ a xs, vs = [.ref a] ∧ SqT K H1 a xs ∧ R (Itet K a) H1
theorem pi_enumT {X : Cx} {e : Expr} {ta : TA} {p pos tpos : Pos} {elts : List Expr} {kk : Nat} (hg : Gl X "enumerate") (hm : X.mg "enumerate" = none) (ha : PA X [e] ta) (hs : starEach [e] X.env = [(false, eval e X.env)] := by rfl) :
    PI X (.Tuple elts kk tpos) (.Call (.Name "enumerate" p) [e] [] pos) (iEnumT X.K ta) := by
  refine ⟨fun pins s σ H R I h => ?_⟩
  refine Call_ (ld_blt I hg hm boot_enumerate (PyProof.Rows.callWith_type1 (thn (ha.run pos pins s σ H _ I h) fun us s1 ⟨vs, H1, I1, r1, q1⟩ => ?_) hs rfl))
  obtain ⟨a, xs, ex, hq, q⟩ := q1
  subst ex
  cases r1 with
  | cons r rr =>
    cases rr
    cases r
    obtain ⟨its, rv, p', hz⟩ := I1.tuple hq
    refine call_enumerate_tup (show s1.heap.IsTuple a its.toArray from p') fun h' he hit hsz hk => wpAny_pyIter_enum he ?_
    have I2 : Inv X pins σ H1 { s1 with heap := h' } := I1.kept (t' := s1.toks) hk
    refine ⟨s1.heap.objs.size + 1, [s1.heap.objs.size + 1, s1.heap.objs.size], _, _, H1, rfl, I2, turn_enumT a (s1.heap.objs.size + 1) s1.heap.objs.size, ⟨⟨.none, he⟩, hit, Nat.succ_ne_self _⟩, fun b hb => ?_, q⟩
    have e' : b = s1.heap.objs.size + 1 ∨ b = s1.heap.objs.size := by simpa using hb
    have hle : s1.heap.objs.size ≤ b := by
      rcases e' with z | z
      · rw [z]; exact Nat.le_add_right _ _
      · rw [z]; exact Nat.le_refl _
    exact I1.fpOk hle (I1.hok.fresh hle)
/-! ### sorted(xs) of tuples of ints, also of at most one -/
theorem sort_short {prog : Program} {w : World} {A : Around} {E : Value → Shared → Prop} {s : Shared} {a : Addr} {vs : List Value} {n : Nat} {P : PySem.Fin → Shared → Prop} (ho : s.heap.get? a = some (seqObj "list" vs.toArray n)) (h1 : vs.length < 2)
    (h : ∀ out : Array Value, out.toList.Perm vs → P (.done (.ret .none)) { s with heap := sortedHeap s.heap a vs out }) :
    wpAny (model prog w) A (Builtin.«list.sort» ⟨[.ref a], []⟩) P E s :=
  SK.plain_sort (r := fun _ => 0) ho (by omega) (fun h2 Q hQ => absurd h2 (by omega)) fun ps out e1 e2 e3 => h out (TS.out_rank (r := fun _ => 0) e1 e2 e3).1
theorem sorted_short {prog : Program} {w : World} {A : Around} {E : Value → Shared → Prop} {s : Shared} {l : Addr} {vs : List Value} {Q : Value → Shared → Prop} (hl : s.heap.IsList l vs.toArray) (h1 : vs.length < 2)
    (h : ∀ out : Array Value, out.toList.Perm vs → Q (.ref (s.heap.objs.size + 1)) { s with heap := sortedAll s.heap vs out }) :
    wpAny (model prog w) A (call (.builtin "sorted") [.ref l]) Q E s := by
  refine Calls.call_function_entry kind_sorted plain_sorted entry_sorted (args_sorted1 _) ?_
  unfold Builtin.«sorted»
  refine wpAny_bind (m := checkCount "sorted" 1 1 _) (wpAny_pure ?_)
  refine wpAny_bind (collect_list hl ?_ (by rw [sizeLine_eq]; omega))
  refine wpAny_bind (wpAny_newList ?_ (by rw [sizeLine_eq]; omega))
  have hsz : ((s.heap.push (seqObj "list" #[] 0)).update s.heap.objs.size (Obj.mapSeq (· ++ vs.toArray))).objs.size = s.heap.objs.size + 1 := by
    rw [Heap.size_update, size_push']
  have hoL : (((s.heap.push (seqObj "list" #[] 0)).update s.heap.objs.size (Obj.mapSeq (· ++ vs.toArray))).push (seqObj "list" vs.toArray 0)).get? (s.heap.objs.size + 1) = some (seqObj "list" vs.toArray 0) := by
    rw [← hsz]; exact Heap.get?_push_size _ rfl
  show wpAny _ _ _ _ _ { s with heap := ((s.heap.push (seqObj "list" #[] 0)).update s.heap.objs.size (Obj.mapSeq (· ++ vs.toArray))).push (seqObj "list" vs.toArray 0) }
  rw [hsz]
  refine wpAny_bind (wpAny_holding (wpAny_call_entry slot_list_sort ⟨_, hoL, rfl⟩ entry_list_sort (sort_short hoL h1 fun out a1 => ⟨_, rfl, ?_⟩) (args_list_sort _)))
  exact wpAny_pure ⟨_, rfl, h out a1⟩
def rSortA (K : PySem.W.Frag) (B : Int) : List V → Hp → VK → Prop := fun vs H Q => (∃ d, 1 ≤ d ∧ rSortU K d B vs H Q) ∨
  ∃ (a : Addr) (xs : List V), vs = [V.ref a] ∧ SqL K H a xs ∧ xs.length < 2 ∧ (∀ x ∈ xs, ∃ t, x = .ref t) ∧ ∀ p, H p = none → Q (.ref p) (upd H p (.lst xs))
theorem perm_short {α : Type} {l m : List α} (h : l.Perm m) (h1 : m.length < 2) : l = m := by
  cases m with
  | nil => exact List.perm_nil.mp h
  | cons x r =>
    cases r with
    | nil => exact List.perm_singleton.mp h
    | cons y r => exact absurd h1 (by simp)
theorem cr_sortA {X : Cx} {B : Int} : CallR X (.builtin "sorted") (rSortA X.K B) := by
  intro pins s σ H vs us Q I r h
  rcases h with ⟨d, hd, h⟩ | ⟨a, xs, rfl, hs, h1, hx, q⟩
  · exact cr_sortT hd pins s σ H vs us Q I r h
  · obtain ⟨its, rv, hl, hz⟩ := I.list hs
    rw [Vals.ref1 r]
    obtain ⟨e1, e2⟩ := bkV_refs rv hx
    refine sorted_short hl.isList (by rw [← rv.length]; exact h1) fun out p1 => ?_
    · obtain ⟨ep, he'⟩ := PyProof.Rows.sortedAll_at s.heap its out
      have e9 : out.toList = its := perm_short p1 (by rw [← rv.length]; exact h1)
      refine ⟨.ref _, upd H (s.heap.objs.size + 1) (.lst xs), I.laid (t' := s.toks) (fun _ _ => PyProof.Rows.sortedAll_old) (Nat.le_succ _) ⟨hz, out.toList, ep, by rw [e9]; exact rv, he'⟩, rfl, q _ (I.hok.fresh (Nat.le_succ _))⟩
theorem walk_enumT {K : PySem.W.Frag} {a : Addr} {xs : List V} : Walk (Itet K a) xs.length (fun H => SqT K H a xs) (YPair (fun i => some (.int (i : Nat))) (fun i => xs[i]?)) := by
  refine ⟨fun i _ hi q => ⟨xs, xs[i], q, by simp [hi]⟩, fun _ q => ⟨xs, q, Nat.le_refl _⟩, fun i H v H' _ q y => ?_⟩
  obtain ⟨T, x, h1, h2, h3, h4⟩ := y
  exact ⟨T, .int (i : Nat), x, h1, h2, h3, rfl, h4 xs q⟩
end Ef
set_option maxHeartbeats 4000000
namespace Ef
open PySem PySem.Spec PyProof.Rows L2
/-! ### sorted(t) of a tuple of ints -/
section
variable {prog : Program} {w : World} {A : Around} {E : Value → Shared → Prop} {s : Shared}
theorem collect_tup {l : Addr} {vs : List Value} {Q : List Value → Shared → Prop} (hl : s.heap.IsTuple l vs.toArray) (hn : vs.length ≤ sizeLine)
    (h : Q vs { s with heap := (s.heap.push (seqObj "list" #[] 0)).update s.heap.objs.size (Obj.mapSeq (· ++ vs.toArray)) }) : wpAny (model prog w) A (collect (.ref l)) Q E s := by
  obtain ⟨o, ho, hc, n, hd⟩ := hl
  have h2 : (s.heap.push (seqObj "list" #[] 0)).get? l = some o := Heap.get?_push_of_some _ ho
  have h3 : (s.heap.push (seqObj "list" #[] 0)).get? s.heap.objs.size = some (seqObj "list" #[] 0) := Heap.get?_push_size _ rfl
  have h4 : ((#[] : Array Value) ++ vs.toArray).toList = vs := by simp
  have h5 : (#[] ++ vs.toArray).size ≤ sizeLine + 1 := by
    simp only [Array.size_append, List.size_toArray, List.length_nil]
    omega
  unfold collect
  refine wpAny_bind (wpAny_runValue (codeAny_builtin entry_proto_collect' (show wpAny _ _ (do again (.builtin "list.__iadd__" ⟨[← newList [], .ref l], []⟩)) _ _ s from ?_)))
  refine wpAny_bind (wpAny_newList (wpAny_pure ⟨Code.quiet_builtin _ (by decide +kernel), codeAny_builtin entry_list_iadd' (show wpAny _ _ (Builtin.List.listExtendWith (.ref s.heap.objs.size) (.ref l) (.ref s.heap.objs.size)) _ _ { s with heap := s.heap.push (seqObj "list" #[] 0) } from ?_)⟩))
  unfold Builtin.List.listExtendWith
  refine wpAny_bind (wpAny_typeOf (T := "tuple") ⟨o, h2, hc⟩ ?_)
  rw [if_pos (by rw [show (Value.type "tuple" == Value.type "tuple") = true from rfl]; simp)]
  refine wpAny_bind (listItems_at h2 hd (wpAny_bind (listItems_at (xs := #[]) (n := 0) h3 rfl ?_)))
  rw [if_neg (by simp)]
  refine wpAny_bind (listUpdate_at (xs := #[]) (n := 0) h3 rfl (wpAny_pure ?_) (Nat.zero_le _) h5)
  show wpAny (model prog w) A (do
      let o ← load s.heap.objs.size
      match o.data with
      | .seq ys _ => pure ys.toList
      | _ => unsupported "internal:collect") Q E { s with heap := (s.heap.push (seqObj "list" #[] 0)).update s.heap.objs.size (Obj.mapSeq (· ++ vs.toArray)) }
  refine wpAny_bind (wpAny_load (get?_update_seq h3 _) (show wpAny _ _ (pure ((#[] : Array Value) ++ vs.toArray).toList) Q E _ from ?_))
  rw [h4]
  exact wpAny_pure h
theorem sorted_tup {l : Addr} {vs : List Value} {ns : List Int} {Q : Value → Shared → Prop} (hl : s.heap.IsTuple l vs.toArray) (hI : IntsAre vs ns) (hn : vs.length < 64)
    (h : ∀ (out : Array Value) (ns' : List Int), IntsAre out.toList ns' → ns'.Perm ns → ns'.Pairwise (· ≤ ·) → Q (.ref (s.heap.objs.size + 1)) { s with heap := sortedAll s.heap vs out }) :
    wpAny (model prog w) A (call (.builtin "sorted") [.ref l]) Q E s := by
  refine Calls.call_function_entry kind_sorted plain_sorted entry_sorted (args_sorted1 (.ref l)) ?_
  unfold Builtin.«sorted»
  refine wpAny_bind (m := checkCount "sorted" 1 1 _) (wpAny_pure (wpAny_bind (collect_tup hl (by rw [sizeLine_eq]; omega) (wpAny_bind (wpAny_newList ?_ (by rw [sizeLine_eq]; omega))))))
  have z1 : ((s.heap.push (seqObj "list" #[] 0)).update s.heap.objs.size (Obj.mapSeq (· ++ vs.toArray))).objs.size = s.heap.objs.size + 1 := (Heap.size_update ..).trans (size_push' ..)
  have z2 := Heap.get?_push_size ((s.heap.push (seqObj "list" #[] 0)).update s.heap.objs.size (Obj.mapSeq (· ++ vs.toArray))) (o := seqObj "list" vs.toArray 0) rfl
  rw [z1] at z2
  show wpAny _ _ _ _ _ { s with heap := ((s.heap.push (seqObj "list" #[] 0)).update s.heap.objs.size (Obj.mapSeq (· ++ vs.toArray))).push (seqObj "list" vs.toArray 0) }
  rw [z1]
  refine wpAny_bind (wpAny_holding (wpAny_call_entry slot_list_sort ⟨_, z2, rfl⟩ entry_list_sort (list_sort_tree z2 hI hn fun out ns' a1 a2 a3 => ⟨_, rfl, wpAny_pure ⟨_, rfl, h out ns' a1 a2 a3⟩⟩) (args_list_sort _)))
end
def rSortTI (K : PySem.W.Frag) : List V → Hp → VK → Prop := fun vs H Q => ∃ (a : Addr) (ns : List Int), vs = [V.ref a] ∧ (SqL K H a (ns.map V.int) ∨ SqT K H a (ns.map V.int)) ∧ ns.length < 64 ∧
  ∀ (ns' : List Int) (p : Addr), ns'.Perm ns → ns'.Pairwise (· ≤ ·) → H p = none → Q (.ref p) (upd H p (.lst (ns'.map V.int)))
section
variable {X : Cx} (K : PySem.W.Frag)
theorem cr_sortTI (h : X.K = K := by rfl) : CallR X (.builtin "sorted") (rSortTI K) := by
  subst h
  intro pins s σ H vs us Q I r h
  obtain ⟨a, ns, rfl, hs | hs, h64, q⟩ := h
  · exact cr_sorted pins s σ H _ us Q I r ⟨a, ns, rfl, hs, h64, q⟩
  · obtain ⟨its, rv, hl, hz⟩ := I.tuple hs
    rw [Vals.ref1 r]
    have hi := rv.ints
    refine sorted_tup (show s.heap.IsTuple a its.toArray from hl) hi (by rw [hi.length]; exact h64) fun out ns' h1 h2 h3 => ?_
    obtain ⟨ep, he'⟩ := PyProof.Rows.sortedAll_at s.heap its out
    have hlen : (ns'.map V.int).length ≤ sizeLine := by
      rw [List.length_map, h2.length_eq]
      exact small64 h64
    exact ⟨.ref _, upd H (s.heap.objs.size + 1) (.lst (ns'.map V.int)), I.laid (t' := s.toks) (fun _ _ => PyProof.Rows.sortedAll_old) (Nat.le_succ _) ⟨hlen, out.toList, ep, vals_of_ints h1, he'⟩, rfl, q ns' _ h2 h3 (I.hok.fresh (Nat.le_succ _))⟩
end
end Ef
namespace Ef
open PySem PySem.Spec PyProof.Rows L2
/-! ### repr of a list of one value of any sort -/
section
variable {X : Cx} {es : List Expr} {t : TA} {pos : Pos}
def tLstN (t : TA) : TE := fun σ H Q => t σ H fun xs H1 => xs.length ≤ sizeLine ∧ ∀ p, H1 p = none → p ≠ sysModules → Q (.ref p) (upd H1 p (.lst xs))
theorem far_new {pins : List (Addr × Obj)} {σ : L2.St} {H : Hp} {s : Shared} (I : Inv X pins σ H s) : s.heap.objs.size ≠ sysModules := by
  obtain ⟨mc, h1, _⟩ := I.nolimit
  have h2 : cStatics < s.heap.objs.size := h1.lt
  have h3 : (2 : Nat) < s.heap.objs.size := h2
  show ¬ s.heap.objs.size = 1
  omega
theorem pe_lstN (h : PA X es t) : PE X (.List es pos) (tLstN t) := by
  refine ⟨fun pins s σ H Q I hq => ?_⟩
  refine wpAny_List_spliced (thn (h.run pos pins s σ H _ I hq) fun us s1 ⟨xs, H1, I1, r, z, q⟩ => ⟨by rw [← r.length]; exact z, ?_⟩)
  have hf : H1 s1.heap.objs.size = none := I1.hok.fresh (Nat.le_refl _)
  refine ⟨.ref s1.heap.objs.size, upd H1 s1.heap.objs.size (.lst xs), I1.laid (t' := s1.toks) (fun b u e => Heap.get?_push_of_some _ e) (Nat.le_refl _) ?_, rfl, q _ hf (far_new I1)⟩
  exact ⟨z, us, 0, r, Heap.get?_push_size _ rfl⟩
end
/-- data that is not deep, or an empty dict -/
def ItemS (K : PySem.W.Frag) (H : Hp) (v : V) (d : PyData) : Prop := (Dp K H v d ∧ Sh 50 70000 d) ∨ (d = .dict [] ∧ ∃ p, v = .ref p ∧ H p = some (.dK []))
theorem ItemS.mono {K : PySem.W.Frag} {H H' : Hp} {v : V} {d : PyData} (s : Same H H') (h : ItemS K H v d) : ItemS K H' v d := by
  rcases h with ⟨h, h2⟩ | ⟨e, p, e2, h⟩
  · exact .inl ⟨Dp.mono s h, h2⟩
  · exact .inr ⟨e, p, e2, s _ _ h⟩
def rReprL (K : PySem.W.Frag) : List V → Hp → VK → Prop := fun xs H Q => ∃ l v d, xs = [.ref l] ∧ H l = some (.lst [v]) ∧ l ≠ sysModules ∧ ItemS K H v d ∧ Q (.str (PyData.list [d]).shown) H
section
variable {X : Cx} (K : PySem.W.Frag)
theorem call_reprL (gd : X.A.guards = some []) (hu : X.A.units + 66 < cLine) (h : X.K = K := by rfl) : CallR X (.builtin "repr") (rReprL K) := by
  subst h
  intro pins s σ H xs us Q I r h
  obtain ⟨l, v, d, rfl, hl, hne, hI, q⟩ := h
  rcases hI with ⟨hD, hS⟩ | ⟨rfl, p, rfl, hp⟩
  · refine call_reprD gd hu pins s σ H _ us Q I r ⟨.ref l, .list [d], rfl, .lst (SqL.of hl) (.cons hD .nil), ?_, q⟩
    exact (Sh.lst (ShAll.cons hS (ShAll.nil.mono (Nat.zero_le 50) (Nat.zero_le 0)))).mono (by decide) (by decide)
  · obtain ⟨u, rfl, ru⟩ := vals1 r
    obtain rfl : u = Value.ref l := ru
    obtain ⟨_, hsys, vs, kv, o, es, ep, ho, hx, hd, hk, hpr, hn⟩ := dk_of I.hok hp
    have e1 : vs = [] := by
      cases kv
      rfl
    subst e1
    have e2 : es.toList = [] := by
      generalize es.toList = l at hpr ⊢
      cases hpr
      rfl
    have rd : Reads s.heap (.ref p) (.dict []) (p :: [] ++ []) := by
      refine .dict ho hx.1 hd ?_ ?_
      · rw [e2]
        exact .nil
      · rw [e2]
        exact .nil
    obtain ⟨its, rv, ⟨ol, nl, g1, g2, g3, g4⟩, hz⟩ := I.list (SqL.of hl)
    obtain ⟨u, rfl, ru⟩ := vals1 rv
    obtain rfl : u = Value.ref p := ru
    have dep : PyData.depth (.list [.dict []]) ≤ 3 := by decide
    have rdl : Reads s.heap (.ref l) (.list [.dict []]) (l :: ((p :: [] ++ []) ++ [])) := .list g1 g2 (by first | exact g3 | exact g4) (.cons rd .nil)
    refine repr_of_reads' rdl rfl (fun _ hm => ?_) gd (by omega) (fun _ _ e => e) (fun h' u tk hk => ?_) (by decide +kernel)
    · have e3 : sysModules = l ∨ sysModules = p := by simpa using hm
      rcases e3 with e3 | e3
      · exact hne e3.symm
      · rw [← e3] at hsys
        exact absurd hsys (by simp)
    · exact ⟨.str _, H, I.kept hk, ⟨u, rfl⟩, q⟩
end
section
variable {X : Cx} (K : PySem.W.Frag)
theorem cr_allK (hc : X.calm = true := by rfl) (h : X.K = K := by rfl) : CallR X (.builtin "all") (rAll K) := h ▸ cr_all hc
end
end Ef
namespace Ef
open PySem PySem.Spec PyProof.Rows L2
/-! ### data: equal to itself, shown -/
theorem neD_same {K : PySem.W.Frag} {H : Hp} {x y : V} {d : PyData} {Q : VK} (hx : Dp K H x d) (hy : Dp K H y d) (s : Sh 60 80000 d) (q : Q (.bl false) H) : rNeD K x y H Q := by
  refine ⟨d, d, hx, hy, s.shaped (by decide), s.shaped (by decide), ?_⟩
  rw [SeqAt.eqv_refl d s.can]
  exact q
theorem eqD_same {K : PySem.W.Frag} {H : Hp} {x y : V} {d : PyData} {Q : VK} (hx : Dp K H x d) (hy : Dp K H y d) (s : Sh 60 80000 d) (q : Q (.bl true) H) : rEqD K x y H Q := by
  refine ⟨d, d, hx, hy, s.shaped (by decide), s.shaped (by decide), ?_⟩
  rw [SeqAt.eqv_refl d s.can]
  exact q
/-- numbers as data -/
def natD (ms : List Nat) : List PyData := ms.map fun (m : Nat) => PyData.int (m : Int)
theorem sh_nat {ms : List Nat} {b : Nat} (h0 : 0 < b) (h6 : b ≤ 600) (h : ∀ x ∈ ms, x < 2 ^ b) : ShAll 0 ((b + 1) * ms.length) (natD ms) := by
  have e : natD ms = (ms.map fun (m : Nat) => (m : Int)).map PyData.int := by
    unfold natD
    rw [List.map_map]
    rfl
  rw [e]
  have h1 := ShAll.ints h0 h6 (ns := ms.map fun (m : Nat) => (m : Int)) fun x hx => by
    obtain ⟨m, hm, rfl⟩ := List.mem_map.mp hx
    exact h m hm
  rw [List.length_map] at h1
  exact h1
theorem sh_list {ms : List Nat} (hl : ms.length ≤ 60) (h : ∀ x ∈ ms, x < 60) : Sh 1 500 (.tuple (natD ms)) := by
  have h1 := sh_nat (b := 6) (by decide) (by decide) (ms := ms) fun x hx => by
    have := h x hx
    omega
  exact Sh.tup (h1.mono (by decide) (by omega))
end Ef
namespace Ef
open PySem PySem.Spec PyProof.Rows L2
def topS (i : Nat) : Stmt := PySem.Challenge.pw_evenfailover_k05_sets_by_number.main.body.getD i (.Pass ⟨0, 0, 0, 0⟩)
abbrev sPlain : Stmt := topS 6
abbrev NPlain : List Str := ["thing"]
theorem scPlain : FnScope ["thing"] ["thing"] (defScope sPlain) := ⟨rfl, rfl, rfl, by decide +kernel, rfl, by decide +kernel, by decide +kernel⟩
abbrev sBin : Stmt := topS 7
abbrev NBin : List Str := ["n", "k", "result", "step"]
theorem scBin : FnScope ["n", "k", "result", "step"] ["n", "k"] (defScope sBin) := ⟨rfl, rfl, rfl, by decide +kernel, rfl, by decide +kernel, by decide +kernel⟩
abbrev sChkN : Stmt := topS 8
abbrev NChkN : List Str := ["value", "many"]
theorem scChkN : FnScope ["value", "many"] ["value", "many"] (defScope sChkN) := ⟨rfl, rfl, rfl, by decide +kernel, rfl, by decide +kernel, by decide +kernel⟩
abbrev sSetAt : Stmt := topS 10
abbrev NSetAt : List Str := ["n", "size", "number", "many", "members", "rest", "server", "first"]
theorem scSetAt : FnScope ["n", "size", "number", "many", "members", "rest", "server", "first"] ["n", "size", "number"] (defScope sSetAt) := ⟨rfl, rfl, rfl, by decide +kernel, rfl, by decide +kernel, by decide +kernel⟩
abbrev sSetNum : Stmt := topS 11
abbrev NSetNum : List Str := ["n", "members", "number", "found", "many", "server", "first"]
theorem scSetNum : FnScope ["n", "members", "number", "found", "many", "server", "first"] ["n", "members"] (defScope sSetNum) := ⟨rfl, rfl, rfl, by decide +kernel, rfl, by decide +kernel, by decide +kernel⟩
abbrev sPot : Stmt := topS 13
abbrev NPot : List Str := ["_law_script", "_law_spot", "_law_cell", "_law_own"]
theorem scPot : FnScope ["_law_script", "_law_spot", "_law_cell", "_law_own"] ["_law_script", "_law_spot"] (defScope sPot) := ⟨rfl, rfl, rfl, by decide +kernel, rfl, by decide +kernel, by decide +kernel⟩
abbrev sTake : Stmt := topS 14
abbrev NTake : List Str := ["_law_pot_here", "_law_upto", "_law_digit", "_law_prime", "_law_drawn"]
theorem scTake : FnScope ["_law_pot_here", "_law_upto", "_law_digit", "_law_prime", "_law_drawn"] ["_law_pot_here", "_law_upto"] (defScope sTake) := ⟨rfl, rfl, rfl, by decide +kernel, rfl, by decide +kernel, by decide +kernel⟩
abbrev sOf : Stmt := topS 15
abbrev NOf : List Str := ["_law_pot_here", "_law_some"]
theorem scOf : FnScope ["_law_pot_here", "_law_some"] ["_law_pot_here", "_law_some"] (defScope sOf) := ⟨rfl, rfl, rfl, by decide +kernel, rfl, by decide +kernel, by decide +kernel⟩
abbrev sRows : Stmt := topS 16
abbrev NRows : List Str := ["_law_rows_here", "_law_last", "_law_at"]
theorem scRows : FnScope ["_law_rows_here", "_law_last", "_law_at"] [] (defScope sRows) := ⟨rfl, rfl, rfl, by decide +kernel, rfl, by decide +kernel, by decide +kernel⟩
abbrev sAll : Stmt := topS 17
abbrev NAll : List Str := ["_law_wide", "_law_few", "_law_found", "_law_one", "_law_some"]
theorem scAll : FnScope ["_law_wide", "_law_few", "_law_found", "_law_one", "_law_some"] ["_law_wide", "_law_few"] (defScope sAll) := ⟨rfl, rfl, rfl, by decide +kernel, rfl, by decide +kernel, by decide +kernel⟩
abbrev sBefore : Stmt := topS 18
abbrev NBefore : List Str := ["_law_rows_here", "_law_wide", "_law_some", "_law_total", "_law_start", "_law_at", "_law_one", "_law_lower"]
theorem scBefore : FnScope ["_law_rows_here", "_law_wide", "_law_some", "_law_total", "_law_start", "_law_at", "_law_one", "_law_lower"] ["_law_rows_here", "_law_wide", "_law_some"] (defScope sBefore) := ⟨rfl, rfl, rfl, by decide +kernel, rfl, by decide +kernel, by decide +kernel⟩
abbrev sTold : Stmt := topS 19
abbrev NTold : List Str := ["_law_wide", "_law_few", "_law_value", "_law_found", "_law_caught", "error", "_law_is_other"]
theorem scTold : FnScope ["_law_wide", "_law_few", "_law_value", "_law_found", "_law_caught", "error", "_law_is_other"] ["_law_wide", "_law_few", "_law_value"] (defScope sTold) := ⟨rfl, rfl, rfl, by decide +kernel, rfl, by decide +kernel, by decide +kernel⟩
abbrev sGreat : Stmt := topS 20
abbrev NGreat : List Str := ["_law_pot_here", "_law_rows_here", "_law_wide", "_law_few", "_law_free", "_law_some", "_law_turn", "_law_chosen", "_law_due", "_law_most", "_law_at", "_law_odd", "_law_value"]
theorem scGreat : FnScope ["_law_pot_here", "_law_rows_here", "_law_wide", "_law_few", "_law_free", "_law_some", "_law_turn", "_law_chosen", "_law_due", "_law_most", "_law_at", "_law_odd", "_law_value"] ["_law_pot_here", "_law_rows_here"] (defScope sGreat) := ⟨rfl, rfl, rfl, by decide +kernel, rfl, by decide +kernel, by decide +kernel⟩
abbrev sLaw : Stmt := topS 21
abbrev NLaw : List Str := ["_law_script", "_law_wide", "_law_few", "_law_every", "_law_at", "_law_some", "_law_rows_here", "_law_spot", "_law_pot_here", "_law_turn"]
theorem scLaw : FnScope ["_law_script", "_law_wide", "_law_few", "_law_every", "_law_at", "_law_some", "_law_rows_here", "_law_spot", "_law_pot_here", "_law_turn"] ["_law_script"] (defScope sLaw) := ⟨rfl, rfl, rfl, by decide +kernel, rfl, by decide +kernel, by decide +kernel⟩
abbrev sNoN : Stmt := inClass (topS 2) 0
theorem scNoN : FnScope ["self", "value"] ["self", "value"] (defScope sNoN) := ⟨rfl, rfl, rfl, by decide +kernel, rfl, by decide +kernel, by decide +kernel⟩
abbrev sNotP : Stmt := inClass (topS 3) 0
theorem scNotP : FnScope ["self", "count"] ["self", "count"] (defScope sNotP) := ⟨rfl, rfl, rfl, by decide +kernel, rfl, by decide +kernel, by decide +kernel⟩
abbrev sTooM : Stmt := inClass (topS 4) 0
theorem scTooM : FnScope ["self", "count"] ["self", "count"] (defScope sTooM) := ⟨rfl, rfl, rfl, by decide +kernel, rfl, by decide +kernel, by decide +kernel⟩
/-- what stands behind the top: each def, how it binds, and that the built-ins' names are free -/
structure Txt (K : PySem.W.Frag) (mg : Str → Option Value) where
  fPlain : Addr
  fdPlain : FuncData
  FPlain : Fun K "is_plain_int" "is_plain_int" sPlain fPlain fdPlain
  bPlain : Binds K fdPlain ["thing"] []
  gPlain : mg "is_plain_int" = some (.ref fPlain)
  fBin : Addr
  fdBin : FuncData
  FBin : Fun K "binomial" "binomial" sBin fBin fdBin
  bBin : Binds K fdBin ["n", "k"] []
  gBin : mg "binomial" = some (.ref fBin)
  fChkN : Addr
  fdChkN : FuncData
  FChkN : Fun K "check_number" "check_number" sChkN fChkN fdChkN
  bChkN : Binds K fdChkN ["value", "many"] []
  gChkN : mg "check_number" = some (.ref fChkN)
  fSetAt : Addr
  fdSetAt : FuncData
  FSetAt : Fun K "set_at" "set_at" sSetAt fSetAt fdSetAt
  bSetAt : Binds K fdSetAt ["n", "size", "number"] []
  gSetAt : mg "set_at" = some (.ref fSetAt)
  fSetNum : Addr
  fdSetNum : FuncData
  FSetNum : Fun K "set_number" "set_number" sSetNum fSetNum fdSetNum
  bSetNum : Binds K fdSetNum ["n", "members"] []
  gSetNum : mg "set_number" = some (.ref fSetNum)
  fPot : Addr
  fdPot : FuncData
  FPot : Fun K "_law_pot" "_law_pot" sPot fPot fdPot
  bPot : Binds K fdPot ["_law_script", "_law_spot"] []
  gPot : mg "_law_pot" = some (.ref fPot)
  fTake : Addr
  fdTake : FuncData
  FTake : Fun K "_law_take" "_law_take" sTake fTake fdTake
  bTake : Binds K fdTake ["_law_pot_here", "_law_upto"] []
  gTake : mg "_law_take" = some (.ref fTake)
  fOf : Addr
  fdOf : FuncData
  FOf : Fun K "_law_of" "_law_of" sOf fOf fdOf
  bOf : Binds K fdOf ["_law_pot_here", "_law_some"] []
  gOf : mg "_law_of" = some (.ref fOf)
  fRows : Addr
  fdRows : FuncData
  FRows : Fun K "_law_rows" "_law_rows" sRows fRows fdRows
  bRows : Binds K fdRows [] []
  gRows : mg "_law_rows" = some (.ref fRows)
  fAll : Addr
  fdAll : FuncData
  FAll : Fun K "_law_all" "_law_all" sAll fAll fdAll
  bAll : Binds K fdAll ["_law_wide", "_law_few"] []
  gAll : mg "_law_all" = some (.ref fAll)
  fBefore : Addr
  fdBefore : FuncData
  FBefore : Fun K "_law_before" "_law_before" sBefore fBefore fdBefore
  bBefore : Binds K fdBefore ["_law_rows_here", "_law_wide", "_law_some"] []
  gBefore : mg "_law_before" = some (.ref fBefore)
  fTold : Addr
  fdTold : FuncData
  FTold : Fun K "_law_told" "_law_told" sTold fTold fdTold
  bTold : Binds K fdTold ["_law_wide", "_law_few", "_law_value"] []
  gTold : mg "_law_told" = some (.ref fTold)
  fGreat : Addr
  fdGreat : FuncData
  FGreat : Fun K "_law_great_right" "_law_great_right" sGreat fGreat fdGreat
  bGreat : Binds K fdGreat ["_law_pot_here", "_law_rows_here"] []
  gGreat : mg "_law_great_right" = some (.ref fGreat)
  kSetNum_members_n : KBinds K fdSetNum ["n", "members"] ["members", "n"] (permL [1, 0] 2) (permL [1, 0] 2)
  kSetAt_number_size_n : KBinds K fdSetAt ["n", "size", "number"] ["number", "size", "n"] (permL [2, 1, 0] 3) (permL [2, 1, 0] 3)
  cBase : Addr
  gcBase : mg "FailoverError" = some (.ref cBase)
  btBase : BaseT K cBase
  cNoN : Addr
  gcNoN : mg "NoNumber" = some (.ref cNoN)
  fNoN : Addr
  fdNoN : FuncData
  FNoN : Fun K "__init__" "NoNumber.__init__" sNoN fNoN fdNoN
  bNoN : Binds K fdNoN ["self", "value"] []
  eNoN : ErrT K cNoN fNoN "value" cBase
  cNotP : Addr
  gcNotP : mg "NotPossible" = some (.ref cNotP)
  fNotP : Addr
  fdNotP : FuncData
  FNotP : Fun K "__init__" "NotPossible.__init__" sNotP fNotP fdNotP
  bNotP : Binds K fdNotP ["self", "count"] []
  eNotP : ErrT K cNotP fNotP "count" cBase
  cTooM : Addr
  gcTooM : mg "TooMany" = some (.ref cTooM)
  fTooM : Addr
  fdTooM : FuncData
  FTooM : Fun K "__init__" "TooMany.__init__" sTooM fTooM fdTooM
  bTooM : Binds K fdTooM ["self", "count"] []
  eTooM : ErrT K cTooM fTooM "count" cBase
  kitNot : PySem.W.kitAny K (.ref cNoN) [.ref cNotP, .ref cTooM] = some false
  kitVE : PySem.W.kitOne K (.ref cNoN) (.type "ValueError") = some true
  kitMe : PySem.W.kitOne K (.ref cNoN) (.ref cNoN) = some true
  n_ValueError : mg "ValueError" = none
  n_abs : mg "abs" = none
  n_all : mg "all" = none
  n_bool : mg "bool" = none
  n_enumerate : mg "enumerate" = none
  n_int : mg "int" = none
  n_isinstance : mg "isinstance" = none
  n_len : mg "len" = none
  n_list : mg "list" = none
  n_max : mg "max" = none
  n_min : mg "min" = none
  n_range : mg "range" = none
  n_repr : mg "repr" = none
  n_sorted : mg "sorted" = none
  n_tuple : mg "tuple" = none
/-! ### is_plain_int -/
def tyNames : List String := ["NoneType", "bool", "int", "str", "list", "tuple", "dict"]
def spPlain (K : PySem.W.Frag) : Sp := fun vs H Q _ => ∃ (v : V) (t : String), vs = [v] ∧ TyX K H v (.type t) ∧ t ∈ tyNames ∧ Q (.bl (t == "int")) H
theorem ty_cases {t : String} (h : t ∈ tyNames) : t = "NoneType" ∨ t = "bool" ∨ t = "int" ∨ t = "str" ∨ t = "list" ∨ t = "tuple" ∨ t = "dict" := by
  unfold tyNames at h
  simp only [List.mem_cons, List.not_mem_nil, or_false] at h
  exact h
theorem kit_int {K : PySem.W.Frag} {t : String} (h : t ∈ tyNames) : PySem.W.kitOne K (.type t) (.type "int") = some (t == "int" || t == "bool") := by
  rcases ty_cases h with rfl | rfl | rfl | rfl | rfl | rfl | rfl <;> exact kit_ty (by decide +kernel)
theorem kit_bool {K : PySem.W.Frag} {t : String} (h : t ∈ tyNames) : PySem.W.kitOne K (.type t) (.type "bool") = some (t == "bool") := by
  rcases ty_cases h with rfl | rfl | rfl | rfl | rfl | rfl | rfl <;> exact kit_ty (by decide +kernel)
theorem kit_tuple {K : PySem.W.Frag} {t : String} (h : t ∈ tyNames) : PySem.W.kitOne K (.type t) (.type "tuple") = some (t == "tuple") := by
  rcases ty_cases h with rfl | rfl | rfl | rfl | rfl | rfl | rfl <;> exact kit_ty (by decide +kernel)
section
variable {P : Program} {w : World} {K : PySem.W.Frag} {mg : Str → Option Value} {base : Heap}
theorem ok_plain (T : Txt K mg) {j : Nat} : FnOk P w K mg base CX0 (j + 1) T.fPlain T.fdPlain ["thing"] (spPlain K) := by
  refine T.FPlain.ok scPlain (fun vs H Q E h => ?_) (fun cdv A outer s H vs Q E hr h => ?_)
  · obtain ⟨v, t, rfl, _⟩ := h
    rfl
  · obtain ⟨v, t, rfl, ty, ht, q⟩ := h
    refine ⟨_, pss_one (ps_ret (pe_and (pe_callB call_isi (by rfl) T.n_isinstance (by decide +kernel) (pa_cons (pv 0) (pa_cons (pe_bltn (v := .ty "int") (by rfl) T.n_int (by decide +kernel) rfl) pa_nil)))
      (pe_one (pe_not (pe_callB call_isi (by rfl) T.n_isinstance (by decide +kernel) (pa_cons (pv 0) (pa_cons (pe_bltn (v := .ty "bool") (by rfl) T.n_bool (by decide +kernel) rfl) pa_nil))))))), ?_⟩
    refine ⟨v, rfl, v, .ty "int", _, _, _, rfl, .ty _, ty, kit_int ht, _, rfl, ?_⟩
    rcases ty_cases ht with rfl | rfl | rfl | rfl | rfl | rfl | rfl
    · exact iteF q
    · exact iteT ⟨v, rfl, v, .ty "bool", _, _, _, rfl, .ty _, ty, kit_bool ht, _, rfl, q⟩
    · exact iteT ⟨v, rfl, v, .ty "bool", _, _, _, rfl, .ty _, ty, kit_bool ht, _, rfl, q⟩
    · exact iteF q
    · exact iteF q
    · exact iteF q
    · exact iteF q
end
/-! ### binomial -/
def spBin : Sp := fun vs H Q _ => ∃ n k : Int, vs = [.int n, .int k] ∧ n ≤ 60 ∧ Q (.int (binZ n k)) H
section
variable {P : Program} {w : World} {K : PySem.W.Frag} {mg : Str → Option Value} {base : Heap}
theorem ok_bin (T : Txt K mg) {j : Nat} : FnOk P w K mg base CX0 (j + 1) T.fBin T.fdBin ["n", "k"] spBin := by
  refine T.FBin.ok scBin (fun vs H Q E h => ?_) (fun cdv A outer s H vs Q E hr h => ?_)
  · obtain ⟨n, k, rfl, _⟩ := h
    rfl
  · obtain ⟨n, k, rfl, hn, q⟩ := h
    refine ⟨_, pss_cons (ps_if (PW.pt (pw_or (pt_cmpR op_lt (pv 1) pe_int (nomark _)) (pw_or1 (pt_cmpR op_gt (pv 1) (pv 0) (nomark _))))) (pss_one (ps_ret pe_int)) pss_nil)
      (pss_cons (ps_set (i := 2) scBin.nd rfl (.inl rfl) pe_int)
      (pss_cons (ps_for PassesOwn.never rfl (pi_range2 (by rfl) T.n_range (pa_cons pe_int (pa_cons (pe_op op_add (pe_callB (call_min2 rfl) (by rfl) T.n_min (by decide +kernel) (pa_cons (pv 1) (pa_cons (pe_op op_sub (pv 0) (pv 1)) pa_nil))) pe_int) pa_nil)))
          (pg_name (i := 3) scBin.nd rfl (.inl rfl))
          (pss_one (ps_set (i := 2) scBin.nd rfl (.inl rfl) (pe_op op_fdiv (pe_op op_mul (pv 2) (pe_op op_sub (pe_op op_add (pv 0) pe_int) (pv 3))) (pv 3)))))
      (pss_one (ps_ret (pv 2))))), ?_⟩
    refine ⟨_, rfl, _, _, rfl, rfl, _, rfl, ite2 (fun h1 => ?_) (fun h1 => ?_)⟩
    · have e : binZ n k = 0 := if_pos (.inl (of_decide_eq_true h1))
      rw [e] at q
      exact iteT q
    · refine ⟨_, rfl, _, rfl, _, _, rfl, rfl, _, rfl, ite2 (fun h2 => ?_) (fun h2 => ?_)⟩
      · have e : binZ n k = 0 := if_pos (.inr (of_decide_eq_true h2))
        rw [e] at q
        exact q
      · have k0 : 0 ≤ k := by
          have := of_decide_eq_false (Bool.eq_false_iff.mpr h1)
          omega
        have kn : k ≤ n := by
          have := of_decide_eq_false (Bool.eq_false_iff.mpr h2)
          omega
        obtain ⟨a, rfl⟩ := Int.eq_ofNat_of_zero_le k0
        obtain ⟨b, rfl⟩ := Int.eq_ofNat_of_zero_le (Int.le_trans k0 kn)
        have hab : a ≤ b := by omega
        have hb : b ≤ 60 := by omega
        have em : (if (b : Int) - (a : Int) < (a : Int) then (b : Int) - (a : Int) else (a : Int)) = ((min a (b - a) : Nat) : Int) := by
          by_cases c : b - a < a
          · rw [if_pos (by omega), Nat.min_eq_right (by omega)]
            omega
          · rw [if_neg (by omega), Nat.min_eq_left (by omega)]
        refine ⟨_, rfl, _, rfl, _, rfl, _, _, rfl, rfl, _, _, rfl, _, _, rfl, rfl, ?_⟩
        rw [em]
        refine ⟨_, _, rfl, ⟨by decide, by decide, by omega, by omega⟩, ?_⟩
        refine for_range (lo := 1) (n := (((min a (b - a) : Nat) : Int) + 1 - 1).toNat) (fun i σ H2 => ∃ v, σ = [some (.int b), some (.int a), some (.int (C b i)), v] ∧ H2 = H) ?_ ?_ ?_
        · exact ⟨none, by rw [C_zero]; rfl, rfl⟩
        · rintro i σ H2 hi ⟨v, rfl, rfl⟩
          have hib : i < b := by omega
          have c60 := C_60 b i hb
          refine ⟨_, rfl, _, rfl, _, _, rfl, rfl, _, rfl, _, _, rfl, rfl, _, _, rfl, rfl, .inl ⟨by omega, by omega⟩, _, rfl, _, _, rfl, rfl, ⟨by omega, by omega⟩, ?_⟩
          refine ⟨some (.int (1 + (i : Int))), ?_, rfl⟩
          show [some (V.int (b : Int)), some (V.int (a : Int)), some (V.int (((C b i : Int) * ((b : Int) + 1 - (1 + (i : Int)))) / (1 + (i : Int)))), some (V.int (1 + (i : Int)))] = _
          rw [C_div b i hib]
        · rintro σ H2 ⟨v, rfl, rfl⟩
          refine ⟨_, rfl, ?_⟩
          have e1 : (((min a (b - a) : Nat) : Int) + 1 - 1).toNat = min a (b - a) := by omega
          have e2 : binZ (b : Int) (a : Int) = ((C b (((min a (b - a) : Nat) : Int) + 1 - 1).toNat : Nat) : Int) := by
            rw [e1, C_min b a hab]
            exact binZ_nat b a
          rw [e2] at q
          exact q
end
/-! ### NoNumber's __init__ -/
section
variable {P : Program} {w : World} {K : PySem.W.Frag} {mg : Str → Option Value} {base : Heap}
theorem ok_non (T : Txt K mg) {j : Nat} : FnOk P w K mg base CX0 (j + 1) T.fNoN T.fdNoN ["self", "value"] (spErr K T.cNoN "value") := by
  refine T.FNoN.ok scNoN (fun vs H Q E h => ?_) (fun cdv A outer s H vs Q E hr h => ?_)
  · obtain ⟨a, v, rfl, _⟩ := h
    rfl
  · obtain ⟨a, v, rfl, ha, q⟩ := h
    refine ⟨_, pss_cons (ps_expr (pe_baseInit (by rfl) T.gcBase T.btBase.sp T.btBase.ty T.btBase.rd T.btBase.fc (pa_cons (pv 0) (pa_cons pe_str pa_nil)))) (pss_one (ps_ost (pv 0) (pv 1))), ?_⟩
    refine ⟨.ref a, rfl, a, T.cNoN, _, rfl, (by show 1 ≤ 1000; decide), T.eNoN.ox, ha, ?_⟩
    refine ⟨v, rfl, .ref a, rfl, a, T.cNoN, rfl, T.eNoN.ox, T.eNoN.no, .inl ⟨ha, fun dx nd ne => q dx nd ne⟩⟩
end
/-! ### tuples and lists of servers -/
def setV (ms : List Nat) : List V := ms.map fun (m : Nat) => V.int (m : Int)
theorem setV_app (a b : List Nat) : setV (a ++ b) = setV a ++ setV b := List.map_append
theorem setV_at {ms : List Nat} {i m : Nat} (h : ms[i]? = some m) : (setV ms)[i]? = some (V.int (m : Int)) := by
  unfold setV
  rw [List.getElem?_map, h]
  rfl
theorem setV_len (ms : List Nat) : (setV ms).length = ms.length := List.length_map _
theorem setV_range (n : Nat) : rgV 0 (n : Int) = setV (List.range' 0 n) := by
  unfold setV
  have e : ((n : Int) - 0).toNat = n := by omega
  unfold rgV
  rw [e, List.range_eq_range']
  refine List.map_congr_left fun i _ => ?_
  rw [Int.zero_add]
theorem seq_at {k n : Nat} (h : k < n) : seqIndex? (k : Int) n = some k := by
  unfold seqIndex?
  simp only [show ¬ ((k : Int) < 0) by omega, if_false]
  rw [if_pos]
  · rw [Int.toNat_natCast]
  · rw [Bool.and_eq_true]
    exact ⟨decide_eq_true (by omega), decide_eq_true (by omega)⟩
theorem SqL.is {K : PySem.W.Frag} {H : Hp} {a : Addr} {xs ys : List V} (h : SqL K H a xs) (e : xs = ys) : SqL K H a ys := e ▸ h
theorem setV_erase : ∀ (l : List Nat) (k : Nat), (setV l).eraseIdx k = setV (l.eraseIdx k)
  | [], _ => rfl
  | _ :: _, 0 => rfl
  | a :: r, k + 1 => congrArg (V.int (a : Int) :: ·) (setV_erase r k)
theorem setV_ints (ms : List Nat) : setV ms = (ms.map fun (m : Nat) => (m : Int)).map V.int := by
  unfold setV
  rw [List.map_map]
  rfl
theorem ints_back {ns : List Int} {ms : List Nat} (h : ns.Perm (ms.map fun (m : Nat) => (m : Int))) : ∃ ks : List Nat, ns = (ks.map fun (m : Nat) => (m : Int)) ∧ ks.Perm ms := by
  have e : ∀ x ∈ ns, ((x.toNat : Nat) : Int) = x := fun x hx => by
    obtain ⟨m, _, rfl⟩ := List.mem_map.mp (h.mem_iff.mp hx)
    simp
  refine ⟨ns.map Int.toNat, ?_, ?_⟩
  · rw [List.map_map]
    conv => lhs; rw [← List.map_id ns]
    exact List.map_congr_left fun x hx => (e x hx).symm
  · have h2 := h.map Int.toNat
    rw [List.map_map] at h2
    have e2 : (ms.map (Int.toNat ∘ fun (m : Nat) => (m : Int))) = ms := by
      conv => rhs; rw [← List.map_id ms]
      exact List.map_congr_left fun x _ => by simp
    rw [e2] at h2
    exact h2
theorem le_back {ks : List Nat} (h : (ks.map fun (m : Nat) => (m : Int)).Pairwise (· ≤ ·)) : ks.Pairwise (· ≤ ·) := by
  rw [List.pairwise_map] at h
  exact h.imp fun z => by omega
theorem lt_of_le {ks : List Nat} (h : ks.Pairwise (· ≤ ·)) (hn : ks.Nodup) : Asc ks := (h.and hn).imp fun ⟨a, b⟩ => by omega
theorem inV_ints (x : Int) : ∀ ns : List Int, inV (V.int x) (ns.map V.int) = decide (x ∈ ns)
  | [] => rfl
  | y :: r => by
    show ((y == x) || inV (V.int x) (r.map V.int)) = _
    rw [inV_ints x r]
    by_cases h : y = x
    · subst h
      rw [beq_self_eq_true, decide_eq_true List.mem_cons_self]
      rfl
    · rw [show (y == x) = false from beq_eq_false_iff_ne.mpr h, Bool.false_or]
      by_cases g : x ∈ r
      · rw [decide_eq_true g, decide_eq_true (List.mem_cons_of_mem _ g)]
      · rw [decide_eq_false g, decide_eq_false fun z => ?_]
        rcases List.mem_cons.mp z with z | z
        · exact h z.symm
        · exact g z
theorem flat_ints : ∀ ns : List Int, (ns.map V.int).all flatV = true
  | [] => rfl
  | _ :: r => flat_ints r
theorem setV_flat (ms : List Nat) : (setV ms).all flatV = true := by
  rw [setV_ints]
  exact flat_ints _
theorem inV_setV (x : Nat) (ms : List Nat) : inV (.int (x : Int)) (setV ms) = decide (x ∈ ms) := by
  rw [setV_ints, inV_ints]
  refine decide_eq_decide.mpr ⟨fun h => ?_, fun h => List.mem_map.mpr ⟨x, h, rfl⟩⟩
  obtain ⟨y, hy, e⟩ := List.mem_map.mp h
  have : y = x := by omega
  rw [← this]
  exact hy
theorem setV_mem {ms : List Nat} {v : V} (h : v ∈ setV ms) : ∃ m, m ∈ ms ∧ v = .int (m : Int) := by
  obtain ⟨m, hm, e⟩ := List.mem_map.mp h
  exact ⟨m, hm, e.symm⟩
theorem setV_get {ms : List Nat} {i : Nat} {v : V} (h : (setV ms)[i]? = some v) : ∃ m, ms[i]? = some m ∧ v = .int (m : Int) := by
  unfold setV at h
  rw [List.getElem?_map] at h
  cases e : ms[i]? with
  | none =>
    rw [e] at h
    cases h
  | some m =>
    rw [e] at h
    exact ⟨m, rfl, (Option.some.inj h).symm⟩
theorem range'_snoc (n : Nat) : List.range' 0 (n + 1) = List.range' 0 n ++ [n] := by
  rw [← List.range_eq_range', ← List.range_eq_range', List.range_succ]
theorem fr_step (f : Nat → Bool) (n : Nat) : setV ((List.range' 0 (n + 1)).filter f) = setV ((List.range' 0 n).filter f) ++ if f n = true then [V.int (n : Int)] else [] := by
  rw [range'_snoc, List.filter_append, setV_app]
  congr 1
  cases h : f n with
  | true => rw [List.filter_cons_of_pos h]; rfl
  | false => rw [List.filter_cons_of_neg (by rw [h]; decide)]; rfl
/-- what an error of the class CN with the field f leaves behind -/
def Raised (f : Str) (CN : Addr) (v : V) (H : Hp) (E : XK) : Prop := ∀ H' d, Same H H' → H' d = some (.xd [(f, v)]) → H d = none → E (.ref CN) (some d) H'
theorem cut_set (ms : List Nat) (lo hi : Option Int) : ∃ ks : List Nat, cutV (setV ms) lo hi = setV ks ∧ (∀ x ∈ ks, x ∈ ms) ∧ ks.length ≤ ms.length ∧ ks.Sublist ms := by
  unfold cutV setV
  rw [← List.map_drop, ← List.map_take]
  refine ⟨_, rfl, fun x hx => List.mem_of_mem_drop (List.mem_of_mem_take hx), ?_, (List.take_sublist _ _).trans (List.drop_sublist _ _)⟩
  rw [List.length_take, List.length_drop]
  omega
def natOf : V → Nat
  | .int i => i.toNat
  | _ => 0
theorem perm_setV {ys : List V} {ms : List Nat} (h : ys.Perm (setV ms)) : ∃ ks : List Nat, ys = setV ks ∧ ks.Perm ms := by
  have e : ∀ y ∈ ys, V.int ((natOf y : Nat) : Int) = y := fun y hy => by
    obtain ⟨m, _, rfl⟩ := setV_mem (h.mem_iff.mp hy)
    show V.int (((m : Int).toNat : Nat) : Int) = _
    rw [Int.toNat_natCast]
  refine ⟨ys.map natOf, ?_, ?_⟩
  · unfold setV
    rw [List.map_map]
    conv => lhs; rw [← List.map_id ys]
    exact List.map_congr_left fun y hy => (e y hy).symm
  · have h2 := h.map natOf
    unfold setV at h2
    rw [List.map_map] at h2
    have e2 : (ms.map (natOf ∘ fun (m : Nat) => V.int (m : Int))) = ms := by
      conv => rhs; rw [← List.map_id ms]
      refine List.map_congr_left fun x _ => ?_
      show (x : Int).toNat = x
      rw [Int.toNat_natCast]
    rw [e2] at h2
    exact h2
theorem dp_set {K : PySem.W.Frag} {H : Hp} : ∀ ms : List Nat, DpAll K H (setV ms) (natD ms)
  | [] => .nil
  | m :: r => .cons (.int (m : Int)) (dp_set r)
theorem but_free {p q : Addr} {H H' : Hp} (s : But p H H') (h : H' q = none) (n : q ≠ p) : H q = none := by
  cases e : H q with
  | none => rfl
  | some o =>
    rw [s _ _ n e] at h
    cases h
theorem but_new {p q : Addr} {H H1 : Hp} {o : HO} (s : But p H H1) (h : H q = none) : But p H (L2.upd H1 q o) := fun b x n e => by
  rw [upd_ne (ne_of_none e h)]
  exact s b x n e
theorem erase_perm {α : Type} : ∀ (l : List α) (k : Nat) (x : α), l[k]? = some x → (x :: l.eraseIdx k).Perm l
  | [], _, _, h => by cases h
  | a :: r, 0, x, h => by
    obtain rfl : a = x := Option.some.inj h
    exact List.Perm.refl _
  | a :: r, k + 1, x, h => (List.Perm.swap a x _).trans ((erase_perm r k x h).cons a)
theorem same_hide {p : Addr} {H H' : Hp} (s : Same H H') (n : H p = none) : Same H (hide p H') := fun b o e => by
  rw [hide_ne (ne_of_none e n)]
  exact s b o e
theorem cut_take (fl : List Nat) (w : Nat) : cutV (setV fl) none (some (w : Int)) = setV (fl.take w) := by
  unfold cutV
  have e0 : HT.sIx (setV fl).length 0 none = 0 := rfl
  have e1 : HT.sIx (setV fl).length (setV fl).length (some (w : Int)) = min w fl.length := by
    rw [setV_len]
    exact HT.sIx_nat _ _ _
  rw [e0, e1, List.drop_zero, Nat.sub_zero]
  unfold setV
  rw [← List.map_take]
  congr 1
  rw [List.take_eq_take_iff]
  omega
theorem SqT_updL {K : PySem.W.Frag} {H : Hp} {a D : Addr} {xs ys : List V} {o : HO} (h : SqT K H a xs) (hD : H D = some (.lst ys)) : SqT K (upd H D o) a xs := by
  rcases h with (h | ⟨o, h⟩) | h
  · exact .inl (.inl (by rw [upd_ne (fun c => by rw [c, hD] at h; cases h)]; exact h))
  · exact .inl (.inr ⟨o, by rw [upd_ne (fun c => by rw [c, hD] at h; cases h)]; exact h⟩)
  · exact .inr h
/-! ### counts and numbers of any value -/
theorem TyX.same {K : PySem.W.Frag} {H H' : Hp} {v : V} {t : Value} (e : Same H H') (h : TyX K H v t) : TyX K H' v t := by
  cases h with
  | base h =>
    cases h with
    | non => exact .base .non
    | bl x => exact .base (.bl x)
    | int i => exact .base (.int i)
    | str x => exact .base (.str x)
    | flt x => exact .base (.flt x)
    | lst z => exact .base (.lst (e _ _ z))
    | frz z => exact .base (.frz (e _ _ z))
    | tup z => exact .base (.tup (e _ _ z))
    | dK z => exact .base (.dK (e _ _ z))
    | dT z => exact .base (.dT (e _ _ z))
    | ins z a1 a2 a3 a4 a5 => exact .base (.ins (e _ _ z) a1 a2 a3 a4 a5)
  | byt b => exact .byt b
  | set z => exact .set (e _ _ z)
  | kList a b => exact .kList a b
  | kTuple a b => exact .kTuple a b
  | kDict a b => exact .kDict a b
  | fTuple z => exact .fTuple (e _ _ z)
  | fDict z => exact .fDict (e _ _ z)
def CountV (K : PySem.W.Frag) (H : Hp) (v : V) (o : Option Int) : Prop := (∃ c, o = some c ∧ v = .int c) ∨ (o = none ∧ ∃ t, t ∈ tyNames ∧ (t == "int") = false ∧ TyX K H v (.type t))
theorem CountV.ty {K : PySem.W.Frag} {H : Hp} {v : V} {o : Option Int} (h : CountV K H v o) : ∃ t, t ∈ tyNames ∧ (t == "int") = o.isSome ∧ TyX K H v (.type t) := by
  rcases h with ⟨c, rfl, rfl⟩ | ⟨rfl, t, h1, h2, h3⟩
  · exact ⟨"int", by decide, rfl, .base (.int c)⟩
  · exact ⟨t, h1, h2, h3⟩
def possB (L : Nat) : Option Int → Bool
  | some c => decide (0 < c) && decide (c % (L : Int) = 0)
  | none => false
theorem possB_some (L : Nat) (c : Int) : possB L (some c) = (decide (0 < c) && decide (c % (L : Int) = 0)) := rfl
theorem CountV.same {K : PySem.W.Frag} {H H' : Hp} {v : V} {o : Option Int} (e : Same H H') (h : CountV K H v o) : CountV K H' v o := by
  rcases h with h | ⟨h1, t, h2, h3, h4⟩
  · exact .inl h
  · exact .inr ⟨h1, t, h2, h3, TyX.same e h4⟩
theorem decV (x y : Int) : decide (V.int x = V.int y) = decide (x = y) := by
  by_cases h : x = y
  · rw [decide_eq_true h, decide_eq_true (congrArg V.int h)]
  · rw [decide_eq_false h, decide_eq_false fun z => h (V.int.inj z)]
theorem poss_no {n d c i : Nat} (hn : n ≤ 60) (h1 : 1 ≤ n) (hd : d ≤ n) (hi : i < d) (h : ¬ (n - i) ∣ c) : possB (leastL n d) (some (c : Int)) = false := by
  rw [possB_some, decide_eq_false (p := (c : Int) % (leastL n d : Int) = 0), Bool.and_false]
  intro z
  have z2 : c % leastL n d = 0 := by
    have : ((c % leastL n d : Nat) : Int) = 0 := by
      rw [Int.natCast_emod]
      exact z
    omega
  exact h ((least_parts h1 hn hd c).mp (Nat.dvd_of_mod_eq_zero z2) i hi)
theorem poss_yes {n d c : Nat} (hn : n ≤ 60) (h1 : 1 ≤ n) (hd : d ≤ n) (h0 : 0 < c) (h : ∀ i, i < d → (n - i) ∣ c) : possB (leastL n d) (some (c : Int)) = true := by
  rw [possB_some, decide_eq_true (p := 0 < (c : Int)) (by omega), Bool.true_and]
  refine decide_eq_true ?_
  rw [← Int.natCast_emod, Nat.mod_eq_zero_of_dvd ((least_parts h1 hn hd c).mpr h)]
  rfl
theorem poss_std {n d : Nat} {o : Option Int} (hn : n ≤ 60) (h1 : 1 ≤ n) (hd : d ≤ n) (h : possB (leastL n d) o = true) : ∃ c : Nat, o = some (c : Int) ∧ Std n d c := by
  cases o with
  | none => cases h
  | some x =>
    rw [possB_some, Bool.and_eq_true] at h
    have a := of_decide_eq_true h.1
    have b := of_decide_eq_true h.2
    obtain ⟨c, rfl⟩ := Int.eq_ofNat_of_zero_le (Int.le_of_lt a)
    refine ⟨c, rfl, hn, h1, hd, by omega, ?_⟩
    have b2 : ((c % leastL n d : Nat) : Int) = 0 := by
      rw [Int.natCast_emod]
      exact b
    exact Nat.dvd_of_mod_eq_zero (by omega)
theorem std_poss {n d c : Nat} (h : Std n d c) : possB (leastL n d) (some (c : Int)) = true := by
  have h0 := h.c0
  obtain ⟨q, hq⟩ := h.dv
  rw [possB_some, decide_eq_true (show (0 : Int) < (c : Int) by omega), Bool.true_and]
  refine decide_eq_true ?_
  rw [← Int.natCast_emod, hq, Nat.mul_mod_right]
  rfl
def numB (m : Nat) : Option Int → Bool
  | some c => decide (0 ≤ c) && decide (c < (m : Int))
  | none => false
theorem numB_some (m : Nat) (c : Int) : numB m (some c) = (decide (0 ≤ c) && decide (c < (m : Int))) := rfl
theorem num_lt {c : Nat} {m : Option Int} (h : numB c m = true) : ∃ k : Nat, m = some (k : Int) ∧ k < c := by
  cases m with
  | none => cases h
  | some x =>
    rw [numB_some, Bool.and_eq_true] at h
    have a := of_decide_eq_true h.1
    have b := of_decide_eq_true h.2
    obtain ⟨k, rfl⟩ := Int.eq_ofNat_of_zero_le a
    exact ⟨k, rfl, by omega⟩
theorem Raised.on {f : Str} {CN : Addr} {v : V} {H H1 : Hp} {E : XK} (s : Same H H1) (h : Raised f CN v H E) : Raised f CN v H1 E := fun H' d s2 e n => h H' d (s.trans s2) e (s.free n)
theorem CountV.isInt {K : PySem.W.Frag} {H : Hp} {v : V} {c : Int} (h : CountV K H v (some c)) : v = .int c := by
  rcases h with ⟨x, e, rfl⟩ | ⟨e, _⟩
  · rw [← Option.some.inj e]
  · cases e
/-! ### check_number -/
def spChkN (K : PySem.W.Frag) (CN : Addr) : Sp := fun vs H Q E => ∃ (m : Nat) (v : V) (o : Option Int), vs = [v, .int m] ∧ CountV K H v o ∧
  (numB m o = true → Q .non H) ∧ (numB m o = false → Raised "value" CN v H E)
section
variable {P : Program} {w : World} {K : PySem.W.Frag} {mg : Str → Option Value} {base : Heap}
theorem ok_chkn (T : Txt K mg) {j : Nat} : FnOk P w K mg base (L2.CX P w) (j + 3) T.fChkN T.fdChkN ["value", "many"] (spChkN K T.cNoN) := by
  refine T.FChkN.okX scChkN (fun vs H Q E h => ?_) (fun cdv A outer s H vs Q E hr h => ?_)
  · obtain ⟨m, v, o, rfl, _⟩ := h
    rfl
  · obtain ⟨m, v, o, rfl, hv, q1, q2⟩ := h
    refine ⟨_, pss_one (ps_if (PW.pt (pw_or (pt_not (pt_val (pe_call (ok_plain T) hr (by rfl) T.gPlain T.FPlain.kp T.bPlain .nil pass0 (pa_cons (pv 0) pa_nil)))) (pw_or (pt_cmpR op_lt (pv 0) pe_int (nomark _)) (pw_or1 (pt_cmpR op_ge (pv 0) (pv 1) (nomark _)))))) (pss_one (ps_raise rfl (takes_of rfl rfl rfl rfl) (pmk_oex T.eNoN.ox T.eNoN.iC T.eNoN.tI (ok_non T) hr T.bNoN .nil pass0 (by rfl) T.gcNoN (pa_cons (pv 0) pa_nil)))) pss_nil), ?_⟩
    have raise : numB m o = false → (tMkO T.cNoN (spErr K T.cNoN "value") [] (tCons (tVar 0) tNil)) [some v, some (.int m)] H (fun cls d H' => E cls d H') := fun ho => by
      refine ⟨v, rfl, (by show 1 ≤ 1000; decide), fun a na => ⟨a, v, rfl, upd_same, fun dx nd ne => ?_⟩⟩
      obtain ⟨e1, e2, e3, e4, e5⟩ := err_end (f := "value") (v := v) na nd ne
      exact ⟨rfl, dx, _, e1, e2, e3, q2 ho _ dx e4 e5 e3⟩
    obtain ⟨t, ht, e, ty⟩ := hv.ty
    refine ⟨v, rfl, v, t, rfl, ty, ht, _, rfl, ?_⟩
    rw [e]
    rcases hv with ⟨c, rfl, rfl⟩ | ⟨rfl, _⟩
    · refine iteF ?_
      refine ⟨_, rfl, _, _, rfl, rfl, _, rfl, ite2 (fun h1 => ?_) (fun h1 => ?_)⟩
      · have h2 : c < 0 := of_decide_eq_true h1
        refine raise ?_
        rw [numB_some, decide_eq_false (show ¬ 0 ≤ c by omega)]
        rfl
      · have h2 : ¬ c < 0 := fun z => h1 (decide_eq_true z)
        refine ⟨_, rfl, _, rfl, _, _, rfl, rfl, _, rfl, ite2 (fun h3 => ?_) (fun h3 => ?_)⟩
        · have h4 : (m : Int) ≤ c := of_decide_eq_true h3
          refine raise ?_
          rw [numB_some, decide_eq_false (show ¬ c < (m : Int) by omega), Bool.and_false]
        · have h4 : ¬ (m : Int) ≤ c := fun z => h3 (decide_eq_true z)
          refine q1 ?_
          rw [numB_some, decide_eq_true (show (0 : Int) ≤ c by omega), decide_eq_true (show c < (m : Int) by omega)]
          rfl
    · refine iteT ?_
      exact raise rfl
end
/-! ### set_at, set_number -/
/-- a number, or a value that is none -/
def NumV (K : PySem.W.Frag) (H : Hp) (v : V) (o : Option Int) : Prop := (∃ c, o = some c ∧ v = .int c) ∨ (o = none ∧ ∃ t, t ∈ tyNames ∧ (t == "int") = false ∧ TyX K H v (.type t))
def inSets (n k : Nat) : Option Int → Bool
  | some c => decide (0 ≤ c) && decide (c < (C n k : Int))
  | none => false
theorem inSets_some (n k : Nat) (c : Int) : inSets n k (some c) = (decide (0 ≤ c) && decide (c < (C n k : Int))) := rfl
def spSetAt (K : PySem.W.Frag) (CN : Addr) : Sp := fun vs H Q E => ∃ (n k : Nat) (v : V) (o : Option Int), vs = [.int n, .int k, v] ∧ n ≤ 60 ∧ k ≤ 60 ∧ NumV K H v o ∧
  (inSets n k o = true → ∀ c : Int, o = some c → ∀ H' p, Same H H' → H p = none → H' p = some (.tup (setV (unr 0 n k c.toNat))) → Q (.ref p) H') ∧
  (inSets n k o = false → ∀ H' d, Same H H' → H' d = some (.xd [("value", v)]) → H d = none → E (.ref CN) (some d) H')
def spSetNum (K : PySem.W.Frag) : Sp := fun vs H Q _ => ∃ (n : Nat) (a : Addr) (ms : List Nat), vs = [.int n, .ref a] ∧ n ≤ 60 ∧ SqT K H a (setV ms) ∧ Sub 0 n ms ∧ Q (.int (rnk 0 n ms : Nat)) H
theorem NumV.ty {K : PySem.W.Frag} {H : Hp} {v : V} {o : Option Int} (h : NumV K H v o) : ∃ t, t ∈ tyNames ∧ (t == "int") = o.isSome ∧ TyX K H v (.type t) := by
  rcases h with ⟨c, rfl, rfl⟩ | ⟨rfl, t, h1, h2, h3⟩
  · exact ⟨"int", by decide, rfl, .base (.int c)⟩
  · exact ⟨t, h1, h2, h3⟩
theorem unr_step (n i k len r : Nat) (hi : i < n) : unr i (n - i) (k - len) r = if r < many (n - i - 1) (k - len) then i :: unr (i + 1) (n - (i + 1)) (k - len - 1) r else unr (i + 1) (n - (i + 1)) (k - len) (r - many (n - i - 1) (k - len)) := by
  obtain ⟨m, hm⟩ : ∃ m, n - i = m + 1 := ⟨n - i - 1, by omega⟩
  rw [hm, show n - (i + 1) = m by omega]
  rfl
theorem rnk_step (n i : Nat) (ms : List Nat) (hi : i < n) : rnk i (n - i) ms = if ms.head? = some i then rnk (i + 1) (n - (i + 1)) ms.tail else many (n - i - 1) ms.length + rnk (i + 1) (n - (i + 1)) ms := by
  obtain ⟨m, hm⟩ : ∃ m, n - i = m + 1 := ⟨n - i - 1, by omega⟩
  rw [hm, show n - (i + 1) = m by omega]
  rfl
theorem many_pos {k j r : Nat} (h : r < many k j) : 1 ≤ j := by
  cases j with
  | zero => exact absurd h (Nat.not_lt_zero _)
  | succ j => omega
theorem many_div (m j : Nat) : C (m + 1) j * j / (m + 1) = many m j := by
  cases j with
  | zero => rw [Nat.mul_zero, Nat.zero_div]; rfl
  | succ j =>
    rw [C_absorb, Nat.mul_div_cancel_left _ (Nat.succ_pos m)]
    rfl
theorem first_eq {n i j : Nat} (h : i < n) : ((C (n - i) j : Nat) : Int) * (j : Int) / ((n : Int) - (i : Int)) = (many (n - i - 1) j : Int) := by
  have e := many_div (n - i - 1) j
  rw [show n - i - 1 + 1 = n - i by omega] at e
  rw [← e, Int.natCast_ediv, Int.natCast_mul, show ((n - i : Nat) : Int) = (n : Int) - (i : Int) by omega]
theorem left_eq {n i j : Nat} (h : i < n) : ((C (n - i) j : Nat) : Int) - (many (n - i - 1) j : Int) = ((C (n - (i + 1)) j : Nat) : Int) := by
  have e := C_many (n - i - 1) j
  rw [show n - i - 1 + 1 = n - i by omega] at e
  rw [e, show n - (i + 1) = n - i - 1 by omega]
  omega
theorem many_C {m j : Nat} (h : 1 ≤ j) : many m j = C m (j - 1) := by
  obtain ⟨k, rfl⟩ : ∃ k, j = k + 1 := ⟨j - 1, by omega⟩
  rfl
theorem inSets_num (n k : Nat) (o : Option Int) : inSets n k o = numB (C n k) o := by cases o <;> rfl
section
variable {P : Program} {w : World} {K : PySem.W.Frag} {mg : Str → Option Value} {base : Heap}
theorem ok_setat (T : Txt K mg) {j : Nat} : FnOk P w K mg base (L2.CX P w) (j + 4) T.fSetAt T.fdSetAt ["n", "size", "number"] (spSetAt K T.cNoN) := by
  refine T.FSetAt.okX scSetAt (fun vs H Q E h => ?_) (fun cdv A outer s H vs Q E hr h => ?_)
  · obtain ⟨n, k, v, o, rfl, _⟩ := h
    rfl
  · obtain ⟨n, k, v, o, rfl, hn, hk, hv, q1, q2⟩ := h
    refine ⟨_, pss_cons (ps_set (i := 3) scSetAt.nd rfl (.inl rfl) (pe_call (ok_bin T) hr (by rfl) T.gBin T.FBin.kp T.bBin .nil pass0 (pa_cons (pv 0) (pa_cons (pv 1) pa_nil)))) (pss_cons (ps_expr (pe_call (ok_chkn T) hr (by rfl) T.gChkN T.FChkN.kp T.bChkN .nil (passes_call (takes_of rfl rfl rfl rfl) (fun _ _ _ _ h => h)) (pa_cons (pv 2) (pa_cons (pv 3) pa_nil)))) (PSs.nox (pss_cons (ps_set (i := 4) scSetAt.nd rfl (.inl rfl) (pe_lst pa_nil)) (pss_cons (ps_set (i := 5) scSetAt.nd rfl (.inl rfl) (pv 2)) (pss_cons (ps_for PassesOwn.never rfl (pi_range1 (by rfl) T.n_range (pa_cons (pv 0) pa_nil)) (pg_name (i := 6) scSetAt.nd rfl (.inl rfl)) (pss_cons (ps_set (i := 7) scSetAt.nd rfl (.inl rfl) (pe_op op_fdivW (pe_op op_mul (pv 3) (pe_op op_sub (pv 1) (pe_callB (call_lenK K) (by rfl) T.n_len PySem.boot_len (pa_cons (pv 4) pa_nil)))) (pe_op op_sub (pv 0) (pv 6)))) (pss_one (ps_if (pt_cmpR op_lt (pv 5) (pv 7) (nomark _)) (pss_cons (ps_expr (pe_bm PySem.F.plainAttrs_list PySem.F.slot_list_append PySem.F.type_list_append mt_append (pv 4) (pa_cons (pv 6) pa_nil))) (pss_one (ps_set (i := 3) scSetAt.nd rfl (.inl rfl) (pv 7)))) (pss_cons (ps_aug (i := 5) scSetAt.nd rfl (.inl rfl) (pv 7) ip_sub) (pss_one (ps_aug (i := 3) scSetAt.nd rfl (.inl rfl) (pv 7) ip_sub))))))) (pss_one (ps_ret (pe_callTy (call_tupleK K) (by rfl) T.n_tuple (by decide +kernel) (pa_cons (pv 4) pa_nil))))))))), ?_⟩
    have eb : binZ (n : Int) (k : Int) = (C n k : Int) := binZ_nat n k
    refine ⟨_, rfl, _, rfl, _, _, rfl, by omega, ?_⟩
    dsimp only [gName]
    rw [eb]
    refine ⟨v, rfl, _, rfl, C n k, v, o, rfl, hv, fun hin => ?_, fun hb => q2 (by rw [inSets_num]; exact hb)⟩
    obtain ⟨r, rfl, hr0⟩ := num_lt hin
    obtain rfl := CountV.isInt hv
    rw [← inSets_num] at hin
    have hkn : k ≤ n := Classical.byContradiction fun z => by
      rw [C_big n k (by omega)] at hr0
      omega
    refine ⟨Nat.zero_le _, fun p np => ?_⟩
    refine ⟨_, rfl, ?_⟩
    refine ⟨_, rfl, (n : Int), rfl, by omega, by omega, ?_⟩
    refine for_range (lo := 0) (n := (n : Int).toNat) (fun i σ H2 => ∃ (pre : List Nat) (x : Nat) (v5 v6 : Option V), σ = [some (.int n), some (.int k), some (.int (r : Int)), some (.int ((C (n - i) (k - pre.length) : Nat) : Int)), some (.ref p), some (.int (x : Int)), v5, v6] ∧ Same H H2 ∧ H2 p = some (.lst (setV pre)) ∧ pre.length ≤ k ∧ unr 0 n k r = pre ++ unr i (n - i) (k - pre.length) x) ⟨[], r, none, none, rfl, same_new np, upd_same, Nat.zero_le _, rfl⟩ ?_ ?_
    · rintro i σ H2 hi ⟨pre, x, v5, v6, rfl, s2, hp, hl, hu⟩
      have hin2 : i < n := by omega
      rw [Int.zero_add]
      rw [unr_step n i k pre.length x hin2] at hu
      have lenV : (setV pre).length = pre.length := List.length_map _
      have c60 := C_60 (n - i) (k - pre.length) (by omega)
      have e2 : (k : Int) - ((setV pre).length : Int) = ((k - pre.length : Nat) : Int) := by
        rw [lenV]
        omega
      refine ⟨_, rfl, _, rfl, .ref p, rfl, p, _, rfl, .inl (SqL.of hp), _, _, rfl, rfl, _, _, rfl, rfl, .inl ⟨by omega, by omega⟩, _, rfl, _, rfl, _, _, rfl, rfl, _, _, rfl, rfl, wide_div (b := 64) (by omega) (by omega) (by decide) (by decide), ?_⟩
      dsimp only [gName]
      rw [e2, first_eq hin2]
      refine ⟨_, rfl, _, rfl, _, _, rfl, rfl, _, rfl, ite2 (fun h5 => ?_) (fun h5 => ?_)⟩
      · have h6 : x < many (n - i - 1) (k - pre.length) := by
          have h7 : (x : Int) < (many (n - i - 1) (k - pre.length) : Int) := of_decide_eq_true h5
          omega
        have hj := many_pos h6
        rw [if_pos h6] at hu
        refine ⟨.ref p, rfl, .inl ⟨rfl, _, SqL.of hp⟩, _, rfl, p, _, _, rfl, rfl, hp, ?_, _, rfl, pre ++ [i], x, some (V.int (i : Int)), some (V.int (many (n - i - 1) (k - pre.length) : Int)), ?_, keep_upd s2 np, ?_, ?_, ?_⟩
        · rw [lenV]
          exact small1000 (by omega)
        · rw [many_C hj, List.length_append, show n - (i + 1) = n - i - 1 by omega, show k - (pre.length + [i].length) = k - pre.length - 1 from rfl]
          rfl
        · rw [upd_same, setV_app]
          rfl
        · rw [List.length_append]
          show pre.length + 1 ≤ k
          omega
        · rw [List.append_assoc, List.length_append]
          show _ = pre ++ (i :: unr (i + 1) (n - (i + 1)) (k - (pre.length + 1)) x)
          rw [show k - (pre.length + 1) = k - pre.length - 1 by omega]
          exact hu
      · have h6 : ¬ x < many (n - i - 1) (k - pre.length) := fun z => h5 (decide_eq_true (by omega))
        rw [if_neg h6] at hu
        refine ⟨_, rfl, _, rfl, _, _, rfl, rfl, _, rfl, _, rfl, _, _, rfl, rfl, pre, x - many (n - i - 1) (k - pre.length), some (V.int (i : Int)), some (V.int (many (n - i - 1) (k - pre.length) : Int)), ?_, s2, hp, hl, hu⟩
        rw [Int.natCast_sub (by omega), ← left_eq hin2]
        rfl
    · rintro σ H2 ⟨pre, x, v5, v6, rfl, s2, hp, hl, hu⟩
      rw [Int.toNat_natCast, Nat.sub_self] at hu
      have hu2 : unr 0 n k r = pre := by
        rw [hu]
        show pre ++ [] = pre
        exact List.append_nil _
      refine ⟨.ref p, rfl, p, _, rfl, .inl ⟨SqL.of hp, fun l nl => ?_⟩⟩
      refine q1 hin (r : Int) rfl _ l (s2.trans (same_new nl)) (s2.free nl) ?_
      rw [upd_same, Int.toNat_natCast, hu2]
theorem ok_setnum (T : Txt K mg) {j : Nat} : FnOk P w K mg base CX0 (j + 2) T.fSetNum T.fdSetNum ["n", "members"] (spSetNum K) := by
  refine T.FSetNum.ok scSetNum (fun vs H Q E h => ?_) (fun cdv A outer s H vs Q E hr h => ?_)
  · obtain ⟨n, a, ms, rfl, _⟩ := h
    rfl
  · obtain ⟨n, a, ms, rfl, hn, hS, hsub, q⟩ := h
    refine ⟨_, pss_cons (ps_set (i := 2) scSetNum.nd rfl (.inl rfl) pe_int) (pss_cons (ps_set (i := 3) scSetNum.nd rfl (.inl rfl) pe_int) (pss_cons (ps_set (i := 4) scSetNum.nd rfl (.inl rfl) (pe_call (ok_bin T) hr (by rfl) T.gBin T.FBin.kp T.bBin .nil pass0 (pa_cons (pv 0) (pa_cons (pe_callB (call_lenK K) (by rfl) T.n_len PySem.boot_len (pa_cons (pv 1) pa_nil)) pa_nil)))) (pss_cons (ps_for PassesOwn.never rfl (pi_range1 (by rfl) T.n_range (pa_cons (pv 0) pa_nil)) (pg_name (i := 5) scSetNum.nd rfl (.inl rfl)) (pss_cons (ps_set (i := 6) scSetNum.nd rfl (.inl rfl) (pe_op op_fdivW (pe_op op_mul (pv 4) (pe_op op_sub (pe_callB (call_lenK K) (by rfl) T.n_len PySem.boot_len (pa_cons (pv 1) pa_nil)) (pv 3))) (pe_op op_sub (pv 0) (pv 5)))) (pss_one (ps_if (PW.pt (pw_and (pt_cmpR op_lt (pv 3) (pe_callB (call_lenK K) (by rfl) T.n_len PySem.boot_len (pa_cons (pv 1) pa_nil)) (nomark _)) (pw_and1 (pt_cmpR op_eq (pe_ix (ix_tupK K) (pv 1) (pv 3) (fun _ _ => rfl)) (pv 5) (nomark _))))) (pss_cons (ps_aug (i := 3) scSetNum.nd rfl (.inl rfl) pe_int ip_add) (pss_one (ps_set (i := 4) scSetNum.nd rfl (.inl rfl) (pv 6)))) (pss_cons (ps_aug (i := 2) scSetNum.nd rfl (.inl rfl) (pv 6) ip_add) (pss_one (ps_aug (i := 4) scSetNum.nd rfl (.inl rfl) (pv 6) ip_sub))))))) (pss_one (ps_ret (pv 2)))))), ?_⟩
    have lenV : (setV ms).length = ms.length := List.length_map _
    have eb : binZ (n : Int) (ms.length : Int) = (C n ms.length : Int) := binZ_nat n ms.length
    refine ⟨_, rfl, .ref a, rfl, a, _, rfl, .inr hS, _, _, by rw [lenV]; rfl, by omega, ?_⟩
    dsimp only [gName]
    rw [eb]
    refine ⟨_, rfl, (n : Int), rfl, by omega, by omega, ?_⟩
    refine for_range (lo := 0) (n := (n : Int).toNat) (fun i σ H2 => ∃ (x f : Nat) (v v2 : Option V), σ = [some (.int n), some (.ref a), some (.int (x : Int)), some (.int (f : Int)), some (.int ((C (n - i) (ms.length - f) : Nat) : Int)), v, v2] ∧ H2 = H ∧ f ≤ ms.length ∧ x + rnk i (n - i) (ms.drop f) = rnk 0 n ms) ⟨0, 0, none, none, rfl, rfl, Nat.zero_le _, by rw [Nat.zero_add]; rfl⟩ ?_ ?_
    · rintro i σ H2 hi ⟨x, f, v, v2, rfl, rfl, hf, hx⟩
      have hin : i < n := by omega
      rw [Int.zero_add]
      rw [rnk_step n i _ hin] at hx
      have c60 := C_60 (n - i) (ms.length - f) (by omega)
      have e2 : ((setV ms).length : Int) - (f : Int) = ((ms.length - f : Nat) : Int) := by
        rw [lenV]
        omega
      refine ⟨_, rfl, .ref a, rfl, a, _, rfl, .inr hS, _, rfl, _, _, rfl, rfl, _, _, rfl, rfl, .inl ⟨by omega, by omega⟩, _, rfl, _, rfl, _, _, rfl, rfl, _, _, rfl, rfl, wide_div (b := 64) (by omega) (by omega) (by decide) (by decide), ?_⟩
      dsimp only [gName]
      rw [e2, first_eq hin]
      have skip : ¬ (ms.drop f).head? = some i → x + many (n - i - 1) (ms.length - f) + rnk (i + 1) (n - (i + 1)) (ms.drop f) = rnk 0 n ms := fun h => by
        rw [if_neg h, List.length_drop] at hx
        omega
      refine ⟨_, rfl, .ref a, rfl, a, _, rfl, .inr hS, _, _, rfl, rfl, _, rfl, ite2 (fun h1 => ?_) (fun h1 => ?_)⟩
      · have h2 : f < ms.length := by
          have h3 : (f : Int) < ((setV ms).length : Int) := of_decide_eq_true h1
          rw [lenV] at h3
          omega
        refine ⟨.ref a, rfl, _, rfl, a, _, _, _, rfl, rfl, hS, atI_nat (setV_at (List.getElem?_eq_getElem h2)), _, rfl, rfl, _, rfl, ite2 (fun h3 => ?_) (fun h3 => ?_)⟩
        · have h4 : ms[f] = i := by
            have h5 := V.int.inj (of_decide_eq_true h3)
            omega
          have h6 : ms.drop f = i :: ms.drop (f + 1) := by
            rw [List.drop_eq_getElem_cons h2, h4]
          rw [h6, if_pos (show (i :: ms.drop (f + 1)).head? = some i from rfl)] at hx
          refine ⟨_, rfl, _, _, rfl, rfl, _, rfl, x, f + 1, some (V.int (i : Int)), some (V.int (many (n - i - 1) (ms.length - f) : Int)), ?_, rfl, by omega, hx⟩
          rw [many_C (show 1 ≤ ms.length - f by omega), show n - (i + 1) = n - i - 1 by omega, show ms.length - (f + 1) = ms.length - f - 1 by omega]
          rfl
        · have h4 : ¬ (ms.drop f).head? = some i := fun z => by
            rw [List.drop_eq_getElem_cons h2] at z
            have h5 : ms[f] = i := Option.some.inj z
            exact h3 (decide_eq_true (by rw [h5]))
          refine ⟨_, rfl, _, rfl, _, _, rfl, rfl, _, rfl, _, rfl, _, _, rfl, rfl, x + many (n - i - 1) (ms.length - f), f, some (V.int (i : Int)), some (V.int (many (n - i - 1) (ms.length - f) : Int)), ?_, rfl, hf, skip h4⟩
          rw [Int.natCast_add, ← left_eq hin]
          rfl
      · have h2 : ¬ f < ms.length := fun z => h1 (decide_eq_true (by rw [lenV]; omega))
        have h4 : ¬ (ms.drop f).head? = some i := fun z => by
          rw [List.drop_eq_nil_of_le (by omega)] at z
          cases z
        refine ⟨_, rfl, _, rfl, _, _, rfl, rfl, _, rfl, _, rfl, _, _, rfl, rfl, x + many (n - i - 1) (ms.length - f), f, some (V.int (i : Int)), some (V.int (many (n - i - 1) (ms.length - f) : Int)), ?_, rfl, hf, skip h4⟩
        rw [Int.natCast_add, ← left_eq hin]
        rfl
    · rintro σ H2 ⟨x, f, v, v2, rfl, rfl, hf, hx⟩
      rw [Int.toNat_natCast, Nat.sub_self] at hx
      have hx2 : x = rnk 0 n ms := hx
      rw [← hx2] at q
      exact ⟨_, rfl, q⟩
end
/-! ### the law's pot of drawn numbers -/
def PotAt (H : Hp) (p : Addr) (m : Nat) : Prop := ∃ a b c : Int, H p = some (.lst [.int a, .int b, .int c]) ∧ (0 ≤ a ∧ a < 10 ^ 300) ∧ (0 ≤ b ∧ b < 2305843009213693951) ∧ 0 ≤ c ∧ c ≤ (m : Int)
theorem PotAt.mono {H : Hp} {p : Addr} {m n : Nat} (h : PotAt H p m) (l : m ≤ n) : PotAt H p n := by
  obtain ⟨a, b, c, h1, h2, h3, h4, h5⟩ := h
  exact ⟨a, b, c, h1, h2, h3, h4, by omega⟩
theorem PotAt.same {H H' : Hp} {p : Addr} {m : Nat} (h : PotAt H p m) (s : Same H H') : PotAt H' p m := by
  obtain ⟨a, b, c, h1, h2⟩ := h
  exact ⟨a, b, c, s _ _ h1, h2⟩
theorem PotAt.ne {H : Hp} {p q : Addr} {m : Nat} (h : PotAt H p m) (n : H q = none) : p ≠ q := by
  obtain ⟨a, b, c, h1, _⟩ := h
  exact ne_of_none h1 n
def spPot (K : PySem.W.Frag) : Sp := fun vs H Q _ => ∃ (a : Addr) (ns : List Int) (i : Nat), vs = [.ref a, .int i] ∧ SqL K H a (ns.map V.int) ∧ i ≤ 100 ∧ ∀ H' p, Same H H' → H p = none → PotAt H' p 0 → Q (.ref p) H'
def spTake : Sp := fun vs H Q _ => ∃ (p : Addr) (m : Nat) (u : Int), vs = [.ref p, .int u] ∧ PotAt H p m ∧ m ≤ 1000000 ∧ 1 ≤ u ∧ u < 2 ^ 1000 ∧
  ∀ (r : Int) (H' : Hp), 0 ≤ r → r < u → PotAt H' p (m + 1) → But p H H' → Q (.int r) H'
theorem own_ok (x : Int) (c : Bool) : 0 ≤ x % ((10 : Int) ^ (60 : Int).toNat) ^ (5 : Int).toNat * (if c then 1 else 0) ∧ x % ((10 : Int) ^ (60 : Int).toNat) ^ (5 : Int).toNat * (if c then 1 else 0) < 10 ^ 300 := by
  have e : ((10 : Int) ^ (60 : Int).toNat) ^ (5 : Int).toNat = 10 ^ 300 := by decide +kernel
  rw [e]
  have h1 := Int.emod_nonneg x (show (10 : Int) ^ 300 ≠ 0 by decide +kernel)
  have h2 := Int.emod_lt_of_pos x (show (0 : Int) < 10 ^ 300 by decide +kernel)
  cases c with
  | true =>
    rw [if_pos rfl, Int.mul_one]
    exact ⟨h1, h2⟩
  | false =>
    rw [if_neg (by decide), Int.mul_zero]
    exact ⟨Int.le_refl _, by decide +kernel⟩
theorem big_pos : (0 : Int) < ((10 : Int) ^ (60 : Int).toNat) ^ (5 : Int).toNat := by decide +kernel
theorem bit_in (c : Bool) : -(2 ^ 64) < (if c then (1 : Int) else 0) ∧ (if c then (1 : Int) else 0) < 2 ^ 64 := by
  cases c <;> decide
theorem prime_at (i : Int) (h0 : 0 ≤ i) (h5 : i < 5) : ∃ v : Int, atI [V.int 2147483647, V.int 2147483629, V.int 2147483587, V.int 2147483579, V.int 2147483563] i = some (.int v) ∧ 0 < v ∧ v < 2 ^ 32 := by
  have h : i = 0 ∨ i = 1 ∨ i = 2 ∨ i = 3 ∨ i = 4 := by omega
  rcases h with rfl | rfl | rfl | rfl | rfl
  · exact ⟨2147483647, rfl, by decide, by decide⟩
  · exact ⟨2147483629, rfl, by decide, by decide⟩
  · exact ⟨2147483587, rfl, by decide, by decide⟩
  · exact ⟨2147483579, rfl, by decide, by decide⟩
  · exact ⟨2147483563, rfl, by decide, by decide⟩
section
variable {P : Program} {w : World} {K : PySem.W.Frag} {mg : Str → Option Value} {base : Heap}
theorem ok_pot (T : Txt K mg) {j : Nat} : FnOk P w K mg base CX0 (j + 1) T.fPot T.fdPot ["_law_script", "_law_spot"] (spPot K) := by
  refine T.FPot.ok scPot (fun vs H Q E h => ?_) (fun cdv A outer s H vs Q E hr h => ?_)
  · obtain ⟨a, ns, i, rfl, _⟩ := h
    rfl
  · obtain ⟨a, ns, i, rfl, hS, hi, q⟩ := h
    refine ⟨_, pss_cons (ps_set (i := 2) scPot.nd rfl (.inl rfl) (pe_ifExp (pt_cmpR op_lt (pv 1) (pe_callB call_len_seq (by rfl) T.n_len PySem.boot_len (pa_cons (pv 0) pa_nil)) (nomark _)) (pe_ix ix_list (pv 0) (pv 1) (fun _ _ => rfl)) (pe_op op_add pe_int (pv 1))))
      (pss_cons (ps_set (i := 3) scPot.nd rfl (.inl rfl) (pe_op op_mul (pe_op op_mod (pe_callB call_abs (by rfl) T.n_abs (by decide +kernel) (pa_cons (pv 2) pa_nil)) (pe_op op_powB (pe_op op_pow pe_int pe_int) pe_int))
        (pe_callTy call_int1 (by rfl) T.n_int (by decide +kernel) (pa_cons (pe_cmpR op_ge (pe_callB call_abs (by rfl) T.n_abs (by decide +kernel) (pa_cons (pv 2) pa_nil)) (pe_op op_pow pe_int pe_int) (nomark _)) pa_nil))))
      (pss_one (ps_ret (pe_lst (pa_cons (pv 3) (pa_cons (pe_op op_mod (pe_op op_add (pe_op op_add (pe_op op_mul (pe_op op_mod (pv 2) pe_int) pe_int) (pe_op op_mul (pe_op op_mul pe_int (pv 1)) (pv 1))) pe_int) pe_int) (pa_cons pe_int pa_nil))))))), ?_⟩
    refine ⟨_, rfl, .ref a, rfl, a, _, rfl, .inl hS, _, _, rfl, rfl, _, rfl, ite2 (fun h1 => ?_) (fun h1 => ?_)⟩
    · have hlt : i < ns.length := by
        have h2 := of_decide_eq_true h1
        rw [List.length_map] at h2
        omega
      refine ⟨.ref a, rfl, _, rfl, a, _, _, _, rfl, rfl, hS, atI_nat (v := V.int ns[i]) (by rw [List.getElem?_map, List.getElem?_eq_getElem hlt]; rfl), ?_⟩
      refine ⟨_, rfl, _, rfl, _, _, rfl, rfl, ⟨by decide, by decide, by decide⟩, _, _, rfl, rfl, ⟨by decide, by decide +kernel⟩, _, _, rfl, rfl, big_pos, _, rfl, _, rfl, _, _, rfl, rfl, ⟨by decide, by decide, by decide⟩, _, _, rfl, rfl, .inr ⟨_, rfl, _, _, rfl, rfl, .inr (bit_in _), ?_⟩⟩
      refine ⟨_, rfl, _, rfl, _, _, rfl, rfl, (show (0 : Int) < 2305843009213693951 by decide), _, _, rfl, rfl, .inr ⟨by decide, by decide⟩, _, rfl, _, _, rfl, rfl, .inl ⟨by decide, by decide⟩, _, rfl, _, _, rfl, rfl, .inr ⟨by omega, by omega⟩, _, _, rfl, rfl, _, _, rfl, rfl, _, _, rfl, rfl, (show (0 : Int) < 2305843009213693921 by decide), ?_⟩
      refine ⟨by show 3 ≤ sizeLine; decide, fun p np => ?_⟩
      refine q _ p (same_new np) np ⟨_, _, 0, upd_same, own_ok _ _, ⟨Int.emod_nonneg _ (by decide), Int.lt_trans (Int.emod_lt_of_pos _ (by decide)) (by decide)⟩, Int.le_refl _, Int.le_refl _⟩
    · refine ⟨_, rfl, _, _, rfl, rfl, ?_⟩
      refine ⟨_, rfl, _, rfl, _, _, rfl, rfl, ⟨by decide, by decide, by decide⟩, _, _, rfl, rfl, ⟨by decide, by decide +kernel⟩, _, _, rfl, rfl, big_pos, _, rfl, _, rfl, _, _, rfl, rfl, ⟨by decide, by decide, by decide⟩, _, _, rfl, rfl, .inr ⟨_, rfl, _, _, rfl, rfl, .inr (bit_in _), ?_⟩⟩
      refine ⟨_, rfl, _, rfl, _, _, rfl, rfl, (show (0 : Int) < 2305843009213693951 by decide), _, _, rfl, rfl, .inr ⟨by decide, by decide⟩, _, rfl, _, _, rfl, rfl, .inl ⟨by decide, by decide⟩, _, rfl, _, _, rfl, rfl, .inr ⟨by omega, by omega⟩, _, _, rfl, rfl, _, _, rfl, rfl, _, _, rfl, rfl, (show (0 : Int) < 2305843009213693921 by decide), ?_⟩
      refine ⟨by show 3 ≤ sizeLine; decide, fun p np => ?_⟩
      refine q _ p (same_new np) np ⟨_, _, 0, upd_same, own_ok _ _, ⟨Int.emod_nonneg _ (by decide), Int.lt_trans (Int.emod_lt_of_pos _ (by decide)) (by decide)⟩, Int.le_refl _, Int.le_refl _⟩
theorem ok_take (T : Txt K mg) {j : Nat} : FnOk P w K mg base CX0 (j + 1) T.fTake T.fdTake ["_law_pot_here", "_law_upto"] spTake := by
  refine T.FTake.ok scTake (fun vs H Q E h => ?_) (fun cdv A outer s H vs Q E hr h => ?_)
  · obtain ⟨p, m, u, rfl, _⟩ := h
    rfl
  · obtain ⟨p, m, u, rfl, ⟨a, b, c, hp, ha, hb, hc0, hcm⟩, hm, hu1, hu2, q⟩ := h
    refine ⟨_, pss_cons (ps_if (pt_cmpR op_gt (pe_ix ix_list (pv 0) pe_int (fun _ _ => rfl)) pe_int (nomark _))
        (pss_cons (ps_set (i := 2) scTake.nd rfl (.inl rfl) (pe_op op_mod (pe_ix ix_list (pv 0) pe_int (fun _ _ => rfl)) (pv 1)))
        (pss_cons (ps_asg (pe_op op_fdivW (pe_ix ix_list (pv 0) pe_int (fun _ _ => rfl)) (pv 1)) (pg_sub (pv 0) pe_int set_list))
        (pss_one (ps_ret (pv 2))))) pss_nil)
      (pss_cons (ps_asg (pe_op op_add (pe_ix ix_list (pv 0) pe_int (fun _ _ => rfl)) pe_int) (pg_sub (pv 0) pe_int set_list))
      (pss_cons (ps_set (i := 3) scTake.nd rfl (.inl rfl) (pe_ix ix_list (pe_lst (pa_cons pe_int (pa_cons pe_int (pa_cons pe_int (pa_cons pe_int (pa_cons pe_int pa_nil)))))) (pe_op op_mod (pe_ix ix_list (pv 0) pe_int (fun _ _ => rfl)) pe_int) (fun _ _ => rfl)))
      (pss_cons (ps_set (i := 4) scTake.nd rfl (.inl rfl) (pe_op op_mod (pe_op op_pow (pe_op op_add (pe_ix ix_list (pv 0) pe_int (fun _ _ => rfl)) (pe_op op_mul pe_int (pe_ix ix_list (pv 0) pe_int (fun _ _ => rfl)))) pe_int) (pv 3)))
      (pss_one (ps_ret (pe_op op_mod (pe_op op_fdiv (pe_op op_mod (pe_op op_mul (pv 4) (pe_op op_add (pe_op op_mod (pv 4) pe_int) (pe_ix ix_list (pv 0) pe_int (fun _ _ => rfl)))) (pv 3)) pe_int) (pv 1))))))), ?_⟩
    refine ⟨.ref p, rfl, p, _, _, _, rfl, rfl, SqL.of hp, rfl, _, _, rfl, rfl, _, rfl, ite2 (fun h1 => ?_) (fun h1 => ?_)⟩
    · have h0 : 0 < a := of_decide_eq_true h1
      refine ⟨.ref p, rfl, p, _, _, _, rfl, rfl, SqL.of hp, rfl, _, rfl, _, _, rfl, rfl, by omega, ?_⟩
      refine ⟨.ref p, rfl, p, _, _, _, rfl, rfl, SqL.of hp, rfl, _, rfl, _, _, rfl, rfl, wide_div (b := 1000) (by omega) (by omega) (by decide) (by decide), ?_⟩
      refine ⟨.ref p, rfl, p, _, _, 0, rfl, rfl, hp, rfl, ?_⟩
      refine ⟨_, rfl, q _ _ (Int.emod_nonneg _ (by omega)) (Int.emod_lt_of_pos _ (by omega)) ⟨a / u, b, c, upd_same, ?_, hb, hc0, by omega⟩ (But.refl p H).upd⟩
      have h3 : a / u ≤ a := Int.ediv_le_self _ (by omega)
      exact ⟨Int.ediv_nonneg (by omega) (by omega), by omega⟩
    · refine ⟨.ref p, rfl, p, _, _, _, rfl, rfl, SqL.of hp, rfl, _, _, rfl, rfl, .ref p, rfl, p, _, _, 2, rfl, rfl, hp, rfl, ?_⟩
      have hp2 : (upd H p (.lst [V.int a, V.int b, V.int (c + 1)])) p = some (.lst [V.int a, V.int b, V.int (c + 1)]) := upd_same
      obtain ⟨v, ev, v0, v32⟩ := prime_at ((c + 1) % 5) (Int.emod_nonneg _ (by decide)) (Int.emod_lt_of_pos _ (by decide))
      refine ⟨by decide, fun l nl => ?_⟩
      have npl : p ≠ l := ne_of_none hp2 nl
      have hp3 : (upd (upd H p (.lst [V.int a, V.int b, V.int (c + 1)])) l (.lst [V.int 2147483647, V.int 2147483629, V.int 2147483587, V.int 2147483579, V.int 2147483563])) p = some (.lst [V.int a, V.int b, V.int (c + 1)]) := by
        rw [upd_ne npl]
        exact hp2
      refine ⟨.ref p, rfl, p, _, _, _, rfl, rfl, SqL.of hp3, rfl, _, _, rfl, rfl, (show (0 : Int) < 5 by decide), l, _, _, _, rfl, rfl, SqL.of upd_same, ev, ?_⟩
      refine ⟨.ref p, rfl, p, _, _, _, rfl, rfl, SqL.of hp3, rfl, .ref p, rfl, p, _, _, _, rfl, rfl, SqL.of hp3, rfl, _, _, rfl, rfl, .inl ⟨by decide, by decide⟩, _, _, rfl, rfl, _, _, rfl, rfl, ⟨by decide, by decide, ?_⟩, _, rfl, _, _, rfl, rfl, v0, ?_⟩
      · have : (b + 7919 * (c + 1)).natAbs < 2 ^ 64 := by omega
        exact this
      · refine ⟨_, rfl, _, rfl, _, _, rfl, rfl, (show (0 : Int) < 1013 by decide), .ref p, rfl, p, _, _, _, rfl, rfl, SqL.of hp3, rfl, _, _, rfl, rfl, _, _, rfl, rfl, .inl ?_, _, rfl, _, _, rfl, rfl, v0, _, _, rfl, rfl, ⟨by decide, by decide⟩, _, rfl, _, _, rfl, rfl, by omega, ?_⟩
        · have h3 := Int.emod_nonneg ((b + 7919 * (c + 1)) ^ (3 : Int).toNat) (show v ≠ 0 by omega)
          have h4 := Int.emod_lt_of_pos ((b + 7919 * (c + 1)) ^ (3 : Int).toNat) v0
          exact ⟨by omega, by omega⟩
        · refine q _ _ (Int.emod_nonneg _ (by omega)) (Int.emod_lt_of_pos _ (by omega)) ⟨a, b, c + 1, hp3, ha, hb, by omega, by omega⟩ ?_
          exact (But.refl p H).upd.same (same_new nl)
end
/-! ### one of some -/
def spOf : Sp := fun vs H Q _ => ∃ (p : Addr) (m : Nat) (l : Addr) (xs : List V), vs = [.ref p, .ref l] ∧ PotAt H p m ∧ m ≤ 1000000 ∧ H l = some (.lst xs) ∧ l ≠ p ∧ 1 ≤ xs.length ∧ xs.length ≤ 1000 ∧
  ∀ (v : V) (H' : Hp), v ∈ xs → PotAt H' p (m + 1) → But p H H' → Q v H'
theorem pick_at {xs : List V} {r : Int} (h0 : 0 ≤ r) (hl : r < (xs.length : Int)) : ∃ v, v ∈ xs ∧ atI xs r = some v := by
  obtain ⟨k, rfl⟩ := Int.eq_ofNat_of_zero_le h0
  have hk : k < xs.length := by omega
  exact ⟨xs[k], List.getElem_mem hk, atI_nat (List.getElem?_eq_getElem hk)⟩
section
variable {P : Program} {w : World} {K : PySem.W.Frag} {mg : Str → Option Value} {base : Heap}
theorem ok_of (T : Txt K mg) {j : Nat} : FnOk P w K mg base CX0 (j + 2) T.fOf T.fdOf ["_law_pot_here", "_law_some"] spOf := by
  refine T.FOf.ok scOf (fun vs H Q E h => ?_) (fun cdv A outer s H vs Q E hr h => ?_)
  · obtain ⟨p, m, l, xs, rfl, _⟩ := h
    rfl
  · obtain ⟨p, m, l, xs, rfl, P0, hm, hl, hne, h1, h2, q⟩ := h
    refine ⟨_, pss_one (ps_ret (pe_ix ix_list (pv 1) (pe_call (ok_take T) hr (by rfl) T.gTake T.FTake.kp T.bTake .nil pass0 (pa_cons (pv 0) (pa_cons (pe_callB call_len_seq (by rfl) T.n_len PySem.boot_len (pa_cons (pv 1) pa_nil)) pa_nil))) (fun _ _ => rfl))), ?_⟩
    refine ⟨.ref l, rfl, .ref p, rfl, .ref l, rfl, l, _, rfl, .inl (SqL.of hl), p, m, _, rfl, P0, hm, by omega, ?_, fun r H' r0 rl P1 B1 => ?_⟩
    · exact Int.lt_trans (show (xs.length : Int) < 1001 by omega) (by decide +kernel)
    · obtain ⟨v, hv, ev⟩ := pick_at r0 rl
      exact ⟨l, xs, r, v, rfl, rfl, SqL.of (B1 _ _ hne hl), ev, q v H' hv P1 B1⟩
end
/-! ### the law's rows: Pascal's triangle as lists -/
def rowV (i : Nat) : List V := (List.range 61).map fun j => V.int (C i j)
theorem rowV_at (i : Nat) {j : Nat} (h : j < 61) : (rowV i)[j]? = some (V.int (C i j)) := by
  unfold rowV
  rw [List.getElem?_map, List.getElem?_range h]
  rfl
theorem rowV_zero : rowV 0 = [V.int 1] ++ (List.replicate (60 : Int).toNat [V.int 0]).flatten := by decide +kernel
theorem rowV_succ (i : Nat) : rowV (i + 1) = [V.int 1] ++ (List.range 60).map fun j => V.int (C (i + 1) (j + 1)) := by
  unfold rowV
  rw [List.range_succ_eq_map, List.map_cons, List.map_map, C_zero]
  rfl
theorem rowV_ne (i : Nat) (rs : List Addr) (h : rowV i = rs.map V.ref) : False := by
  have h1 := rowV_at i (show 0 < 61 by decide)
  rw [h, List.getElem?_map] at h1
  cases e : rs[0]? with
  | none =>
    rw [e] at h1
    cases h1
  | some r =>
    rw [e] at h1
    cases h1
structure RowsAt (H : Hp) (p : Addr) (rs : List Addr) : Prop where
  at_p : H p = some (.lst (rs.map V.ref))
  row : ∀ i r, rs[i]? = some r → H r = some (.lst (rowV i))
def spRows : Sp := fun vs H Q _ => vs = [] ∧ ∀ H' p rs, Same H H' → H p = none → rs.length = 61 → RowsAt H' p rs → Q (.ref p) H'
theorem map_last {rs : List Addr} {k : Nat} (h : rs.length = k + 1) : ∃ r, rs[k]? = some r ∧ atI (rs.map V.ref) (-1) = some (.ref r) := by
  have h1 : rs ≠ [] := fun z => by
    rw [z] at h
    cases h
  refine ⟨rs.getLast h1, ?_, ?_⟩
  · have e : rs.length - 1 = k := by omega
    rw [List.getLast_eq_getElem h1, ← List.getElem?_eq_getElem]
    rw [e]
  · have hz : rs.map V.ref = rs.dropLast.map V.ref ++ [V.ref (rs.getLast h1)] := by
      rw [← List.map_singleton, ← List.map_append, List.dropLast_concat_getLast]
    rw [hz]
    exact atI_last _ _
def WRows (H : Hp) (p : Addr) (m : Nat) (σ : L2.St) (H' : Hp) : Prop := ∃ rs v, σ = [some (.ref p), v, none] ∧ Same H H' ∧ m + rs.length = 61 ∧ 1 ≤ rs.length ∧ RowsAt H' p rs
section
variable {P : Program} {w : World} {K : PySem.W.Frag} {mg : Str → Option Value} {base : Heap}
theorem ok_rows (T : Txt K mg) {j : Nat} : FnOk P w K mg base CX0 (j + 1) T.fRows T.fdRows [] spRows := by
  refine T.FRows.ok scRows (fun vs H Q E h => ?_) (fun cdv A outer s H vs Q E hr h => ?_)
  · obtain ⟨rfl, _⟩ := h
    rfl
  · obtain ⟨rfl, q⟩ := h
    refine ⟨_, pss_cons (ps_set (i := 0) scRows.nd rfl (.inl rfl) (pe_lst (pa_cons (pe_op op_cat (pe_lst (pa_cons pe_int pa_nil)) (pe_op op_rep (pe_lst (pa_cons pe_int pa_nil)) pe_int)) pa_nil)))
      (pss_cons (ps_while PassesOwn.never (pt_cmpR op_lt (pe_callB call_len_seq (by rfl) T.n_len PySem.boot_len (pa_cons (pv 0) pa_nil)) pe_int (nomark _))
        (pss_cons (ps_set (i := 1) scRows.nd rfl (.inr rfl) (pe_ix ix_list (pv 0) (pe_un un_neg pe_int) (fun _ _ => rfl)))
        (pss_one (ps_expr (pe_bm PySem.F.plainAttrs_list PySem.F.slot_list_append PySem.F.type_list_append mt_append (pv 0) (pa_cons (pe_op op_cat (pe_lst (pa_cons pe_int pa_nil))
          (pe_lc (own := [("_law_at", 2)]) (g := gName 2) (tt := tYes) rfl scRows.nd (pi_range2 (by rfl) T.n_range (pa_cons pe_int (pa_cons pe_int pa_nil)))
            (blkOk_by (own := [("_law_at", 2)]) (N := ["_law_rows_here", "_law_last", "_law_at"]) (sc := defScope sRows) (by decide +kernel))
            (fun _ _ _ _ _ => pg_name (i := 2) scRows.nd rfl (Or.inl rfl)) (fun _ _ _ _ _ => pts_nil)
            (fun _ _ _ _ _ => pe_op op_add (pe_ix (r := rIxL K) ix_list (pv 1) (pv 2) (fun _ _ => rfl)) (pe_ix (r := rIxL K) ix_list (pv 1) (pe_op op_sub (pv 2) pe_int) (fun _ _ => rfl))))) pa_nil))))))
      (pss_one (ps_ret (pv 0)))), ?_⟩
    -- the first row
    refine ⟨by decide, fun p1 n1 => ⟨by decide, fun p2 n2 => ⟨p2, 60, _, rfl, rfl, upd_same, by decide, by decide, by decide, fun p3 n3 => ⟨p1, p3, [V.int 1], _, rfl, rfl, ?_, upd_same, by decide, fun p4 n4 => ⟨(by show 1 ≤ sizeLine; decide), fun p5 n5 => ?_⟩⟩⟩⟩⟩
    · rw [upd_ne (ne_of_none (by rw [upd_ne (ne_of_none upd_same n2)]; exact upd_same) n3), upd_ne (ne_of_none upd_same n2)]
      exact upd_same
    · have s1 := same_new (o := .lst [V.int 1]) n1
      have s2 := s1.trans (same_new (o := .lst [V.int 0]) n2)
      have s3 := s2.trans (same_new (o := .lst (List.replicate (60 : Int).toNat [V.int 0]).flatten) n3)
      have s4 := s3.trans (same_new (o := .lst ([V.int 1] ++ (List.replicate (60 : Int).toNat [V.int 0]).flatten)) n4)
      have f5 := s4.free n5
      refine ⟨WRows H p5, ⟨60, [p4], none, rfl, s4.trans (same_new n5), rfl, Nat.le_refl _, upd_same, ?_⟩, fun m σ H6 hW => ?_⟩
      · intro i r e
        cases i with
        | succ i => cases e
        | zero =>
          obtain rfl : p4 = r := Option.some.inj e
          rw [upd_ne (ne_of_none upd_same n5), rowV_zero]
          exact upd_same
      · obtain ⟨rs, v, rfl, s6, hm, h1, R⟩ := hW
        refine ⟨_, rfl, p5, _, rfl, .inl (SqL.of R.at_p), _, _, rfl, rfl, _, rfl, ite2 (fun hb => ?_) (fun hb => ?_)⟩
        · have hlt : rs.length < 61 := by
            have := of_decide_eq_true hb
            rw [List.length_map] at this
            omega
          refine ⟨WRows H p5 (m - 1), fun σ' H' h => ⟨m - 1, by omega, h⟩, ?_⟩
          obtain ⟨k, hk⟩ : ∃ k, rs.length = k + 1 := ⟨rs.length - 1, by omega⟩
          obtain ⟨r, er, el⟩ := map_last hk
          have hrow := R.row k r er
          -- last = rows[-1]
          refine ⟨.ref p5, rfl, 1, rfl, p5, _, -1, _, rfl, rfl, SqL.of R.at_p, el, ?_⟩
          -- rows.append([1] + [..])
          refine ⟨.ref p5, rfl, .inl ⟨rfl, _, SqL.of R.at_p⟩, by decide, fun q1 m1 => ?_⟩
          have t1 := same_new (o := .lst [V.int 1]) m1
          refine ⟨1, 61, rfl, ⟨by decide, by decide, by decide, by decide⟩, fun D nD => ?_⟩
          refine lc_range (lo := 1) (n := 60) (fun i H7 => Same (upd H6 q1 (.lst [V.int 1])) H7 ∧ H7 D = some (.lst ((List.range i).map fun j => V.int (C (k + 1) (j + 1))))) ⟨same_new nD, upd_same⟩ ?_ ?_
          · rintro i H7 hi ⟨s7, hD⟩
            have hr7 := s7 _ _ (t1 _ _ hrow)
            have e1 : (1 + (i : Int)) = ((i + 1 : Nat) : Int) := by omega
            have a1 : atI (rowV k) (1 + (i : Int)) = some (V.int (C k (i + 1))) := by
              rw [e1]
              exact atI_nat (rowV_at k (by omega))
            have a2 : atI (rowV k) (1 + (i : Int) - 1) = some (V.int (C k i)) := by
              rw [show (1 + (i : Int) - 1) = (i : Int) by omega]
              exact atI_nat (rowV_at k (by omega))
            refine ⟨rfl, .ref r, rfl, _, rfl, r, _, _, _, rfl, rfl, SqL.of hr7, a1, .ref r, rfl, _, rfl, _, _, rfl, rfl, r, _, _, _, rfl, rfl, SqL.of hr7, a2, _, _, rfl, rfl, _, hD, ?_, keep_upd s7 nD, ?_⟩
            · rw [List.length_map, List.length_range]
              exact small1000 (by omega)
            · rw [upd_same, List.range_succ, List.map_append]
              show some (HO.lst (_ ++ [V.int ((C k (i + 1) : Int) + (C k i : Int))])) = some (HO.lst (_ ++ [V.int ((C k i + C k (i + 1) : Nat) : Int)]))
              rw [Int.natCast_add, Int.add_comm]
          · rintro H7 ⟨s7, hD⟩
            refine ⟨q1, D, _, _, rfl, rfl, s7 _ _ upd_same, hD, by rw [List.length_map, List.length_range]; decide, fun p7 n7 => ?_⟩
            have t7 := t1.trans (s7.trans (same_new (o := .lst ([V.int 1] ++ (List.range 60).map fun j => V.int (C (k + 1) (j + 1)))) n7))
            refine ⟨p5, _, _, rfl, rfl, t7 _ _ R.at_p, ?_, ?_⟩
            · rw [List.length_map]
              exact small1000 (by omega)
            · have n75 : p7 ≠ p5 := fun z => by
                rw [z, s7 _ _ (t1 _ _ R.at_p)] at n7
                cases n7
              refine ⟨rs ++ [p7], some (.ref r), rfl, keep_upd (s6.trans t7) f5, by rw [List.length_append]; show m - 1 + (rs.length + 1) = 61; omega, by rw [List.length_append]; omega, ?_, ?_⟩
              · rw [upd_same, List.map_append]
                rfl
              · intro i x e
                by_cases hi : i < rs.length
                · rw [List.getElem?_append_left hi] at e
                  have hx := R.row i x e
                  have nx : x ≠ p5 := fun z => by
                    have h9 := R.at_p
                    rw [← z, hx] at h9
                    injection h9 with h9
                    injection h9 with h9
                    exact rowV_ne i rs h9
                  rw [upd_ne nx]
                  exact t7 _ _ hx
                · have ei : i = rs.length := by
                    have := (List.getElem?_eq_some_iff.mp e).1
                    rw [List.length_append] at this
                    have h2 : i < rs.length + 1 := this
                    omega
                  subst ei
                  rw [List.getElem?_concat_length] at e
                  obtain rfl := Option.some.inj e
                  rw [upd_ne n75, hk, rowV_succ]
                  exact upd_same
        · have hge : rs.length = 61 := by
            have h9 : ¬ ((rs.map V.ref).length : Int) < 61 := fun z => hb (decide_eq_true z)
            rw [List.length_map] at h9
            omega
          exact ⟨_, rfl, q _ _ rs s6 f5 hge R⟩
end
/-! ### the law's own sets of a size, in their order -/
/-- tuples of servers, one after the other -/
def Tups (K : PySem.W.Frag) (H : Hp) : List V → List (List Nat) → Prop := PySem.Paired fun v ms => ∃ t, v = .ref t ∧ SqT K H t (setV ms)
theorem Tups.same {K : PySem.W.Frag} {H H' : Hp} (e : Same H H') {ts : List V} {L : List (List Nat)} (h : Tups K H ts L) : Tups K H' ts L :=
  PySem.Paired.mono (fun _ _ ⟨t, e1, e2⟩ => ⟨t, e1, Same.seqT e e2⟩) h
theorem Tups.updL {K : PySem.W.Frag} {H : Hp} {D : Addr} {ys zs ts : List V} {L : List (List Nat)} (h : Tups K H ts L) (hD : H D = some (.lst ys)) : Tups K (upd H D (.lst zs)) ts L :=
  PySem.Paired.mono (fun _ _ ⟨t, e1, e2⟩ => ⟨t, e1, SqT_updL e2 hD⟩) h
theorem Tups.append {K : PySem.W.Frag} {H : Hp} {ts us : List V} {L M : List (List Nat)} (h : Tups K H ts L) (g : Tups K H us M) : Tups K H (ts ++ us) (L ++ M) := by
  induction h with
  | nil => exact g
  | cons a _ ih => exact .cons a ih
theorem Tups.at {K : PySem.W.Frag} {H : Hp} {ts : List V} {L : List (List Nat)} (h : Tups K H ts L) {i : Nat} {x : V} (hx : ts[i]? = some x) : ∃ ms t, L[i]? = some ms ∧ x = .ref t ∧ SqT K H t (setV ms) := by
  induction h generalizing i with
  | nil => cases hx
  | @cons a b l1 l2 r _ ih =>
    cases i with
    | zero =>
      obtain rfl : a = x := Option.some.inj hx
      obtain ⟨t, e1, e2⟩ := r
      exact ⟨b, t, rfl, e1, e2⟩
    | succ i => exact ih hx
theorem paired_perm {α β : Type} {R : α → β → Prop} {xs ys : List α} (h : ys.Perm xs) : ∀ {L : List β}, PySem.Paired R xs L → ∃ L' : List β, L'.Perm L ∧ PySem.Paired R ys L' := by
  induction h with
  | nil => exact fun p => ⟨_, List.Perm.refl _, p⟩
  | cons x _ ih =>
    intro L p
    cases p with
    | cons r p =>
      obtain ⟨L', h1, h2⟩ := ih p
      exact ⟨_ :: L', h1.cons _, .cons r h2⟩
  | swap x y l =>
    intro L p
    cases p with
    | cons r p =>
      cases p with
      | cons r2 p => exact ⟨_, List.Perm.swap _ _ _, .cons r2 (.cons r p)⟩
  | trans _ _ ih1 ih2 =>
    intro L p
    obtain ⟨L1, h1, p1⟩ := ih2 p
    obtain ⟨L2, h2, p2⟩ := ih1 p1
    exact ⟨L2, h2.trans h1, p2⟩
theorem paired_pairwise {α β : Type} {R : α → β → Prop} {S : α → α → Prop} {S' : β → β → Prop} (hS : ∀ x y a b, R x a → R y b → S x y → S' a b) {xs : List α} {L : List β} (h : PySem.Paired R xs L) (hp : xs.Pairwise S) : L.Pairwise S' := by
  induction h with
  | nil => exact List.Pairwise.nil
  | @cons x a l1 l2 r t ih =>
    obtain ⟨h1, h2⟩ := List.pairwise_cons.mp hp
    refine List.Pairwise.cons (fun b hb => ?_) (ih h2)
    have key : ∀ {l1 : List α} {l2 : List β}, PySem.Paired R l1 l2 → ∀ b ∈ l2, ∃ y ∈ l1, R y b := by
      intro l1 l2 q
      induction q with
      | nil => exact fun b hb => absurd hb List.not_mem_nil
      | cons r _ ih =>
        intro b hb
        rcases List.mem_cons.mp hb with rfl | hb
        · exact ⟨_, List.mem_cons_self, r⟩
        · obtain ⟨y, hy, z⟩ := ih b hb
          exact ⟨y, List.mem_cons_of_mem _ hy, z⟩
    obtain ⟨y, hy, z⟩ := key t b hb
    exact hS _ _ _ _ r z (h1 y hy)
theorem code_nat (ms : List Nat) : TS.code 8 (ms.map fun (m : Nat) => (m : Int)) = (codeN ms : Int) := by
  induction ms with
  | nil => rfl
  | cons d r ih =>
    show (d : Int) * 8 ^ (r.map fun (m : Nat) => (m : Int)).length + TS.code 8 (r.map fun (m : Nat) => (m : Int)) = ((d * 8 ^ r.length + codeN r : Nat) : Int)
    rw [ih, List.length_map, Int.natCast_add, Int.natCast_mul, Int.natCast_pow]
    rfl
theorem len_setV (ms : List Nat) : (setV ms).length = ms.length := List.length_map _
def spAll (K : PySem.W.Frag) : Sp := fun vs H Q _ => ∃ (n k : Nat), vs = [.int n, .int k] ∧ 2 ≤ n ∧ n ≤ 7 ∧ k ≤ n ∧ ∀ H' p ts, Same H H' → H p = none → H' p = some (.lst ts) → Tups K H' ts (inOrder n k) → Q (.ref p) H'
theorem pick_step {α β : Type} (p : α → Bool) (f : α → β) (L : List α) {i : Nat} {x : α} (h : L[i]? = some x) : ((L.take (i + 1)).filter p).map f = ((L.take i).filter p).map f ++ if p x = true then [f x] else [] := by
  rw [List.take_add_one, h, List.filter_append, List.map_append]
  congr 1
  show (List.filter p [x]).map f = _
  by_cases c : p x = true
  · rw [List.filter_cons_of_pos c, if_pos c]
    rfl
  · rw [List.filter_cons_of_neg c, if_neg c]
    rfl
section
variable {P : Program} {w : World} {K : PySem.W.Frag} {mg : Str → Option Value} {base : Heap}
theorem ok_all (T : Txt K mg) {j : Nat} : FnOk P w K mg base CX0 (j + 1) T.fAll T.fdAll ["_law_wide", "_law_few"] (spAll K) := by
  refine T.FAll.ok scAll (fun vs H Q E h => ?_) (fun cdv A outer s H vs Q E hr h => ?_)
  · obtain ⟨n, k, rfl, _⟩ := h
    rfl
  · obtain ⟨n, k, rfl, h2, h7, hk, q⟩ := h
    refine ⟨_, pss_cons (ps_set (i := 2) scAll.nd rfl (.inl rfl) (pe_lst (pa_cons (pe_tup pa_nil) pa_nil))) (pss_cons (ps_for PassesOwn.never rfl (pi_range1 (by rfl) T.n_range (pa_cons (pv 0) pa_nil)) (pg_name (i := 3) scAll.nd rfl (.inr rfl)) (pss_one (ps_set (i := 2) scAll.nd rfl (.inl rfl) (pe_op op_cat (pv 2) (pe_lc (own := [("_law_some", 4)]) (g := gName 4) rfl scAll.nd (pi_list (pv 2)) (blkOk_by (own := [("_law_some", 4)]) (N := NAll) (sc := defScope sAll) (by decide +kernel)) (fun _ _ _ _ _ => (pg_name (i := 4) scAll.nd rfl (.inl rfl))) (fun _ _ _ _ _ => pts_one (pt_cmpR op_lt (pe_callB (call_lenK K) (by rfl) T.n_len PySem.boot_len (pa_cons (pv 4) pa_nil)) (pv 1) (nomark _))) (fun _ _ _ _ _ => (pe_op (op_catS K) (pv 4) (pe_tup (pa_cons (pv 3) pa_nil))))))))) (pss_one (ps_ret (pe_callB (cr_sortA (B := 8)) (by rfl) T.n_sorted (by decide +kernel) (pa_cons (pe_lc (own := [("_law_some", 4)]) (g := gName 4) rfl scAll.nd (pi_list (pv 2)) (blkOk_by (own := [("_law_some", 4)]) (N := NAll) (sc := defScope sAll) (by decide +kernel)) (fun _ _ _ _ _ => (pg_name (i := 4) scAll.nd rfl (.inl rfl))) (fun _ _ _ _ _ => pts_one (pt_cmpR op_eq (pe_callB (call_lenK K) (by rfl) T.n_len PySem.boot_len (pa_cons (pv 4) pa_nil)) (pv 1) (nomark _))) (fun _ _ _ _ _ => (pv 4))) pa_nil))))), ?_⟩
    -- found = [()]
    refine ⟨Nat.zero_le _, fun t0 m0 => ⟨(by show 1 ≤ sizeLine; decide), fun p0 n0 => ?_⟩⟩
    have s0 := (same_new (o := .tup []) m0).trans (same_new (o := .lst [V.ref t0]) n0)
    refine ⟨_, rfl, (n : Int), rfl, by omega, by omega, ?_⟩
    refine for_range (lo := 0) (n := (n : Int).toNat) (fun i σ H2 => ∃ (p : Addr) (ts : List V) (v3 : Option V), σ = [some (.int n), some (.int k), some (.ref p), v3, none] ∧ Same H H2 ∧ H p = none ∧ H2 p = some (.lst ts) ∧ Tups K H2 ts (allG k i))
      ⟨p0, [V.ref t0], none, rfl, s0, (same_new (o := .tup []) m0).free n0, upd_same, .cons ⟨t0, rfl, SqT.of (by rw [upd_ne (ne_of_none upd_same n0)]; exact upd_same)⟩ .nil⟩ ?_ ?_
    · rintro i σ H2 hi ⟨p, ts, v3, rfl, s2, np, hp, ht⟩
      obtain ⟨g1, g2⟩ := gen_lens' (t := i) h2 h7 hk (by omega)
      have lts : ts.length = (allG k i).length := PySem.Paired.length ht
      rw [Int.zero_add]
      refine ⟨.ref p, rfl, .ref p, rfl, p, rfl, ⟨ts, SqL.of hp⟩, fun D nD => ?_⟩
      refine lc_list (a := p) (xs := ts) (fun i2 H7 => Same H2 H7 ∧ ∃ acc, H7 D = some (.lst acc) ∧ Tups K H7 acc ((((allG k i).take i2).filter fun s => decide (s.length < k)).map fun s => s ++ [i])) ⟨same_new nD, [], upd_same, .nil⟩ (fun _ H7 _ h7 => SqL.of (h7.1 _ _ hp)) ?_ ?_
      · rintro i2 x H7 hx ⟨s7, acc, hD, ta⟩
        obtain ⟨ms, t, e1, rfl, ht2⟩ := (ht.same s7).at hx
        have hl : acc.length ≤ 200 := by
          have h9 := PySem.Paired.length ta
          rw [List.length_map] at h9
          have h10 := List.length_filter_le (fun s => decide (s.length < k)) ((allG k i).take i2)
          have h11 : ((allG k i).take i2).length ≤ (allG k i).length := by
            rw [List.length_take]
            omega
          omega
        have hms := g2 ms (List.mem_of_getElem? e1)
        have e3 := pick_step (fun s : List Nat => decide (s.length < k)) (fun s => s ++ [i]) _ e1
        refine ⟨rfl, _, rfl, t, _, rfl, .inr ht2, _, rfl, _, _, rfl, rfl, _, rfl, ite2 (fun hb => ?_) (fun hb => ?_)⟩
        · have hlt : ms.length < k := by
            have h9 : ((setV ms).length : Int) < (k : Int) := of_decide_eq_true hb
            rw [len_setV] at h9
            omega
          rw [if_pos (decide_eq_true hlt)] at e3
          refine ⟨.ref t, rfl, _, rfl, (by show 1 ≤ sizeLine; decide), fun t1 m1 => ?_⟩
          refine ⟨t, t1, _, _, rfl, rfl, Same.seqT (same_new m1) ht2, SqT.of upd_same, ?_, fun t2 H8 s8 hT2 => ?_⟩
          · rw [len_setV]
            exact small1000 (show ms.length ≤ 1000 by omega)
          · have s78 := (same_new (o := .tup [V.int (i : Int)]) m1).trans s8
            refine ⟨acc, s78 _ _ hD, small1000 (by omega), keep_upd (s7.trans s78) nD, _, upd_same, ?_⟩
            rw [e3]
            refine ((ta.same s78).updL (s78 _ _ hD)).append (.cons ⟨t2, rfl, ?_⟩ .nil)
            rw [setV_app]
            exact SqT_updL hT2 (s78 _ _ hD)
        · have hlt : ¬ ms.length < k := fun z => hb (decide_eq_true (by rw [len_setV]; omega))
          rw [if_neg (fun z => hlt (of_decide_eq_true z)), List.append_nil] at e3
          refine ⟨s7, acc, hD, ?_⟩
          rw [e3]
          exact ta
      · rintro H7 ⟨s7, acc, hD, ta⟩
        rw [lts, List.take_length] at ta
        have hl := PySem.Paired.length ta
        rw [List.length_map] at hl
        have h10 := List.length_filter_le (fun s => decide (s.length < k)) (allG k i)
        refine ⟨p, D, ts, acc, rfl, rfl, s7 _ _ hp, hD, Nat.le_of_lt (small1000 (show ts.length + acc.length ≤ 1000 by omega)), fun p2 n2 => ?_⟩
        exact ⟨p2, _, some (V.int (i : Int)), rfl, (s2.trans s7).trans (same_new n2), (s2.trans s7).free n2, upd_same, ((ht.same s7).append ta).same (same_new n2)⟩
    · rintro σ H2 ⟨p, ts, v3, rfl, s2, np, hp, ht⟩
      rw [Int.toNat_natCast] at ht
      obtain ⟨g1, g2⟩ := gen_lens' (t := n) h2 h7 hk (Nat.le_refl _)
      obtain ⟨a1, a2, a3, a4⟩ := small_sets' h2 h7 hk
      have lts : ts.length = (allG k n).length := PySem.Paired.length ht
      refine ⟨.ref p, rfl, p, rfl, ⟨ts, SqL.of hp⟩, fun D nD => ?_⟩
      refine lc_list (a := p) (xs := ts) (fun i2 H7 => Same H2 H7 ∧ ∃ acc, H7 D = some (.lst acc) ∧ Tups K H7 acc ((((allG k n).take i2).filter fun s => decide (s.length = k)).map id)) ⟨same_new nD, [], upd_same, .nil⟩ (fun _ H7 _ h7 => SqL.of (h7.1 _ _ hp)) ?_ ?_
      · rintro i2 x H7 hx ⟨s7, acc, hD, ta⟩
        obtain ⟨ms, t, e1, rfl, ht2⟩ := (ht.same s7).at hx
        have hl : acc.length ≤ 200 := by
          have h9 := PySem.Paired.length ta
          rw [List.length_map] at h9
          have h10 := List.length_filter_le (fun s => decide (s.length = k)) ((allG k n).take i2)
          have h11 : ((allG k n).take i2).length ≤ (allG k n).length := by
            rw [List.length_take]
            omega
          omega
        have e3 := pick_step (fun s : List Nat => decide (s.length = k)) id _ e1
        refine ⟨rfl, _, rfl, t, _, rfl, .inr ht2, _, rfl, rfl, _, rfl, ite2 (fun hb => ?_) (fun hb => ?_)⟩
        · have hlt : ms.length = k := by
            have h9 := V.int.inj (of_decide_eq_true hb)
            rw [len_setV] at h9
            omega
          rw [if_pos (decide_eq_true hlt)] at e3
          refine ⟨.ref t, rfl, acc, hD, small1000 (by omega), keep_upd s7 nD, _, upd_same, ?_⟩
          rw [e3]
          exact (ta.updL hD).append (.cons ⟨t, rfl, SqT_updL ht2 hD⟩ .nil)
        · have hlt : ¬ ms.length = k := fun z => hb (decide_eq_true (by rw [len_setV, z]))
          rw [if_neg (fun z => hlt (of_decide_eq_true z)), List.append_nil] at e3
          refine ⟨s7, acc, hD, ?_⟩
          rw [e3]
          exact ta
      · rintro H7 ⟨s7, acc, hD, ta⟩
        rw [lts, List.take_length, List.map_id] at ta
        have ta2 : Tups K H7 acc (allS n k) := ta
        have la : acc.length = C n k := by
          rw [PySem.Paired.length ta2, a1.length_eq]
          unfold inOrder
          rw [List.length_map, List.length_range]
        have ref : ∀ x ∈ acc, ∃ ms ∈ allS n k, ∃ t, x = .ref t ∧ SqT K H7 t (setV ms) := fun x hx => by
          obtain ⟨i, hi⟩ := List.getElem?_of_mem hx
          obtain ⟨ms, t, e1, e2, e3⟩ := ta2.at hi
          exact ⟨ms, List.mem_of_getElem? e1, t, e2, e3⟩
        have fin : ∀ (ys : List V) (L : List (List Nat)) (p2 : Addr), H7 p2 = none → Tups K H7 ys L → L = inOrder n k → Q (.ref p2) (upd H7 p2 (.lst ys)) := fun ys L p2 n2 hy e => by
          subst e
          exact q _ p2 ys ((s2.trans s7).trans (same_new n2)) ((s2.trans s7).free n2) upd_same (hy.same (same_new n2))
        by_cases hk1 : 1 ≤ k
        · refine .inl ⟨k, hk1, D, acc, rfl, SqL.of hD, by omega, fun x hx => ?_, fun ys p2 pm pw n2 => ?_⟩
          · obtain ⟨ms, hm, t, rfl, ht3⟩ := ref x hx
            refine ⟨ms.map fun (m : Nat) => (m : Int), ⟨t, rfl, by rw [← setV_ints]; exact ht3⟩, by rw [List.length_map]; exact (a4 ms hm).1, fun z hz => ?_⟩
            obtain ⟨m, hm2, rfl⟩ := List.mem_map.mp hz
            have h9 := (a4 ms hm).2 m hm2
            omega
          · obtain ⟨L', pl, ty⟩ := paired_perm pm ta2
            refine fin ys L' p2 n2 ty (order_unique a2 ?_ (pl.trans a1))
            refine paired_pairwise (fun x y a b ra rb hxy => ?_) ty pw
            obtain ⟨t1, e1, e2⟩ := ra
            obtain ⟨t2, e3, e4⟩ := rb
            have h9 := hxy _ _ ⟨t1, e1, by rw [← setV_ints]; exact e2⟩ ⟨t2, e3, by rw [← setV_ints]; exact e4⟩
            rw [code_nat, code_nat] at h9
            omega
        · obtain rfl : k = 0 := by omega
          have hC : acc.length = 1 := by
            rw [la, C_zero]
          refine .inr ⟨D, acc, rfl, SqL.of hD, by omega, fun x hx => ?_, fun p2 n2 => ?_⟩
          · obtain ⟨ms, hm, t, e, _⟩ := ref x hx
            exact ⟨t, e⟩
          · refine fin acc _ p2 n2 ta2 ?_
            have l1 : (inOrder n 0).length = 1 := by
              unfold inOrder
              rw [List.length_map, List.length_range, C_zero]
            exact perm_short a1 (by omega)
end
/-! ### the law's own number of a set: the smaller ones by Pascal's triangle -/
theorem rnk_nil : ∀ (k s : Nat), rnk s k [] = 0
  | 0, _ => rfl
  | k + 1, s => by
    show (if ([] : List Nat).head? = some s then _ else many k ([] : List Nat).length + rnk (s + 1) k []) = 0
    rw [if_neg (fun z => by cases z), rnk_nil k (s + 1)]
    rfl
theorem rnk_lower {n i m : Nat} {r : List Nat} (h : i < m) (hm : m < n) : rnk i (n - i) (m :: r) = C (n - 1 - i) r.length + rnk (i + 1) (n - (i + 1)) (m :: r) := by
  rw [rnk_step n i _ (by omega), if_neg (fun z => by have := Option.some.inj z; omega)]
  show C (n - i - 1) r.length + _ = _
  rw [show n - i - 1 = n - 1 - i by omega]
theorem rnk_here {n m : Nat} {r : List Nat} (hm : m < n) : rnk m (n - m) (m :: r) = rnk (m + 1) (n - (m + 1)) r := by
  rw [rnk_step n m _ hm, if_pos (show (m :: r).head? = some m from rfl)]
  rfl
theorem Sub.len : ∀ {k s : Nat} {ms : List Nat}, Sub s k ms → ms.length ≤ k
  | 0, s, ms, h => by
    cases ms with
    | nil => exact Nat.le_refl _
    | cons m r =>
      have := h.2 m List.mem_cons_self
      omega
  | k + 1, s, ms, h => by
    cases ms with
    | nil => exact Nat.zero_le _
    | cons m r =>
      have h1 := h.2 m List.mem_cons_self
      have h2 : Sub (s + 1) k r := ⟨(List.pairwise_cons.mp h.1).2, fun x hx => by
        have h3 := (List.pairwise_cons.mp h.1).1 x hx
        have h4 := h.2 x (List.mem_cons_of_mem _ hx)
        omega⟩
      have h5 := h2.len
      show r.length + 1 ≤ k + 1
      omega
theorem RowsAt.same {H H' : Hp} {p : Addr} {rs : List Addr} (e : Same H H') (h : RowsAt H p rs) : RowsAt H' p rs := ⟨e _ _ h.at_p, fun i r z => e _ _ (h.row i r z)⟩
def spBefore (K : PySem.W.Frag) : Sp := fun vs H Q _ => ∃ (p a : Addr) (rs : List Addr) (n : Nat) (ms : List Nat), vs = [.ref p, .int n, .ref a] ∧ RowsAt H p rs ∧ rs.length = 61 ∧ n ≤ 60 ∧ SqT K H a (setV ms) ∧ Sub 0 n ms ∧
  ∀ H', Same H H' → Q (.int (rnk 0 n ms : Nat)) H'
section
variable {P : Program} {w : World} {K : PySem.W.Frag} {mg : Str → Option Value} {base : Heap}
theorem ok_before (T : Txt K mg) {j : Nat} : FnOk P w K mg base CX0 (j + 1) T.fBefore T.fdBefore ["_law_rows_here", "_law_wide", "_law_some"] (spBefore K) := by
  refine T.FBefore.ok scBefore (fun vs H Q E h => ?_) (fun cdv A outer s H vs Q E hr h => ?_)
  · obtain ⟨p, a, rs, n, ms, rfl, _⟩ := h
    rfl
  · obtain ⟨p, a, rs, n, ms, rfl, R, hrs, hn, hT, hS, q⟩ := h
    refine ⟨_, pss_cons (ps_asg (pe_tup (pa_cons pe_int (pa_cons pe_int pa_nil))) (pg_tup rfl (pgs_cons (pg_name (i := 3) scBefore.nd rfl (.inl rfl)) (pgs_cons (pg_name (i := 4) scBefore.nd rfl (.inl rfl)) pgs_nil)))) (pss_cons (ps_for PassesOwn.never rfl (pi_enumT (by rfl) T.n_enumerate (pa_cons (pv 2) pa_nil)) (pg_tup rfl (pgs_cons (pg_name (i := 5) scBefore.nd rfl (.inl rfl)) (pgs_cons (pg_name (i := 6) scBefore.nd rfl (.inl rfl)) pgs_nil))) (pss_cons (ps_for PassesOwn.never rfl (pi_range2 (by rfl) T.n_range (pa_cons (pv 4) (pa_cons (pv 6) pa_nil))) (pg_name (i := 7) scBefore.nd rfl (.inl rfl)) (pss_one (ps_set (i := 3) scBefore.nd rfl (.inl rfl) (pe_op op_add (pv 3) (pe_ix (ix_listK K) (pe_ix (ix_listK K) (pv 0) (pe_op op_sub (pe_op op_sub (pv 1) pe_int) (pv 7)) (fun _ _ => rfl)) (pe_op op_sub (pe_op op_sub (pe_callB (call_lenK K) (by rfl) T.n_len PySem.boot_len (pa_cons (pv 2) pa_nil)) pe_int) (pv 5)) (fun _ _ => rfl)))))) (pss_one (ps_set (i := 4) scBefore.nd rfl (.inl rfl) (pe_op op_add (pv 6) pe_int))))) (pss_one (ps_ret (pv 3)))), ?_⟩
    have hlen := hS.len
    refine ⟨(by show 2 ≤ sizeLine; decide), fun t0 m0 => ⟨t0, _, rfl, SqT.of upd_same, rfl, _, _, rfl, _, _, rfl, rfl, ?_⟩⟩
    have s0 := same_new (o := .tup [V.int 0, V.int 0]) m0
    refine ⟨.ref a, rfl, a, _, rfl, Same.seqT s0 hT, ?_⟩
    refine for_it (walk_enumT (xs := setV ms)) (fun i σ H2 => ∃ (x st : Nat) (v5 v6 v7 : Option V), σ = [some (.ref p), some (.int n), some (.ref a), some (.int (x : Int)), some (.int (st : Int)), v5, v6, v7] ∧ Same H H2 ∧ st ≤ n ∧ (∀ m ∈ ms.drop i, st ≤ m) ∧ x + rnk st (n - st) (ms.drop i) = rnk 0 n ms)
      ⟨0, 0, none, none, none, rfl, s0, Nat.zero_le _, fun m _ => Nat.zero_le _, Nat.zero_add _⟩ (fun _ σ H2 _ h => by obtain ⟨_, _, _, _, _, _, s2, _⟩ := h; exact Same.seqT s2 hT) ?_ ?_
    · rintro i pr σ H2 H3 hi ⟨x, st, v5, v6, v7, rfl, s2, hst, hge, hx⟩ ⟨T0, y, z, rfl, nT, rfl, e1, e2⟩
      have hi2 : i < ms.length := by
        rw [len_setV] at hi
        exact hi
      obtain rfl := Option.some.inj e1
      have e2 : (setV ms)[i]? = some z := e2
      rw [setV_at (List.getElem?_eq_getElem hi2)] at e2
      obtain rfl := Option.some.inj e2
      have s3 := s2.trans (same_new (o := .tup [V.int (i : Nat), V.int (ms[i] : Int)]) nT)
      have hd : ms.drop i = ms[i] :: ms.drop (i + 1) := List.drop_eq_getElem_cons hi2
      have hm : ms[i] < n := by
        have := (hS.2 ms[i] (List.getElem_mem hi2)).2
        omega
      have hsm : st ≤ ms[i] := hge _ (by rw [hd]; exact List.mem_cons_self)
      rw [hd] at hx
      have hlr : (ms.drop (i + 1)).length = ms.length - 1 - i := by
        rw [List.length_drop]
        omega
      refine ⟨T0, _, rfl, SqT.of upd_same, rfl, _, _, rfl, _, _, rfl, rfl, ?_⟩
      refine ⟨_, rfl, _, rfl, (st : Int), (ms[i] : Int), rfl, ⟨by omega, by omega, by omega, by omega⟩, ?_⟩
      refine for_range (lo := (st : Int)) (n := ((ms[i] : Int) - (st : Int)).toNat) (fun i2 σ H4 => ∃ (x2 : Nat) (v7 : Option V), σ = [some (.ref p), some (.int n), some (.ref a), some (.int (x2 : Int)), some (.int (st : Int)), some (.int (i : Nat)), some (.int (ms[i] : Int)), v7] ∧ H4 = upd H2 T0 (.tup [V.int (i : Nat), V.int (ms[i] : Int)]) ∧ x2 + rnk (st + i2) (n - (st + i2)) (ms[i] :: ms.drop (i + 1)) = rnk 0 n ms)
        ⟨x, v7, rfl, rfl, hx⟩ ?_ ?_
      · rintro i2 σ H4 hi3 ⟨x2, v7, rfl, rfl, hx2⟩
        rw [rnk_lower (show st + i2 < ms[i] by omega) hm, hlr] at hx2
        have R2 := R.same s3
        have hat : rs[n - 1 - (st + i2)]? = some (rs[n - 1 - (st + i2)]'(by omega)) := List.getElem?_eq_getElem _
        have hrow := R2.row _ _ hat
        have ea : atI (rs.map V.ref) ((n : Int) - 1 - ((st : Int) + (i2 : Int))) = some (.ref (rs[n - 1 - (st + i2)]'(by omega))) := by
          rw [show (n : Int) - 1 - ((st : Int) + (i2 : Int)) = ((n - 1 - (st + i2) : Nat) : Int) by omega]
          refine atI_nat ?_
          rw [List.getElem?_map, hat]
          rfl
        have eb : atI (rowV (n - 1 - (st + i2))) (((setV ms).length : Int) - 1 - (i : Int)) = some (V.int (C (n - 1 - (st + i2)) (ms.length - 1 - i) : Nat)) := by
          rw [len_setV, show (ms.length : Int) - 1 - (i : Int) = ((ms.length - 1 - i : Nat) : Int) by omega]
          exact atI_nat (rowV_at _ (by omega))
        refine ⟨_, rfl, .ref p, rfl, _, rfl, _, _, rfl, rfl, _, rfl, _, _, rfl, rfl, p, _, _, _, rfl, rfl, SqL.of R2.at_p, ea, .ref a, rfl, a, _, rfl, .inr (Same.seqT s3 hT), _, _, rfl, rfl, _, rfl, _, _, rfl, rfl, _, _, _, _, rfl, rfl, SqL.of hrow, eb, _, _, rfl, rfl, x2 + C (n - 1 - (st + i2)) (ms.length - 1 - i), some (V.int ((st : Int) + (i2 : Int))), ?_, rfl, ?_⟩
        · rw [Int.natCast_add]
          rfl
        · rw [← hx2, show st + (i2 + 1) = st + i2 + 1 by omega]
          omega
      · rintro σ H4 ⟨x2, v7, rfl, rfl, hx2⟩
        have e3 : st + ((ms[i] : Int) - (st : Int)).toNat = ms[i] := by omega
        rw [e3, rnk_here hm] at hx2
        refine ⟨_, rfl, _, _, rfl, rfl, x2, ms[i] + 1, some (.int (i : Nat)), some (.int (ms[i] : Int)), v7, rfl, s3, by omega, fun m hm2 => ?_, hx2⟩
        have h9 : (ms[i] :: ms.drop (i + 1)).Pairwise (· < ·) := by
          rw [← hd]
          exact hS.1.drop
        exact (List.pairwise_cons.mp h9).1 m hm2
    · rintro σ H2 ⟨x, st, v5, v6, v7, rfl, s2, hst, hge, hx⟩
      rw [len_setV, List.drop_length, rnk_nil, Nat.add_zero] at hx
      refine ⟨_, rfl, ?_⟩
      rw [hx]
      exact q H2 s2
end
/-! ### what the law is told of a value that is no number -/
theorem NumV.same {K : PySem.W.Frag} {H H' : Hp} {v : V} {o : Option Int} (e : Same H H') (h : NumV K H v o) : NumV K H' v o := by
  rcases h with h | ⟨h1, t, h2, h3, h4⟩
  · exact .inl h
  · exact .inr ⟨h1, t, h2, h3, TyX.same e h4⟩
def spTold (K : PySem.W.Frag) : Sp := fun vs H Q _ => ∃ (n k : Nat) (v : V) (o : Option Int), vs = [.int n, .int k, v] ∧ n ≤ 60 ∧ k ≤ 60 ∧ NumV K H v o ∧ inSets n k o = false ∧ ∀ H' p, Same H H' → H p = none → p ≠ sysModules → H' p = some (.lst [v]) → Q (.ref p) H'
section
variable {P : Program} {w : World} {K : PySem.W.Frag} {mg : Str → Option Value} {base : Heap}
theorem ok_told (T : Txt K mg) {j : Nat} : FnOk P w K mg base CX0 (j + 5) T.fTold T.fdTold ["_law_wide", "_law_few", "_law_value"] (spTold K) := by
  refine T.FTold.ok scTold (fun vs H Q E h => ?_) (fun cdv A outer s H vs Q E hr h => ?_)
  · obtain ⟨n, k, v, o, rfl, _⟩ := h
    rfl
  · obtain ⟨n, k, v, o, rfl, hn, hk, hv, ho, q⟩ := h
    refine ⟨_, pss_cons (ps_asg (pe_tup (pa_cons pe_non (pa_cons pe_non pa_nil))) (pg_tup rfl (pgs_cons (pg_name (i := 3) scTold.nd rfl (.inl rfl)) (pgs_cons (pg_name (i := 4) scTold.nd rfl (.inl rfl)) pgs_nil)))) (pss_cons (ps_try_keep (i := 5) (Wout := fun _ _ _ _ => False) rfl rfl rfl scTold.nd rfl rfl ⟨rfl, by decide, Or.inl T.gcBase⟩ takesF (fun W pn xe tk _ => (pss_one (ps_set (i := 3) scTold.nd rfl (.inl rfl) (pe_callS (ok_setat T) hr (by rfl) T.gSetAt T.FSetAt.kp T.bSetAt (fun σ => passAt tk σ) (pa_cons (pv 0) (pa_cons (pv 1) (pa_cons (pv 2) pa_nil))))))) (fun _ _ _ _ _ _ _ => (pss_one (ps_set (i := 4) scTold.nd rfl (.inl rfl) (pv 5))))) (pss_cons (ps_if (pt_cmpR op_isN (pv 4) pe_non (nomark _)) (pss_one (ps_ret (pv 3))) pss_nil) (pss_cons (ps_set (i := 6) scTold.nd rfl (.inl rfl) (pe_or (pe_callB call_isXT (by rfl) T.n_isinstance (by decide +kernel) (pa_cons (pv 4) (pa_cons (pe_tup (pa_cons (pe_glob (v := .ref T.cNotP) (by rfl) T.gcNotP rfl) (pa_cons (pe_glob (v := .ref T.cTooM) (by rfl) T.gcTooM rfl) pa_nil))) pa_nil))) (pe_one (pe_not (pe_callB call_isX (by rfl) T.n_isinstance (by decide +kernel) (pa_cons (pv 4) (pa_cons (pe_bltn (v := .ty "ValueError") (by rfl) T.n_ValueError (by decide +kernel) rfl) pa_nil))))))) (pss_one (ps_ret (pe_ifExp (PW.pt (pw_and (pt_val (pe_callB call_isX (by rfl) T.n_isinstance (by decide +kernel) (pa_cons (pv 4) (pa_cons (pe_glob (v := .ref T.cNoN) (by rfl) T.gcNoN rfl) pa_nil)))) (pw_and1 (pt_not (pt_val (pv 6)))))) (pe_lstN (pa_cons (pe_fldX (pv 4)) pa_nil)) pe_str)))))), ?_⟩
    refine ⟨(by show 2 ≤ sizeLine; decide), fun t0 m0 => ⟨t0, _, rfl, SqT.of upd_same, rfl, _, _, rfl, _, _, rfl, rfl, ?_⟩⟩
    have s0 := same_new (o := .tup [V.non, V.non]) m0
    refine ⟨_, rfl, _, rfl, _, rfl, n, k, v, o, rfl, hn, hk, hv.same s0, fun z => ?_, fun _ H' d s1 hd nd => ⟨true, T.eNoN.ex, fun _ a na => ?_, fun z => nomatch z⟩⟩
    · rw [ho] at z
      cases z
    · have s2 := (s0.trans s1).trans (same_new (o := exk a (.ref T.cNoN) (some d)) na)
      have ea : (upd H' a (exk a (.ref T.cNoN) (some d))) a = some (exk a (.ref T.cNoN) (some d)) := upd_same
      have ed : (upd H' a (exk a (.ref T.cNoN) (some d))) d = some (.xd [("value", v)]) := by
        rw [upd_ne (ne_of_none hd na)]
        exact hd
      refine ⟨.ref a, rfl, ?_⟩
      refine ⟨.ref a, rfl, rfl, _, rfl, ite2 (fun z => nomatch (of_decide_eq_true z)) (fun _ => ?_)⟩
      -- is_other
      refine ⟨.ref a, rfl, (by show 2 ≤ sizeLine; decide), fun t1 n1 => ?_⟩
      have s3 := same_new (o := .tup [V.ref T.cNotP, V.ref T.cTooM]) n1
      refine ⟨a, T.cNoN, d, _, t1, _, _, _, rfl, s3 _ _ ea, s3 _ _ ed, T.eNoN.ec, upd_same, .cons (.own _) (.cons (.own _) .nil), T.kitNot, _, rfl, iteF ?_⟩
      refine ⟨.ref a, rfl, a, T.cNoN, d, _, _, _, _, rfl, s3 _ _ ea, s3 _ _ ed, T.eNoN.ec, .ty _, T.kitVE, _, rfl, ?_⟩
      -- the answer
      refine ⟨.ref a, rfl, a, T.cNoN, d, _, _, _, _, rfl, s3 _ _ ea, s3 _ _ ed, T.eNoN.ec, .own _, T.kitMe, _, rfl, iteT ?_⟩
      refine ⟨_, rfl, _, rfl, iteT ?_⟩
      refine ⟨.ref a, rfl, a, T.cNoN, d, _, v, rfl, s3 _ _ ea, s3 _ _ ed, T.eNoN.xf, T.eNoN.no, rfl, (by show 1 ≤ sizeLine; decide), fun p np far => ?_⟩
      exact q _ p ((s2.trans s3).trans (same_new np)) ((s2.trans s3).free np) far upd_same
end
/-! ### one great set -/
def spGreat (K : PySem.W.Frag) : Sp := fun vs H Q _ => ∃ (p rp : Addr) (m : Nat) (rs : List Addr), vs = [.ref p, .ref rp] ∧ PotAt H p m ∧ m ≤ 900000 ∧ RowsAt H rp rs ∧ rs.length = 61 ∧ ∀ H', PotAt H' p (m + 100) → But p H H' → Q (.bl true) H'
theorem RowsAt.but {H H' : Hp} {p rp : Addr} {m : Nat} {rs : List Addr} (h : RowsAt H rp rs) (hl : rs.length = 61) (P : PotAt H p m) (e : But p H H') : RowsAt H' rp rs := by
  obtain ⟨a, b, c, hp, _⟩ := P
  refine ⟨e _ _ (fun z => ?_) h.at_p, fun i r z => e _ _ (fun y => ?_) (h.row i r z)⟩
  · have h1 := h.at_p
    rw [z, hp] at h1
    have h2 := congrArg List.length (HO.lst.inj (Option.some.inj h1))
    rw [List.length_map, hl] at h2
    have h3 : 3 = 61 := h2
    exact absurd h3 (by decide)
  · have h1 := h.row i r z
    rw [y, hp] at h1
    have h2 := congrArg List.length (HO.lst.inj (Option.some.inj h1))
    unfold rowV at h2
    rw [List.length_map, List.length_range] at h2
    have h3 : 3 = 61 := h2
    exact absurd h3 (by decide)
theorem erase_setV : ∀ (l : List Nat) (k : Nat), (setV l).eraseIdx k = setV (l.eraseIdx k)
  | [], _ => rfl
  | _ :: _, 0 => rfl
  | a :: r, k + 1 => congrArg (V.int (a : Int) :: ·) (erase_setV r k)
theorem rg_setV (n : Nat) : rgV 0 (n : Int) = setV (List.range n) := by
  unfold rgV setV
  rw [show ((n : Int) - 0).toNat = n by omega]
  refine List.map_congr_left fun i _ => ?_
  show V.int (0 + (i : Int)) = V.int (i : Int)
  rw [Int.zero_add]
theorem sorted_nat {so : List Nat} {ns : List Int} (h : ns.Perm (so.map fun (m : Nat) => (m : Int))) (hs : ns.Pairwise (· ≤ ·)) (hn : so.Nodup) : ∃ ms : List Nat, ns = ms.map (fun (m : Nat) => (m : Int)) ∧ ms.Perm so ∧ ms.Pairwise (· < ·) := by
  have h0 : ∀ x ∈ ns, 0 ≤ x := fun x hx => by
    obtain ⟨m, _, rfl⟩ := List.mem_map.mp (h.mem_iff.mp hx)
    omega
  have e1 : ns = (ns.map Int.toNat).map fun (m : Nat) => (m : Int) := by
    rw [List.map_map]
    have : ∀ x ∈ ns, ((fun (m : Nat) => (m : Int)) ∘ Int.toNat) x = id x := fun x hx => by
      show ((x.toNat : Nat) : Int) = x
      have := h0 x hx
      omega
    rw [List.map_congr_left this, List.map_id]
  have e2 : (ns.map Int.toNat).Perm so := by
    have h1 := h.map Int.toNat
    rw [List.map_map] at h1
    have : ∀ x ∈ so, (Int.toNat ∘ fun (m : Nat) => (m : Int)) x = id x := fun x _ => Int.toNat_natCast x
    rw [List.map_congr_left this, List.map_id] at h1
    exact h1
  refine ⟨ns.map Int.toNat, e1, e2, ?_⟩
  have h3 : (ns.map Int.toNat).Nodup := e2.nodup_iff.mpr hn
  have h4 : (ns.map Int.toNat).Pairwise (· ≤ ·) := by
    rw [List.pairwise_map]
    refine List.Pairwise.imp (fun {a b} hab => ?_) hs
    omega
  exact List.Pairwise.imp₂ (fun a b h1 h2 => Nat.lt_of_le_of_ne h1 h2) h4 h3
theorem dp_setT {K : PySem.W.Frag} {H : Hp} {a : Addr} {ms : List Nat} (h : SqT K H a (setV ms)) : Dp K H (.ref a) (.tuple ((ms.map fun (m : Nat) => (m : Int)).map PyData.int)) := by
  rw [setV_ints] at h
  exact .tup h (dp_ints _)
theorem sh_set {ms : List Nat} {n : Nat} (hn : n ≤ 60) (h : Sub 0 n ms) : Sh 1 2000 (.tuple ((ms.map fun (m : Nat) => (m : Int)).map PyData.int)) := by
  have h1 := ShAll.ints (b := 20) (by decide) (by decide) (ns := ms.map fun (m : Nat) => (m : Int)) fun x hx => by
    obtain ⟨m, hm, rfl⟩ := List.mem_map.mp hx
    have := (h.2 m hm).2
    omega
  have h2 := h.len
  exact (Sh.tup h1).mono (by decide) (by rw [List.length_map]; omega)
/-- a value that is no number of a set, and can be shown -/
def OddV (K : PySem.W.Frag) (H : Hp) (n k : Nat) (v : V) : Prop := ∃ o d, NumV K H v o ∧ inSets n k o = false ∧ ItemS K H v d
theorem OddV.same {K : PySem.W.Frag} {H H' : Hp} {n k : Nat} {v : V} (e : Same H H') (h : OddV K H n k v) : OddV K H' n k v := by
  obtain ⟨o, d, h1, h2, h3⟩ := h
  exact ⟨o, d, h1.same e, h2, h3.mono e⟩
theorem odd_int {K : PySem.W.Frag} {H : Hp} {n k : Nat} {c : Int} (h : c < 0 ∨ (C n k : Int) ≤ c) (hb : c.natAbs < 2 ^ 200) : OddV K H n k (.int c) := by
  refine ⟨some c, .int c, .inl ⟨c, rfl, rfl⟩, ?_, .inl ⟨.int c, (Sh.int (b := 200) (by decide) (by decide) hb).mono (by decide) (by decide)⟩⟩
  rw [inSets_some]
  rcases h with h | h
  · rw [decide_eq_false (show ¬ 0 ≤ c by omega)]
    rfl
  · rw [decide_eq_false (show ¬ c < (C n k : Int) by omega), Bool.and_false]
theorem odd_other {K : PySem.W.Frag} {H : Hp} {n k : Nat} {v : V} {t : String} {d : PyData} (h1 : t ∈ tyNames) (h2 : (t == "int") = false) (h3 : TyX K H v (.type t)) (h4 : ItemS K H v d) : OddV K H n k v := ⟨none, d, .inr ⟨rfl, t, h1, h2, h3⟩, rfl, h4⟩
theorem with_heapG {H : Hp} {G : Hp → Prop} (Φ : Hp → Prop) (h1 : Φ H) (h2 : ∀ H', Φ H' → G H') : G H := h2 H h1
section
variable {P : Program} {w : World} {K : PySem.W.Frag} {mg : Str → Option Value} {base : Heap}
theorem ok_great (T : Txt K mg) {j : Nat} : FnG P w K mg base CX0 (j + 6) T.fGreat T.fdGreat ["_law_pot_here", "_law_rows_here"] (spGreat K) := by
  refine Fun_ok0 T.FGreat scGreat (fun vs H Q E h => ?_) (fun cdv A outer s H vs Q E gd hr h => ?_)
  · obtain ⟨p, rp, m, rs, rfl, _⟩ := h
    rfl
  · obtain ⟨p, rp, m, rs, rfl, P0, hm, R0, hrs, q⟩ := h
    have hu66 : (A.deeper (envOfC "_law_great_right" (defScope sGreat) s.heap.objs.size T.fGreat cdv)).units + 66 < cLine := by
      have := hr.un
      omega
    have hu64 : (A.deeper (envOfC "_law_great_right" (defScope sGreat) s.heap.objs.size T.fGreat cdv)).units + 64 < cLine := by omega
    refine ⟨_, pss_cons (ps_set (i := 2) scGreat.nd rfl (.inr rfl) (pe_op op_add pe_int (pe_call (ok_of T) hr (by rfl) T.gOf T.FOf.kp T.bOf .nil pass0 (pa_cons (pv 0) (pa_cons (pe_lst (pa_cons pe_int (pa_cons (pe_call (ok_take T) hr (by rfl) T.gTake T.FTake.kp T.bTake .nil pass0 (pa_cons (pv 0) (pa_cons pe_int pa_nil))) pa_nil))) pa_nil))))) (pss_cons (ps_set (i := 3) scGreat.nd rfl (.inr rfl) (pe_call (ok_of T) hr (by rfl) T.gOf T.FOf.kp T.bOf .nil pass0 (pa_cons (pv 0) (pa_cons (pe_lst (pa_cons pe_int (pa_cons pe_int (pa_cons (pe_op op_fdiv (pv 2) pe_int) (pa_cons (pv 2) (pa_cons (pe_call (ok_take T) hr (by rfl) T.gTake T.FTake.kp T.bTake .nil pass0 (pa_cons (pv 0) (pa_cons (pe_op op_add (pv 2) pe_int) pa_nil))) pa_nil)))))) pa_nil)))) (pss_cons (ps_par (i := 4) (j := 5) rfl scGreat.nd rfl rfl (by decide) rfl rfl (pa_cons (pe_listRg rfl (by rfl) T.n_list (prg_1 (by rfl) T.n_range (pv 2))) (pa_cons (pe_lst pa_nil) pa_nil)) (by rfl)) (pss_cons (ps_for PassesOwn.never rfl (pi_range1 (by rfl) T.n_range (pa_cons (pv 3) pa_nil)) (pg_name (i := 6) scGreat.nd rfl (.inl rfl)) (pss_one (ps_expr (pe_bm PySem.F.plainAttrs_list PySem.F.slot_list_append PySem.F.type_list_append mt_append (pv 5) (pa_cons (pe_bm PySem.F.plainAttrs_list PySem.F.slot_list_pop PySem.F.type_list_pop mt_popAt (pv 4) (pa_cons (pe_call (ok_take T) hr (by rfl) T.gTake T.FTake.kp T.bTake .nil pass0 (pa_cons (pv 0) (pa_cons (pe_callB (call_lenK K) (by rfl) T.n_len PySem.boot_len (pa_cons (pv 4) pa_nil)) pa_nil))) pa_nil)) pa_nil))))) (pss_cons (ps_set (i := 7) scGreat.nd rfl (.inl rfl) (pe_callTy (call_tupleK K) (by rfl) T.n_tuple (by decide +kernel) (pa_cons (pe_callB cr_sorted (by rfl) T.n_sorted (by decide +kernel) (pa_cons (pv 5) pa_nil)) pa_nil))) (pss_cons (ps_par (i := 8) (j := 9) rfl scGreat.nd rfl rfl (by decide) rfl rfl (pa_cons (pe_call (ok_before T) hr (by rfl) T.gBefore T.FBefore.kp T.bBefore .nil pass0 (pa_cons (pv 1) (pa_cons (pv 2) (pa_cons (pv 7) pa_nil)))) (pa_cons (pe_ix (ix_listK K) (pe_ix (ix_listK K) (pv 1) (pv 2) (fun _ _ => rfl)) (pv 3) (fun _ _ => rfl)) pa_nil)) (by rfl)) (pss_cons (ps_if (PW.pt (pw_or (pt_cmpR op_ne (pe_call (ok_setnum T) hr (by rfl) T.gSetNum T.FSetNum.kp T.bSetNum .nil pass0 (pa_cons (pv 2) (pa_cons (pv 7) pa_nil))) (pv 8) (nomark _)) (pw_or1 (pt_cmpR (op_neDK K hu64) (pe_kw (ok_setat T) hr (by rfl) T.gSetAt T.FSetAt.kp T.kSetAt_number_size_n passF (pk_cons (pv 8) (pk_cons (pv 3) (pk_cons (pv 2) pk_nil)))) (pv 7) (nomark _))))) (pss_one (ps_ret pe_bl)) pss_nil) (pss_cons (ps_set (i := 10) scGreat.nd rfl (.inl rfl) (pe_call (ok_take T) hr (by rfl) T.gTake T.FTake.kp T.bTake .nil pass0 (pa_cons (pv 0) (pa_cons (pv 9) pa_nil)))) (pss_cons (ps_if (pt_cmpR op_ne (pe_kw (ok_setnum T) hr (by rfl) T.gSetNum T.FSetNum.kp T.kSetNum_members_n pass0 (pk_cons (pe_call (ok_setat T) hr (by rfl) T.gSetAt T.FSetAt.kp T.bSetAt .nil passF (pa_cons (pv 2) (pa_cons (pv 3) (pa_cons (pv 10) pa_nil)))) (pk_cons (pv 2) pk_nil))) (pv 10) (nomark _)) (pss_one (ps_ret pe_bl)) pss_nil) (pss_cons (ps_set (i := 11) scGreat.nd rfl (.inl rfl) (pe_lst (pa_cons (pv 9) (pa_cons (pe_op op_add (pv 9) pe_int) (pa_cons (pe_un un_neg pe_int) (pa_cons pe_bl (pa_cons pe_bl (pa_cons pe_non (pa_cons pe_str (pa_cons pe_str (pa_cons (pe_tup (pa_cons pe_int pa_nil)) (pa_cons (pe_lst (pa_cons pe_int pa_nil)) (pa_cons pe_dnewK (pa_cons (pe_op op_pow pe_int pe_int) (pa_cons (pe_un un_neg (pv 9)) pa_nil))))))))))))))) (pss_one (ps_ret (pe_callB (cr_allK K) (by rfl) T.n_all (by decide +kernel) (pa_cons (pe_lc (own := [("_law_value", 12)]) (g := gName 12) (tt := tYes) rfl scGreat.nd (pi_list (pv 11)) (blkOk_by (own := [("_law_value", 12)]) (N := NGreat) (sc := defScope sGreat) (by decide +kernel)) (fun _ _ _ _ _ => (pg_name (i := 12) scGreat.nd rfl (.inl rfl))) (fun _ _ _ _ _ => pts_nil) (fun _ _ _ _ _ => (pe_cmpR op_eq (pe_callB (call_reprL K gd hu66) (by rfl) T.n_repr (by decide +kernel) (pa_cons (pe_call (ok_told T) hr (by rfl) T.gTold T.FTold.kp T.bTold .nil pass0 (pa_cons (pv 2) (pa_cons (pv 3) (pa_cons (pv 12) pa_nil)))) pa_nil)) (pe_callB (call_reprL K gd hu66) (by rfl) T.n_repr (by decide +kernel) (pa_cons (pe_lstN (pa_cons (pv 12) pa_nil)) pa_nil)) (nomark _)))) pa_nil))))))))))))), ?_⟩
    -- wide
    refine ⟨.ref p, rfl, .ref p, rfl, p, _, 59, rfl, P0, by omega, by decide, by decide +kernel, fun r1 H1 r10 r1l P1 B1 => ?_⟩
    refine ⟨by show 2 ≤ sizeLine; decide, fun l nl => ?_⟩
    refine ⟨p, _, l, _, rfl, P1.same (same_new nl), by omega, upd_same, (P1.ne nl).symm, (by show 1 ≤ 2; decide), (by show 2 ≤ 1000; decide), fun v H2 hv P2 B2 => ?_⟩
    have C2 : But p H H2 := (B1.same (same_new nl)).trans B2
    obtain ⟨r, rfl, ra, rl⟩ : ∃ r : Int, v = .int r ∧ 0 ≤ r ∧ r < 59 := by
      rcases List.mem_cons.mp hv with rfl | hv
      · exact ⟨58, rfl, by decide, by decide⟩
      · rcases List.mem_cons.mp hv with rfl | hv
        · exact ⟨r1, rfl, r10, r1l⟩
        · cases hv
    obtain ⟨k1, rfl⟩ := Int.eq_ofNat_of_zero_le ra
    have e1 : (2 : Int) + (k1 : Int) = ((2 + k1 : Nat) : Int) := by omega
    refine ⟨_, _, rfl, rfl, ?_⟩
    dsimp only [gName]
    rw [e1]
    generalize hn0 : 2 + k1 = n
    have hn1 : 2 ≤ n := by omega
    have hn2 : n ≤ 60 := by omega
    clear hv hn0 e1 rl ra r10 r1l
    -- few
    refine ⟨.ref p, rfl, _, rfl, _, _, rfl, rfl, ⟨by decide, by decide⟩, _, rfl, .ref p, rfl, _, rfl, _, _, rfl, rfl, p, _, _, rfl, P2, by omega, by omega, ?_, fun r2 H3 r20 r2l P3 B3 => ?_⟩
    · exact Int.lt_trans (show (n : Int) + 1 < 100 by omega) (by decide +kernel)
    refine ⟨by show 5 ≤ sizeLine; decide, fun l2 nl2 => ?_⟩
    refine ⟨p, _, l2, _, rfl, P3.same (same_new nl2), by omega, upd_same, (P3.ne nl2).symm, (by show 1 ≤ 5; decide), (by show 5 ≤ 1000; decide), fun v H4 hv P4 B4 => ?_⟩
    have C4 : But p H H4 := (C2.trans (B3.same (same_new nl2))).trans B4
    obtain ⟨k, rfl, hk⟩ : ∃ k : Nat, v = .int (k : Int) ∧ k ≤ n := by
      rcases List.mem_cons.mp hv with rfl | hv
      · exact ⟨0, rfl, by omega⟩
      rcases List.mem_cons.mp hv with rfl | hv
      · exact ⟨1, rfl, by omega⟩
      rcases List.mem_cons.mp hv with rfl | hv
      · exact ⟨n / 2, by rw [Int.natCast_ediv]; rfl, by omega⟩
      rcases List.mem_cons.mp hv with rfl | hv
      · exact ⟨n, rfl, by omega⟩
      rcases List.mem_cons.mp hv with rfl | hv
      · exact ⟨r2.toNat, by rw [Int.toNat_of_nonneg r20], by omega⟩
      cases hv
    clear hv r20 r2l
    dsimp only [gName]
    -- free, some
    refine ⟨_, rfl, (n : Int), rfl, ⟨by decide, by decide, by omega, by omega, by omega⟩, fun fl nf => ?_⟩
    refine ⟨Nat.zero_le _, fun sl ns => ⟨_, _, rfl, ?_⟩⟩
    rw [rg_setV] at ns ⊢
    have P5 := (P4.same (same_new (o := .lst (setV (List.range n))) nf)).same (same_new (o := .lst []) ns)
    have C5 : But p H _ := (C4.same (same_new (o := .lst (setV (List.range n))) nf)).same (same_new (o := .lst []) ns)
    have hfp : fl ≠ p := (P4.ne nf).symm
    have hsp : sl ≠ p := ((P4.same (same_new (o := .lst (setV (List.range n))) nf)).ne ns).symm
    have hfs : fl ≠ sl := ne_of_none upd_same ns
    have nfH : H fl = none := but_free C4 nf hfp
    have nsH : H sl = none := but_free (C4.same (same_new (o := .lst (setV (List.range n))) nf)) ns hsp
    refine ⟨_, rfl, (k : Int), rfl, by omega, by omega, ?_⟩
    refine for_range (lo := 0) (n := (k : Int).toNat) (fun i σ H2 => ∃ (fr so : List Nat) (v6 : Option V), σ = [some (.ref p), some (.ref rp), some (.int n), some (.int k), some (.ref fl), some (.ref sl), v6, none, none, none, none, none, none] ∧ H2 fl = some (.lst (setV fr)) ∧ H2 sl = some (.lst (setV so)) ∧ so.length = i ∧ (so ++ fr).Perm (List.range n) ∧ PotAt H2 p (m + 10 + i) ∧ But p H H2)
      ⟨List.range n, [], none, rfl, by rw [upd_ne hfs]; exact upd_same, upd_same, rfl, List.Perm.refl _, P5.mono (by omega), C5⟩ ?_ ?_
    · rintro i σ H6 hi ⟨fr, so, v6, rfl, hF, hS, hso, hpm, P6, C6⟩
      have hlf : i + fr.length = n := by
        have := hpm.length_eq
        rw [List.length_append, List.length_range, hso] at this
        exact this
      rw [Int.zero_add]
      refine ⟨.ref sl, rfl, .inl ⟨rfl, _, SqL.of hS⟩, .ref fl, rfl, .inl ⟨rfl, _, SqL.of hF⟩, .ref p, rfl, .ref fl, rfl, fl, _, rfl, .inl (SqL.of hF), p, _, _, rfl, P6, by omega, ?_, ?_, fun r H7 r0 rl P7 B7 => ?_⟩
      · rw [len_setV]
        omega
      · rw [len_setV]
        exact Int.lt_trans (show (fr.length : Int) < 100 by omega) (by decide +kernel)
      · obtain ⟨x, rfl⟩ := Int.eq_ofNat_of_zero_le r0
        have hx : x < fr.length := by
          rw [len_setV] at rl
          omega
        have hF7 := B7 _ _ hfp hF
        have hS7 := B7 _ _ hsp hS
        refine ⟨fl, setV fr, (x : Int), x, V.int (fr[x] : Int), rfl, rfl, hF7, by omega, by omega, seq_at (by rw [len_setV]; exact hx), setV_at (List.getElem?_eq_getElem hx), sl, _, _, rfl, rfl, (by rw [upd_ne hfs.symm]; exact hS7), ?_, ?_⟩
        · rw [len_setV]
          exact small1000 (by omega)
        · refine ⟨fr.eraseIdx x, so ++ [fr[x]], some (.int (i : Int)), rfl, ?_, ?_, ?_, ?_, ?_, ?_⟩
          · rw [upd_ne hfs, upd_same, erase_setV]
          · rw [upd_same, setV_app]
            rfl
          · rw [List.length_append, hso]
            rfl
          · rw [List.append_assoc]
            exact ((erase_perm fr x _ (List.getElem?_eq_getElem hx)).append_left so).trans hpm
          · have P8 := P7.mono (show m + 10 + i + 1 ≤ m + 10 + (i + 1) by omega)
            obtain ⟨a, b, c, h1, h2⟩ := P8
            exact ⟨a, b, c, by rw [upd_ne hsp.symm, upd_ne hfp.symm]; exact h1, h2⟩
          · exact but_new (but_new (C6.trans B7) nfH) nsH
    · rintro σ H6 ⟨fr, so, v6, rfl, hF, hS, hso, hpm, P6, C6⟩
      rw [Int.toNat_natCast] at hso P6
      have hnd : so.Nodup := ((hpm.nodup_iff.mpr List.nodup_range).sublist (List.sublist_append_left so fr))
      have hlt : ∀ x ∈ so, x < n := fun x hx => List.mem_range.mp (hpm.mem_iff.mp (List.mem_append_left _ hx))
      -- chosen
      refine ⟨.ref sl, rfl, sl, so.map fun (m : Nat) => (m : Int), rfl, SqL.of (by rw [← setV_ints]; exact hS), by rw [List.length_map]; omega, fun ns' l3 pm pw n3 => ?_⟩
      obtain ⟨ms, rfl, hms, hlt2⟩ := sorted_nat pm pw hnd
      rw [← setV_ints]
      refine ⟨l3, _, rfl, .inl ⟨SqL.of upd_same, fun t n4 => ?_⟩⟩
      have hsub : Sub 0 n ms := ⟨hlt2, fun x hx => ⟨Nat.zero_le _, by have := hlt x (hms.mem_iff.mp hx); omega⟩⟩
      have hlk : ms.length = k := by rw [hms.length_eq, hso]
      obtain ⟨sp1, sp2⟩ := rnk_spec n 0 ms hsub
      rw [hlk] at sp1 sp2
      have s7 := (same_new (o := .lst (setV ms)) n3).trans (same_new (o := .tup (setV ms)) n4)
      have hT : SqT K (upd (upd H6 l3 (.lst (setV ms))) t (.tup (setV ms))) t (setV ms) := SqT.of upd_same
      have P7 := P6.same s7
      have C7 : But p H _ := C6.same s7
      obtain ⟨H7, hH7⟩ : ∃ H7, upd (upd H6 l3 (.lst (setV ms))) t (.tup (setV ms)) = H7 := ⟨_, rfl⟩
      rw [hH7] at hT P7 C7
      dsimp only [gName]
      rw [hH7]
      have R7 := R0.but hrs P0 C7
      -- due, most
      refine ⟨.ref rp, rfl, _, rfl, .ref t, rfl, rp, t, rs, n, ms, rfl, R7, hrs, hn2, hT, hsub, fun H8 s8 => ?_⟩
      have R8 := R7.same s8
      have P8 := P7.same s8
      have C8 : But p H H8 := C7.same s8
      have hT8 := Same.seqT s8 hT
      have hat : rs[n]? = some (rs[n]'(by omega)) := List.getElem?_eq_getElem _
      have ea : atI (rs.map V.ref) (n : Int) = some (.ref (rs[n]'(by omega))) := atI_nat (by rw [List.getElem?_map, hat]; rfl)
      have eb : atI (rowV n) (k : Int) = some (V.int (C n k : Nat)) := atI_nat (rowV_at n (by omega))
      refine ⟨.ref rp, rfl, _, rfl, rp, _, _, _, rfl, rfl, SqL.of R8.at_p, ea, _, rfl, _, _, _, _, rfl, rfl, SqL.of (R8.row _ _ hat), eb, _, _, rfl, ?_⟩
      -- both ways
      have hin : inSets n k (some ((rnk 0 n ms : Nat) : Int)) = true := by
        rw [inSets_some, decide_eq_true (show (0 : Int) ≤ ((rnk 0 n ms : Nat) : Int) by omega), decide_eq_true (show ((rnk 0 n ms : Nat) : Int) < (C n k : Int) by omega)]
        rfl
      refine ⟨_, rfl, .ref t, rfl, n, t, ms, rfl, hn2, hT8, hsub, _, rfl, rfl, _, rfl, ite2 (fun z => ?_) (fun _ => ?_)⟩
      · rw [decide_eq_true rfl] at z
        cases z
      refine ⟨_, rfl, _, rfl, _, rfl, n, k, _, _, rfl, hn2, by omega, .inl ⟨_, rfl, rfl⟩, fun _ c hc H9 t2 s9 nt2 ht2 => ?_, fun z => ?_⟩
      rotate_left
      · rw [hin] at z
        cases z
      obtain rfl := Option.some.inj hc
      rw [Int.toNat_natCast, sp2] at ht2
      have hT9 := Same.seqT s9 hT8
      have sh1 := sh_set hn2 hsub
      refine ⟨.ref t, rfl, _, _, dp_setT (SqT.of ht2), dp_setT hT9, sh1.shaped (by decide), sh1.shaped (by decide), _, rfl, ite2 (fun z => ?_) (fun _ => ?_)⟩
      · have e9 : PyData.eqv (.tuple ((ms.map fun (m : Nat) => (m : Int)).map PyData.int)) (.tuple ((ms.map fun (m : Nat) => (m : Int)).map PyData.int)) = true := eqvAll_ints _
        rw [e9] at z
        cases z
      have P9 := P8.same s9
      have C9 : But p H H9 := C8.same s9
      have hC1 := C_pos n k hk
      have hC2 := C_60 n k hn2
      -- at
      refine ⟨.ref p, rfl, _, rfl, p, _, _, rfl, P9, by omega, by omega, ?_, fun r3 H10 r30 r3l P10 B10 => ?_⟩
      · exact Int.lt_trans (show ((C n k : Nat) : Int) < 1152921504606846977 by omega) (by decide +kernel)
      obtain ⟨y, rfl⟩ := Int.eq_ofNat_of_zero_le r30
      have hy : y < C n k := by omega
      obtain ⟨u1, u2, u3⟩ := unr_spec n 0 k y hy
      have C10 : But p H H10 := C9.trans B10
      have hin2 : inSets n k (some (y : Int)) = true := by
        rw [inSets_some, decide_eq_true (show (0 : Int) ≤ (y : Int) by omega), decide_eq_true (show (y : Int) < (C n k : Int) by omega)]
        rfl
      refine ⟨_, rfl, _, rfl, _, rfl, n, k, _, _, rfl, hn2, by omega, .inl ⟨_, rfl, rfl⟩, fun _ c hc H11 t3 s11 nt3 ht3 => ?_, fun z => ?_⟩
      rotate_left
      · rw [hin2] at z
        cases z
      obtain rfl := Option.some.inj hc
      rw [Int.toNat_natCast] at ht3
      refine ⟨_, rfl, n, t3, _, rfl, hn2, SqT.of ht3, u2, _, rfl, rfl, _, rfl, ite2 (fun z => ?_) (fun _ => ?_)⟩
      · rw [u3, decide_eq_true rfl] at z
        cases z
      have P11 := P10.same s11
      have C11 : But p H H11 := C10.same s11
      -- odd
      refine ⟨_, rfl, _, rfl, _, _, rfl, rfl, _, rfl, (by show 1 ≤ sizeLine; decide), fun t4 n5 => ⟨(by show 1 ≤ sizeLine; decide), fun l5 n6 => fun dd n7 => ?_⟩⟩
      refine ⟨_, _, rfl, rfl, ⟨by decide, by decide, by decide⟩, _, rfl, _, rfl, (by show 13 ≤ sizeLine; decide), fun L nL => ?_⟩
      have q1 := same_new (o := .tup [V.int 0]) n5
      have q2 := q1.trans (same_new (o := .lst [V.int 0]) n6)
      have q3 := q2.trans (same_new (o := .dK []) n7)
      refine with_heapG (fun Hz => Same H11 Hz ∧ ∃ xs, Hz L = some (.lst xs) ∧ xs.length = 13 ∧ ∀ v ∈ xs, OddV K Hz n k v) ?_ ?_
      · refine ⟨q3.trans (same_new nL), _, upd_same, rfl, fun v hv => ?_⟩
        have hC60 : ((C n k : Nat) : Int).natAbs ≤ 1152921504606846976 := by omega
        simp only [List.mem_cons, List.not_mem_nil, or_false] at hv
        rcases hv with rfl | rfl | rfl | rfl | rfl | rfl | rfl | rfl | rfl | rfl | rfl | rfl | rfl
        · exact odd_int (.inr (Int.le_refl _)) (Nat.lt_of_le_of_lt hC60 (by decide +kernel))
        · exact odd_int (.inr (by omega)) (Nat.lt_of_le_of_lt (show (((C n k : Nat) : Int) + 1).natAbs ≤ 1152921504606846977 by omega) (by decide +kernel))
        · exact odd_int (.inl (by decide)) (by decide +kernel)
        · exact odd_other (t := "bool") (by decide) (by decide) (.base (.bl _)) (.inl ⟨.bl _, (Sh.bool _).mono (by decide) (by decide)⟩)
        · exact odd_other (t := "bool") (by decide) (by decide) (.base (.bl _)) (.inl ⟨.bl _, (Sh.bool _).mono (by decide) (by decide)⟩)
        · exact odd_other (t := "NoneType") (by decide) (by decide) (.base .non) (.inl ⟨.non, Sh.none.mono (by decide) (by decide)⟩)
        · exact odd_other (t := "str") (by decide) (by decide) (.base (.str _)) (.inl ⟨.str _, ⟨by decide +kernel, by decide, by decide +kernel, by decide +kernel, by decide +kernel⟩⟩)
        · exact odd_other (t := "str") (by decide) (by decide) (.base (.str _)) (.inl ⟨.str _, ⟨by decide +kernel, by decide, by decide +kernel, by decide +kernel, by decide +kernel⟩⟩)
        · have h1 := same_new (o := .lst [V.int ((C n k : Nat) : Int), .int (((C n k : Nat) : Int) + 1), .int (-1), .bl true, .bl false, .non, .str "0", .str "", .ref t4, .ref l5, .ref dd, .int (10 ^ (40 : Int).toNat), .int (-((C n k : Nat) : Int))]) nL _ _ (same_new (o := .dK []) n7 _ _ (same_new (o := .lst [V.int 0]) n6 t4 _ upd_same))
          exact odd_other (t := "tuple") (by decide) (by decide) (.base (.tup h1)) (.inl ⟨.tup (SqT.of h1) (.cons (.int 0) .nil), (Sh.tup (ShAll.cons (Sh.int (b := 20) (by decide) (by decide) (by decide)) ShAll.nil)).mono (by decide) (by decide)⟩)
        · have h1 := same_new (o := .lst [V.int ((C n k : Nat) : Int), .int (((C n k : Nat) : Int) + 1), .int (-1), .bl true, .bl false, .non, .str "0", .str "", .ref t4, .ref l5, .ref dd, .int (10 ^ (40 : Int).toNat), .int (-((C n k : Nat) : Int))]) nL _ _ (same_new (o := .dK []) n7 l5 _ upd_same)
          exact odd_other (t := "list") (by decide) (by decide) (.base (.lst h1)) (.inl ⟨.lst (SqL.of h1) (.cons (.int 0) .nil), (Sh.lst (ShAll.cons (Sh.int (b := 20) (by decide) (by decide) (by decide)) ShAll.nil)).mono (by decide) (by decide)⟩)
        · have h1 := same_new (o := .lst [V.int ((C n k : Nat) : Int), .int (((C n k : Nat) : Int) + 1), .int (-1), .bl true, .bl false, .non, .str "0", .str "", .ref t4, .ref l5, .ref dd, .int (10 ^ (40 : Int).toNat), .int (-((C n k : Nat) : Int))]) nL dd _ upd_same
          exact odd_other (t := "dict") (by decide) (by decide) (.base (.dK h1)) (.inr ⟨rfl, dd, rfl, h1⟩)
        · exact odd_int (.inr (Int.le_trans (show ((C n k : Nat) : Int) ≤ 1152921504606846976 by omega) (by decide +kernel))) (by decide +kernel)
        · exact odd_int (.inl (by omega)) (Nat.lt_of_le_of_lt (show (-((C n k : Nat) : Int)).natAbs ≤ 1152921504606846976 by omega) (by decide +kernel))
      · rintro Hz ⟨sz, xs, hL, hx13, hodd⟩
        refine ⟨.ref L, rfl, L, rfl, ⟨xs, SqL.of hL⟩, fun D nD => ?_⟩
        refine lc_list (a := L) (xs := xs) (fun i2 H7 => Same Hz H7 ∧ H7 D = some (.lst ((List.replicate i2 true).map V.bl))) ⟨same_new nD, upd_same⟩ (fun _ H7 _ h7 => SqL.of (h7.1 _ _ hL)) ?_ ?_
        · rintro i2 x H7 hx ⟨s7, hD⟩
          have hi2 : i2 < 13 := by
            rw [← hx13]
            exact (List.getElem?_eq_some_iff.mp hx).1
          obtain ⟨o, d, hv, hi, hI⟩ := (hodd x (List.mem_of_getElem? hx)).same s7
          refine ⟨rfl, _, rfl, _, rfl, _, rfl, n, k, x, o, rfl, hn2, by omega, hv, hi, fun H8 q1 s8 nq far hq => ?_⟩
          refine ⟨q1, x, d, rfl, hq, far, hI.mono s8, _, rfl, (by show 1 ≤ sizeLine; decide), fun q2 n2 far2 => ⟨q2, x, d, rfl, upd_same, far2, (hI.mono s8).mono (same_new n2), rfl, _, same_new n2 _ _ (s8 _ _ hD), ?_, keep_upd (s7.trans (s8.trans (same_new n2))) nD, ?_⟩⟩
          · rw [List.length_map, List.length_replicate]
            exact small1000 (by omega)
          · rw [upd_same, List.replicate_succ', List.map_append, decide_eq_true rfl]
            rfl
        · rintro H7 ⟨s7, hD⟩
          refine ⟨D, _, rfl, SqL.of hD, ?_⟩
          have e9 : (List.replicate xs.length true).all id = true := List.all_eq_true.mpr fun x hx => by
            rw [List.eq_of_mem_replicate hx]
            rfl
          rw [e9]
          exact q H7 (((P11.same sz).same s7).mono (by omega)) ((C11.same sz).same s7)
end
/-! ### the law -/
def spLaw (K : PySem.W.Frag) : Sp := fun vs H Q _ => ∃ (a : Addr) (ns : List Int), vs = [.ref a] ∧ SqL K H a (ns.map V.int) ∧ ns.length ≤ 63 ∧ ∀ H', Q (.bl true) H'
def setD (ms : List Nat) : PyData := .tuple ((ms.map fun (m : Nat) => (m : Int)).map PyData.int)
theorem dp_tups {K : PySem.W.Frag} {H : Hp} {ts : List V} {L : List (List Nat)} (h : Tups K H ts L) : DpAll K H ts (L.map setD) := by
  induction h with
  | nil => exact .nil
  | cons r _ ih =>
    obtain ⟨t, rfl, ht⟩ := r
    exact .cons (dp_setT ht) ih
theorem sh_tups {n : Nat} (hn : n ≤ 60) : ∀ {L : List (List Nat)}, (∀ s ∈ L, Sub 0 n s) → ShAll 1 (2001 * L.length) (L.map setD)
  | [], _ => ShAll.nil.mono (Nat.zero_le _) (Nat.zero_le _)
  | s :: r, h => by
    have h1 := ShAll.cons (sh_set hn (h s List.mem_cons_self)) (sh_tups hn fun x hx => h x (List.mem_cons_of_mem _ hx))
    exact h1.mono (Nat.le_refl _) (by rw [List.length_cons, Nat.mul_succ]; omega)
theorem eqv_sets : ∀ L : List (List Nat), PyData.eqvAll (L.map setD) (L.map setD) = true
  | [] => rfl
  | s :: r => by
    show (PyData.eqv (setD s) (setD s) && PyData.eqvAll (r.map setD) (r.map setD)) = true
    rw [eqv_sets r]
    have h : PyData.eqv (setD s) (setD s) = true := eqvAll_ints _
    rw [h]
    rfl
theorem order_sub {n k : Nat} : ∀ s ∈ inOrder n k, Sub 0 n s := fun s hs => by
  unfold inOrder at hs
  obtain ⟨i, hi, rfl⟩ := List.mem_map.mp hs
  exact (unr_spec n 0 k i (List.mem_range.mp hi)).2.1
theorem order_len (n k : Nat) : (inOrder n k).length = C n k := by
  unfold inOrder
  rw [List.length_map, List.length_range]
theorem order_at {n k i : Nat} {ms : List Nat} (h : (inOrder n k)[i]? = some ms) : i < C n k ∧ ms = unr 0 n k i := by
  have hi : i < C n k := by
    rw [← order_len]
    exact (List.getElem?_eq_some_iff.mp h).1
  unfold inOrder at h
  rw [List.getElem?_map, List.getElem?_range hi] at h
  exact ⟨hi, (Option.some.inj h).symm⟩
theorem cut_setV (n : Nat) : setV (List.range n) = ((List.range n).map fun (m : Nat) => (m : Int)).map V.int := setV_ints _
section
variable {P : Program} {w : World} {K : PySem.W.Frag} {mg : Str → Option Value} {base : Heap}
theorem ok_law {f : Addr} {fd : FuncData} (F : Fun K "law" "law" sLaw f fd) (T : Txt K mg) : FnG P w K mg base CX0 7 f fd ["_law_script"] (spLaw K) := by
  refine Fun_ok0 F scLaw (fun vs H Q E h => ?_) (fun cdv A outer s H vs Q E gd hr h => ?_)
  · obtain ⟨a, ns, rfl, _⟩ := h
    rfl
  · obtain ⟨a, ns, rfl, hS, hlen, q⟩ := h
    have hu64 : (A.deeper (envOfC "law" (defScope sLaw) s.heap.objs.size f cdv)).units + 64 < cLine := by
      have := hr.un
      omega
    refine ⟨_, pss_cons (ps_for PassesOwn.never rfl (pi_range2 (by rfl) T.n_range (pa_cons pe_int (pa_cons pe_int pa_nil))) (pg_name (i := 1) scLaw.nd rfl (.inr rfl)) (pss_one (ps_for PassesOwn.never rfl (pi_range1 (by rfl) T.n_range (pa_cons (pe_op op_add (pv 1) pe_int) pa_nil)) (pg_name (i := 2) scLaw.nd rfl (.inr rfl)) (pss_cons (ps_set (i := 3) scLaw.nd rfl (.inl rfl) (pe_call (ok_all T) hr (by rfl) T.gAll T.FAll.kp T.bAll .nil pass0 (pa_cons (pv 1) (pa_cons (pv 2) pa_nil)))) (pss_cons (ps_if (pt_cmpR (op_neDK K hu64) (pe_lc (own := [("_law_at", 4)]) (g := gName 4) (tt := tYes) rfl scLaw.nd (pi_range1 (by rfl) T.n_range (pa_cons (pe_callB (call_lenK K) (by rfl) T.n_len PySem.boot_len (pa_cons (pv 3) pa_nil)) pa_nil)) (blkOk_by (own := [("_law_at", 4)]) (N := NLaw) (sc := defScope sLaw) (by decide +kernel)) (fun _ _ _ _ _ => (pg_name (i := 4) scLaw.nd rfl (.inl rfl))) (fun _ _ _ _ _ => pts_nil) (fun _ _ _ _ _ => (pe_call (ok_setat T) hr (by rfl) T.gSetAt T.FSetAt.kp T.bSetAt .nil passF (pa_cons (pv 1) (pa_cons (pv 2) (pa_cons (pv 4) pa_nil)))))) (pv 3) (nomark _)) (pss_one (ps_ret pe_bl)) pss_nil) (pss_one (ps_if (pt_cmpR (op_neDK K hu64) (pe_lc (own := [("_law_some", 5)]) (g := gName 5) (tt := tYes) rfl scLaw.nd (pi_list (pv 3)) (blkOk_by (own := [("_law_some", 5)]) (N := NLaw) (sc := defScope sLaw) (by decide +kernel)) (fun _ _ _ _ _ => (pg_name (i := 5) scLaw.nd rfl (.inl rfl))) (fun _ _ _ _ _ => pts_nil) (fun _ _ _ _ _ => (pe_call (ok_setnum T) hr (by rfl) T.gSetNum T.FSetNum.kp T.bSetNum .nil pass0 (pa_cons (pv 1) (pa_cons (pv 5) pa_nil))))) (pe_listRg rfl (by rfl) T.n_list (prg_1 (by rfl) T.n_range (pe_callB (call_lenK K) (by rfl) T.n_len PySem.boot_len (pa_cons (pv 3) pa_nil)))) (nomark _)) (pss_one (ps_ret pe_bl)) pss_nil))))))) (pss_cons (ps_set (i := 6) scLaw.nd rfl (.inr rfl) (pe_call0 (ok_rows T) hr (by rfl) T.gRows T.FRows.kp T.bRows .nil pass0)) (pss_cons (ps_for PassesOwn.never rfl (pi_range1 (by rfl) T.n_range (pa_cons (pe_callB (call_max2 rfl) (by rfl) T.n_max (by decide +kernel) (pa_cons pe_int (pa_cons (pe_callB (call_min2 rfl) (by rfl) T.n_min (by decide +kernel) (pa_cons pe_int (pa_cons (pe_callB (call_lenK K) (by rfl) T.n_len PySem.boot_len (pa_cons (pv 0) pa_nil)) pa_nil))) pa_nil))) pa_nil)) (pg_name (i := 7) scLaw.nd rfl (.inl rfl)) (pss_cons (ps_set (i := 8) scLaw.nd rfl (.inr rfl) (pe_call (ok_pot T) hr (by rfl) T.gPot T.FPot.kp T.bPot .nil pass0 (pa_cons (pv 0) (pa_cons (pv 7) pa_nil)))) (pss_one (ps_if (pt_not (pt_val (pe_callB (cr_allK K) (by rfl) T.n_all (by decide +kernel) (pa_cons (pe_lc (own := [("_law_turn", 9)]) (g := gName 9) (tt := tYes) rfl scLaw.nd (pi_range1 (by rfl) T.n_range (pa_cons pe_int pa_nil)) (blkOk_by (own := [("_law_turn", 9)]) (N := NLaw) (sc := defScope sLaw) (by decide +kernel)) (fun _ _ _ _ _ => (pg_name (i := 9) scLaw.nd rfl (.inl rfl))) (fun _ _ _ _ _ => pts_nil) (fun _ _ _ _ _ => (pe_callG (ok_great T) gd hr (by rfl) T.gGreat T.FGreat.kp T.bGreat pass0 (pa_cons (pv 8) (pa_cons (pv 6) pa_nil))))) pa_nil)))) (pss_one (ps_ret pe_bl)) pss_nil)))) (pss_one (ps_ret pe_bl)))), ?_⟩
    refine ⟨2, 8, rfl, ⟨by decide, by decide, by decide, by decide⟩, ?_⟩
    refine for_range (lo := 2) (n := 6) (fun i σ H2 => ∃ v1 v2 v3, σ = [some (.ref a), v1, v2, v3, none, none, none, none, none, none] ∧ Same H H2) ⟨none, none, none, rfl, Same.refl H⟩ ?_ ?_
    · rintro i σ H2 hi ⟨v1, v2, v3, rfl, s2⟩
      have e1 : (2 : Int) + (i : Int) = ((i + 2 : Nat) : Int) := by omega
      rw [e1]
      generalize hn0 : i + 2 = n
      have hn1 : 2 ≤ n := by omega
      have hn7 : n ≤ 7 := by omega
      have hn2 : n ≤ 60 := by omega
      refine ⟨_, rfl, _, _, rfl, rfl, (n : Int) + 1, rfl, by omega, by omega, ?_⟩
      refine for_range (lo := 0) (n := ((n : Int) + 1).toNat) (fun i σ H2 => ∃ v2 v3, σ = [some (.ref a), some (.int (n : Int)), v2, v3, none, none, none, none, none, none] ∧ Same H H2) ⟨v2, v3, rfl, s2⟩ ?_ ?_
      · rintro k σ H3 hk ⟨v2, v3, rfl, s3⟩
        have hk2 : k ≤ n := by omega
        rw [Int.zero_add]
        refine ⟨_, rfl, _, rfl, n, k, rfl, hn1, hn7, hk2, fun H4 pe ts s4 np hpe hts => ?_⟩
        obtain ⟨_, _, hC, _⟩ := small_sets' hn1 hn7 hk2
        have lts : ts.length = C n k := (PySem.Paired.length hts).trans (order_len n k)
        -- all sets
        refine ⟨.ref pe, rfl, pe, _, rfl, .inl (SqL.of hpe), (ts.length : Int), rfl, by omega, by omega, fun D nD => ?_⟩
        refine lc_range (lo := 0) (n := (ts.length : Int).toNat) (fun i H7 => Same H4 H7 ∧ ∃ acc, H7 D = some (.lst acc) ∧ Tups K H7 acc ((List.range i).map (unr 0 n k))) ⟨same_new nD, [], upd_same, .nil⟩ ?_ ?_
        · rintro i H7 hi ⟨s7, acc, hD, ta⟩
          have hiC : i < C n k := by omega
          have hl : acc.length = i := by
            have := PySem.Paired.length ta
            rw [List.length_map, List.length_range] at this
            exact this
          rw [Int.zero_add]
          refine ⟨rfl, _, rfl, _, rfl, _, rfl, n, k, _, _, rfl, hn2, by omega, .inl ⟨_, rfl, rfl⟩, fun _ c hc H8 t s8 nt ht => ?_, fun z => ?_⟩
          · obtain rfl := Option.some.inj hc
            rw [Int.toNat_natCast] at ht
            refine ⟨acc, s8 _ _ hD, small1000 (by omega), keep_upd (s7.trans s8) nD, _, upd_same, ?_⟩
            rw [List.range_succ, List.map_append]
            exact ((ta.same s8).updL (s8 _ _ hD)).append (.cons ⟨t, rfl, SqT_updL (SqT.of ht) (s8 _ _ hD)⟩ .nil)
          · rw [inSets_some, decide_eq_true (show (0 : Int) ≤ (i : Int) by omega), decide_eq_true (show (i : Int) < (C n k : Int) by omega)] at z
            cases z
        · rintro H7 ⟨s7, acc, hD, ta⟩
          have ta2 : Tups K H7 acc (inOrder n k) := by
            rw [Int.toNat_natCast, lts] at ta
            exact ta
          have hpe7 := s7 _ _ hpe
          have sh1 := Sh.lst (sh_tups hn2 (L := inOrder n k) order_sub)
          refine ⟨.ref pe, rfl, _, _, .lst (SqL.of hD) (dp_tups ta2), .lst (SqL.of hpe7) (dp_tups (hts.same s7)), sh1.shaped (by decide), sh1.shaped (by decide), _, rfl, ite2 (fun z => ?_) (fun _ => ?_)⟩
          · have e9 : PyData.eqv (.list ((inOrder n k).map setD)) (.list ((inOrder n k).map setD)) = true := eqv_sets _
            rw [e9] at z
            cases z
          -- all numbers
          refine ⟨.ref pe, rfl, pe, rfl, ⟨ts, SqL.of hpe7⟩, fun D2 nD2 => ?_⟩
          refine lc_list (a := pe) (xs := ts) (fun i2 H8 => Same H7 H8 ∧ H8 D2 = some (.lst (setV (List.range i2)))) ⟨same_new nD2, upd_same⟩ (fun _ H8 _ h8 => SqL.of (h8.1 _ _ hpe7)) ?_ ?_
          · rintro i2 x H8 hx ⟨s8, hD2⟩
            obtain ⟨ms, t, e3, rfl, ht⟩ := ((hts.same s7).same s8).at hx
            obtain ⟨hi2, rfl⟩ := order_at e3
            obtain ⟨u1, u2, u3⟩ := unr_spec n 0 k i2 hi2
            refine ⟨rfl, _, rfl, .ref t, rfl, n, t, _, rfl, hn2, ht, u2, _, hD2, ?_, keep_upd s8 nD2, ?_⟩
            · rw [len_setV, List.length_range]
              exact small1000 (by omega)
            · rw [upd_same, List.range_succ, setV_app, u3]
              rfl
          · rintro H8 ⟨s8, hD2⟩
            have hpe8 := s8 _ _ hpe7
            refine ⟨.ref pe, rfl, pe, _, rfl, .inl (SqL.of hpe8), (ts.length : Int), rfl, ⟨by decide, by decide, by omega, by omega, by omega⟩, fun l9 n9 => ?_⟩
            rw [rg_setV]
            rw [cut_setV] at hD2 ⊢
            have sh2 := ShAll.ints (b := 20) (by decide) (by decide) (ns := (List.range ts.length).map fun (m : Nat) => (m : Int)) fun x hx => by
              obtain ⟨m, hm, rfl⟩ := List.mem_map.mp hx
              have := List.mem_range.mp hm
              omega
            refine ⟨_, _, .lst (SqL.of (same_new n9 _ _ hD2)) (dp_ints _), .lst (SqL.of upd_same) (dp_ints _), (Sh.lst sh2).shaped (by decide), (Sh.lst sh2).shaped (by decide), _, rfl, ite2 (fun z => ?_) (fun _ => ?_)⟩
            · have e9 : PyData.eqv (.list (((List.range ts.length).map fun (m : Nat) => (m : Int)).map PyData.int)) (.list (((List.range ts.length).map fun (m : Nat) => (m : Int)).map PyData.int)) = true := eqvAll_ints _
              rw [e9] at z
              cases z
            · exact ⟨some (.int (k : Int)), some (.ref pe), rfl, (((s3.trans s4).trans s7).trans s8).trans (same_new n9)⟩
      · rintro σ H3 ⟨v2, v3, rfl, s3⟩
        exact ⟨some (.int (n : Int)), v2, v3, rfl, s3⟩
    · rintro σ H2 ⟨v1, v2, v3, rfl, s2⟩
      refine ⟨rfl, fun H3 rp rs s3 nr hrs R3 => ?_⟩
      have s23 := s2.trans s3
      refine ⟨.ref a, rfl, a, _, rfl, .inl (s23.seq hS), _, _, rfl, _, _, rfl, _, rfl, ?_, ?_, ?_⟩
      · split <;> split <;> omega
      · split <;> split <;> omega
      refine for_range (lo := 0) (fun i σ H4 => ∃ v7 v8, σ = [some (.ref a), v1, v2, v3, none, none, some (.ref rp), v7, v8, none] ∧ Same H3 H4) ⟨none, none, rfl, Same.refl _⟩ ?_ ?_
      · rintro i σ H4 hi ⟨v7, v8, rfl, s4⟩
        have hi3 : i < 3 := by
          refine Nat.lt_of_lt_of_le hi ?_
          split <;> split <;> omega
        rw [Int.zero_add]
        refine ⟨.ref a, rfl, _, rfl, a, ns, i, rfl, (s23.trans s4).seq hS, by omega, fun H5 p s5 np P5 => ?_⟩
        have R5 := (R3.same s4).same s5
        refine ⟨8, rfl, by decide, by decide, fun D nD => ?_⟩
        have hDp : D ≠ p := (P5.ne nD).symm
        refine lc_range (lo := 0) (n := 8) (fun z H7 => PotAt H7 p (100 * z) ∧ But p H5 H7 ∧ H7 D = some (.lst ((List.replicate z true).map V.bl))) ⟨P5.same (same_new nD), But.of (same_new nD), upd_same⟩ ?_ ?_
        · rintro z H7 hz ⟨P7, B7, hD⟩
          refine ⟨rfl, .ref p, rfl, .ref rp, rfl, p, rp, 100 * z, rs, rfl, P7, by omega, R5.but hrs P5 B7, hrs, fun H8 P8 B8 => ?_⟩
          have hD8 := B8 _ _ hDp hD
          refine ⟨_, hD8, ?_, ?_, but_new (B7.trans B8) nD, ?_⟩
          · rw [List.length_map, List.length_replicate]
            exact small1000 (by omega)
          · obtain ⟨x, y, c, h1, h2⟩ := P8.mono (show 100 * z + 100 ≤ 100 * (z + 1) by omega)
            exact ⟨x, y, c, by rw [upd_ne hDp.symm]; exact h1, h2⟩
          · rw [upd_same, List.replicate_succ', List.map_append]
            rfl
        · rintro H7 ⟨P7, B7, hD⟩
          refine ⟨D, _, rfl, SqL.of hD, _, rfl, ite2 (fun z => ?_) (fun _ => ?_)⟩
          · exact absurd z (by decide)
          · refine ⟨some (.int (i : Int)), some (.ref p), rfl, s4.trans ?_⟩
            exact fun b o e => B7 b o (ne_of_none e np) (s5 b o e)
      · rintro σ H4 ⟨v7, v8, rfl, s4⟩
        exact q H4
end
theorem all_mk {l : PySem.W.OpenLaw} {w : World} {K : PySem.W.Frag} {h : Heap} {mg : Str → Option Value} {fa f1 f2 f3 f4 f5 f6 f7 f8 f9 f10 f11 f12 f13 f14 : Addr} (X : K.In h) (G : h.Ns mainGlobals mg) (hfa : mg "law" = some (.ref fa))
    {od1 an1 od2 an2 od3 an3 od4 an4 od5 an5 od6 an6 od7 an7 od8 an8 od9 an9 od10 an10 od11 an11 od12 an12 od13 an13 od14 an14 : Option Addr} {sl1 sl2 sl3 sl4 sl5 sl6 sl7 sl8 sl9 sl10 sl11 sl12 sl13 sl14 : Array (Option Value)} {oc1 kV1 dc1 pm1 cd1 ct1 oc2 kV2 dc2 pm2 cd2 ct2 oc3 kV3 dc3 pm3 cd3 ct3 oc4 kV4 dc4 pm4 cd4 ct4 oc5 kV5 dc5 pm5 cd5 ct5 oc6 kV6 dc6 pm6 cd6 ct6 oc7 kV7 dc7 pm7 cd7 ct7 oc8 kV8 dc8 pm8 cd8 ct8 oc9 kV9 dc9 pm9 cd9 ct9 oc10 kV10 dc10 pm10 cd10 ct10 oc11 kV11 dc11 pm11 cd11 ct11 oc12 kV12 dc12 pm12 cd12 ct12 oc13 kV13 dc13 pm13 cd13 ct13 oc14 kV14 dc14 pm14 cd14 ct14 : Value}
    {CBase CNoN CNotP CTooM fi2 fi3 fi4 : Addr}
    {nm2 q2 : Str} {N2 : Addr} {bs2 : List Value} {sn2 : List Str} {sub2 : List Value} {ab2 : Bool} {col2 : Option Bool} {dd2 : Option Addr} {m0_2 m1_2 m2_2 m3_2 m5_2 : Option Value} {odi2 ani2 : Option Addr} {sli2 : Array (Option Value)} {oci2 kVi2 dci2 pmi2 cdi2 cti2 : Value}
    {nm3 q3 : Str} {N3 : Addr} {bs3 : List Value} {sn3 : List Str} {sub3 : List Value} {ab3 : Bool} {col3 : Option Bool} {dd3 : Option Addr} {m0_3 m1_3 m2_3 m3_3 m5_3 : Option Value} {odi3 ani3 : Option Addr} {sli3 : Array (Option Value)} {oci3 kVi3 dci3 pmi3 cdi3 cti3 : Value}
    {nm4 q4 : Str} {N4 : Addr} {bs4 : List Value} {sn4 : List Str} {sub4 : List Value} {ab4 : Bool} {col4 : Option Bool} {dd4 : Option Addr} {m0_4 m1_4 m2_4 m3_4 m5_4 : Option Value} {odi4 ani4 : Option Addr} {sli4 : Array (Option Value)} {oci4 kVi4 dci4 pmi4 cdi4 cti4 : Value}
    (a1 : PySem.W.nsIn K mainGlobals "is_plain_int" = some (some (.ref f1)))
    (l1 : K.lookup f1 = some ⟨oc1, od1, .func (PySem.W.fnOf "is_plain_int" "is_plain_int" (defArgs sPlain) (defBody sPlain) (defScope sPlain) .none kV1 dc1 pm1 an1 cd1 ct1), sl1⟩)
    (c1 : PySem.W.codeIn K cd1 "is_plain_int" = true)
    (k1 : PySem.W.keepIn K (.ref f1) = true)
    (a2 : PySem.W.nsIn K mainGlobals "binomial" = some (some (.ref f2)))
    (l2 : K.lookup f2 = some ⟨oc2, od2, .func (PySem.W.fnOf "binomial" "binomial" (defArgs sBin) (defBody sBin) (defScope sBin) .none kV2 dc2 pm2 an2 cd2 ct2), sl2⟩)
    (c2 : PySem.W.codeIn K cd2 "binomial" = true)
    (k2 : PySem.W.keepIn K (.ref f2) = true)
    (a3 : PySem.W.nsIn K mainGlobals "check_number" = some (some (.ref f3)))
    (l3 : K.lookup f3 = some ⟨oc3, od3, .func (PySem.W.fnOf "check_number" "check_number" (defArgs sChkN) (defBody sChkN) (defScope sChkN) .none kV3 dc3 pm3 an3 cd3 ct3), sl3⟩)
    (c3 : PySem.W.codeIn K cd3 "check_number" = true)
    (k3 : PySem.W.keepIn K (.ref f3) = true)
    (a4 : PySem.W.nsIn K mainGlobals "set_at" = some (some (.ref f4)))
    (l4 : K.lookup f4 = some ⟨oc4, od4, .func (PySem.W.fnOf "set_at" "set_at" (defArgs sSetAt) (defBody sSetAt) (defScope sSetAt) .none kV4 dc4 pm4 an4 cd4 ct4), sl4⟩)
    (c4 : PySem.W.codeIn K cd4 "set_at" = true)
    (k4 : PySem.W.keepIn K (.ref f4) = true)
    (a5 : PySem.W.nsIn K mainGlobals "set_number" = some (some (.ref f5)))
    (l5 : K.lookup f5 = some ⟨oc5, od5, .func (PySem.W.fnOf "set_number" "set_number" (defArgs sSetNum) (defBody sSetNum) (defScope sSetNum) .none kV5 dc5 pm5 an5 cd5 ct5), sl5⟩)
    (c5 : PySem.W.codeIn K cd5 "set_number" = true)
    (k5 : PySem.W.keepIn K (.ref f5) = true)
    (a6 : PySem.W.nsIn K mainGlobals "_law_pot" = some (some (.ref f6)))
    (l6 : K.lookup f6 = some ⟨oc6, od6, .func (PySem.W.fnOf "_law_pot" "_law_pot" (defArgs sPot) (defBody sPot) (defScope sPot) .none kV6 dc6 pm6 an6 cd6 ct6), sl6⟩)
    (c6 : PySem.W.codeIn K cd6 "_law_pot" = true)
    (k6 : PySem.W.keepIn K (.ref f6) = true)
    (a7 : PySem.W.nsIn K mainGlobals "_law_take" = some (some (.ref f7)))
    (l7 : K.lookup f7 = some ⟨oc7, od7, .func (PySem.W.fnOf "_law_take" "_law_take" (defArgs sTake) (defBody sTake) (defScope sTake) .none kV7 dc7 pm7 an7 cd7 ct7), sl7⟩)
    (c7 : PySem.W.codeIn K cd7 "_law_take" = true)
    (k7 : PySem.W.keepIn K (.ref f7) = true)
    (a8 : PySem.W.nsIn K mainGlobals "_law_of" = some (some (.ref f8)))
    (l8 : K.lookup f8 = some ⟨oc8, od8, .func (PySem.W.fnOf "_law_of" "_law_of" (defArgs sOf) (defBody sOf) (defScope sOf) .none kV8 dc8 pm8 an8 cd8 ct8), sl8⟩)
    (c8 : PySem.W.codeIn K cd8 "_law_of" = true)
    (k8 : PySem.W.keepIn K (.ref f8) = true)
    (a9 : PySem.W.nsIn K mainGlobals "_law_rows" = some (some (.ref f9)))
    (l9 : K.lookup f9 = some ⟨oc9, od9, .func (PySem.W.fnOf "_law_rows" "_law_rows" (defArgs sRows) (defBody sRows) (defScope sRows) .none kV9 dc9 pm9 an9 cd9 ct9), sl9⟩)
    (c9 : PySem.W.codeIn K cd9 "_law_rows" = true)
    (k9 : PySem.W.keepIn K (.ref f9) = true)
    (a10 : PySem.W.nsIn K mainGlobals "_law_all" = some (some (.ref f10)))
    (l10 : K.lookup f10 = some ⟨oc10, od10, .func (PySem.W.fnOf "_law_all" "_law_all" (defArgs sAll) (defBody sAll) (defScope sAll) .none kV10 dc10 pm10 an10 cd10 ct10), sl10⟩)
    (c10 : PySem.W.codeIn K cd10 "_law_all" = true)
    (k10 : PySem.W.keepIn K (.ref f10) = true)
    (a11 : PySem.W.nsIn K mainGlobals "_law_before" = some (some (.ref f11)))
    (l11 : K.lookup f11 = some ⟨oc11, od11, .func (PySem.W.fnOf "_law_before" "_law_before" (defArgs sBefore) (defBody sBefore) (defScope sBefore) .none kV11 dc11 pm11 an11 cd11 ct11), sl11⟩)
    (c11 : PySem.W.codeIn K cd11 "_law_before" = true)
    (k11 : PySem.W.keepIn K (.ref f11) = true)
    (a12 : PySem.W.nsIn K mainGlobals "_law_told" = some (some (.ref f12)))
    (l12 : K.lookup f12 = some ⟨oc12, od12, .func (PySem.W.fnOf "_law_told" "_law_told" (defArgs sTold) (defBody sTold) (defScope sTold) .none kV12 dc12 pm12 an12 cd12 ct12), sl12⟩)
    (c12 : PySem.W.codeIn K cd12 "_law_told" = true)
    (k12 : PySem.W.keepIn K (.ref f12) = true)
    (a13 : PySem.W.nsIn K mainGlobals "_law_great_right" = some (some (.ref f13)))
    (l13 : K.lookup f13 = some ⟨oc13, od13, .func (PySem.W.fnOf "_law_great_right" "_law_great_right" (defArgs sGreat) (defBody sGreat) (defScope sGreat) .none kV13 dc13 pm13 an13 cd13 ct13), sl13⟩)
    (c13 : PySem.W.codeIn K cd13 "_law_great_right" = true)
    (k13 : PySem.W.keepIn K (.ref f13) = true)
    (a14 : PySem.W.nsIn K mainGlobals "law" = some (some (.ref f14)))
    (l14 : K.lookup f14 = some ⟨oc14, od14, .func (PySem.W.fnOf "law" "law" (defArgs sLaw) (defBody sLaw) (defScope sLaw) .none kV14 dc14 pm14 an14 cd14 ct14), sl14⟩)
    (c14 : PySem.W.codeIn K cd14 "law" = true)
    (k14 : PySem.W.keepIn K (.ref f14) = true)
    (ac1 : PySem.W.nsIn K mainGlobals "FailoverError" = some (some (.ref CBase)))
    (bsp : PySem.W.specialIn K (.ref CBase) "__getattribute__" = some (some (.builtin "type.__getattribute__")))
    (bty : PySem.W.typeIn K (.ref CBase) = some (.type "type"))
    (brd : PySem.W.readsIn K CBase (.type "type") = true)
    (bfc : PySem.W.findCls K (.ref CBase) (.type "type") "__init__" = some (.val (.builtin "ValueError.__init__")))
    (bex : PySem.W.subIn K (.ref CBase) (.type "BaseException") = some true)
    (bhd : PySem.W.hasDictIn K CBase = true)
    (ac2 : PySem.W.nsIn K mainGlobals "NoNumber" = some (some (.ref CNoN)))
    (e2_xL : K.lookup CNoN = some (excClassObj nm2 q2 CNoN N2 bs2 [.ref CBase, .type "ValueError", .type "Exception", .type "BaseException", .type "object"] true sn2 sub2 ab2 col2 dd2 m0_2 m1_2 m2_2 m3_2 m5_2 "ValueError.__new__"))
    (e2_sa : PySem.W.findIn K (.ref CNoN) "__setattr__" = some (some (.builtin "object.__setattr__")))
    (e2_ga : PySem.W.findIn K (.ref CNoN) "__getattribute__" = some (some (.builtin "BaseException.__getattribute__")))
    (e2_gg : PySem.W.findIn K (.ref CNoN) "__getattr__" = some none)
    (e2_nb : PySem.W.findIn K (.ref CNoN) "value" = some none)
    (e2_ai : PySem.W.findIn K (.ref CNoN) "__init__" = some (some (.ref fi2)))
    (e2_ti : PySem.W.typeIn K (.ref fi2) = some (.type "function"))
    (e2_li : K.lookup fi2 = some ⟨oci2, odi2, .func (PySem.W.fnOf "__init__" "NoNumber.__init__" (defArgs sNoN) (defBody sNoN) (defScope sNoN) .none kVi2 dci2 pmi2 ani2 cdi2 cti2), sli2⟩)
    (e2_ci : PySem.W.codeIn K cdi2 "NoNumber.__init__" = true)
    (e2_ki : PySem.W.keepIn K (.ref fi2) = true)
    (e2_kC : PySem.W.keepIn K (.ref CNoN) = true)
    (e2_eC : PySem.W.subIn K (.ref CNoN) (.type "BaseException") = some true)
    (e2_tC : PySem.W.typeIn K (.ref CNoN) = some (.type "type"))
    (e2_hC : PySem.W.hasDictIn K CNoN = true)
    (e2_cC : PySem.W.findIn K (.ref CNoN) "__class__" = some (some (.builtin "object.__class__")))
    (e2_gC : PySem.W.specialIn K (.builtin "object.__class__") "__get__" = some (some (.builtin "getset_descriptor.__get__")))
    (e2_kk : PySem.W.takesIn K (.builtin "object.__class__") = some true)
    (e2_mC : PySem.W.mroIn K CNoN (.type "object") = some true)
    (e2_sB : PySem.W.subIn K (.ref CNoN) (.ref CBase) = some true)
    (ac3 : PySem.W.nsIn K mainGlobals "NotPossible" = some (some (.ref CNotP)))
    (e3_xL : K.lookup CNotP = some (excClassObj nm3 q3 CNotP N3 bs3 [.ref CBase, .type "ValueError", .type "Exception", .type "BaseException", .type "object"] true sn3 sub3 ab3 col3 dd3 m0_3 m1_3 m2_3 m3_3 m5_3 "ValueError.__new__"))
    (e3_sa : PySem.W.findIn K (.ref CNotP) "__setattr__" = some (some (.builtin "object.__setattr__")))
    (e3_ga : PySem.W.findIn K (.ref CNotP) "__getattribute__" = some (some (.builtin "BaseException.__getattribute__")))
    (e3_gg : PySem.W.findIn K (.ref CNotP) "__getattr__" = some none)
    (e3_nb : PySem.W.findIn K (.ref CNotP) "count" = some none)
    (e3_ai : PySem.W.findIn K (.ref CNotP) "__init__" = some (some (.ref fi3)))
    (e3_ti : PySem.W.typeIn K (.ref fi3) = some (.type "function"))
    (e3_li : K.lookup fi3 = some ⟨oci3, odi3, .func (PySem.W.fnOf "__init__" "NotPossible.__init__" (defArgs sNotP) (defBody sNotP) (defScope sNotP) .none kVi3 dci3 pmi3 ani3 cdi3 cti3), sli3⟩)
    (e3_ci : PySem.W.codeIn K cdi3 "NotPossible.__init__" = true)
    (e3_ki : PySem.W.keepIn K (.ref fi3) = true)
    (e3_kC : PySem.W.keepIn K (.ref CNotP) = true)
    (e3_eC : PySem.W.subIn K (.ref CNotP) (.type "BaseException") = some true)
    (e3_tC : PySem.W.typeIn K (.ref CNotP) = some (.type "type"))
    (e3_hC : PySem.W.hasDictIn K CNotP = true)
    (e3_cC : PySem.W.findIn K (.ref CNotP) "__class__" = some (some (.builtin "object.__class__")))
    (e3_gC : PySem.W.specialIn K (.builtin "object.__class__") "__get__" = some (some (.builtin "getset_descriptor.__get__")))
    (e3_kk : PySem.W.takesIn K (.builtin "object.__class__") = some true)
    (e3_mC : PySem.W.mroIn K CNotP (.type "object") = some true)
    (e3_sB : PySem.W.subIn K (.ref CNotP) (.ref CBase) = some true)
    (ac4 : PySem.W.nsIn K mainGlobals "TooMany" = some (some (.ref CTooM)))
    (e4_xL : K.lookup CTooM = some (excClassObj nm4 q4 CTooM N4 bs4 [.ref CBase, .type "ValueError", .type "Exception", .type "BaseException", .type "object"] true sn4 sub4 ab4 col4 dd4 m0_4 m1_4 m2_4 m3_4 m5_4 "ValueError.__new__"))
    (e4_sa : PySem.W.findIn K (.ref CTooM) "__setattr__" = some (some (.builtin "object.__setattr__")))
    (e4_ga : PySem.W.findIn K (.ref CTooM) "__getattribute__" = some (some (.builtin "BaseException.__getattribute__")))
    (e4_gg : PySem.W.findIn K (.ref CTooM) "__getattr__" = some none)
    (e4_nb : PySem.W.findIn K (.ref CTooM) "count" = some none)
    (e4_ai : PySem.W.findIn K (.ref CTooM) "__init__" = some (some (.ref fi4)))
    (e4_ti : PySem.W.typeIn K (.ref fi4) = some (.type "function"))
    (e4_li : K.lookup fi4 = some ⟨oci4, odi4, .func (PySem.W.fnOf "__init__" "TooMany.__init__" (defArgs sTooM) (defBody sTooM) (defScope sTooM) .none kVi4 dci4 pmi4 ani4 cdi4 cti4), sli4⟩)
    (e4_ci : PySem.W.codeIn K cdi4 "TooMany.__init__" = true)
    (e4_ki : PySem.W.keepIn K (.ref fi4) = true)
    (e4_kC : PySem.W.keepIn K (.ref CTooM) = true)
    (e4_eC : PySem.W.subIn K (.ref CTooM) (.type "BaseException") = some true)
    (e4_tC : PySem.W.typeIn K (.ref CTooM) = some (.type "type"))
    (e4_hC : PySem.W.hasDictIn K CTooM = true)
    (e4_cC : PySem.W.findIn K (.ref CTooM) "__class__" = some (some (.builtin "object.__class__")))
    (e4_gC : PySem.W.specialIn K (.builtin "object.__class__") "__get__" = some (some (.builtin "getset_descriptor.__get__")))
    (e4_kk : PySem.W.takesIn K (.builtin "object.__class__") = some true)
    (e4_mC : PySem.W.mroIn K CTooM (.type "object") = some true)
    (e4_sB : PySem.W.subIn K (.ref CTooM) (.ref CBase) = some true)
    (kt_kitNot : PySem.W.kitAny K (.ref CNoN) [.ref CNotP, .ref CTooM] = some false)
    (kt_kitVE : PySem.W.kitOne K (.ref CNoN) (.type "ValueError") = some true)
    (kt_kitMe : PySem.W.kitOne K (.ref CNoN) (.ref CNoN) = some true)
    (z1 : PySem.W.nsIn K mainGlobals "ValueError" = some none)
    (z2 : PySem.W.nsIn K mainGlobals "abs" = some none)
    (z3 : PySem.W.nsIn K mainGlobals "all" = some none)
    (z4 : PySem.W.nsIn K mainGlobals "bool" = some none)
    (z5 : PySem.W.nsIn K mainGlobals "enumerate" = some none)
    (z6 : PySem.W.nsIn K mainGlobals "int" = some none)
    (z7 : PySem.W.nsIn K mainGlobals "isinstance" = some none)
    (z8 : PySem.W.nsIn K mainGlobals "len" = some none)
    (z9 : PySem.W.nsIn K mainGlobals "list" = some none)
    (z10 : PySem.W.nsIn K mainGlobals "max" = some none)
    (z11 : PySem.W.nsIn K mainGlobals "min" = some none)
    (z12 : PySem.W.nsIn K mainGlobals "range" = some none)
    (z13 : PySem.W.nsIn K mainGlobals "repr" = some none)
    (z14 : PySem.W.nsIn K mainGlobals "sorted" = some none)
    (z15 : PySem.W.nsIn K mainGlobals "tuple" = some none)
    : ∃ fd : FuncData, (∀ (s : Shared) (v : Value), BindsTo s fd ⟨[v], []⟩ [("_law_script", v)]) ∧ ∀ base : Heap, K.In base → base.Ns mainGlobals mg → FnG l.prog w K mg base CX0 7 fa fd ["_law_script"] (spLaw K) := by
  have e := hfa.symm.trans (PySem.W.mg_of X G a14)
  cases e
  have F1 := fun_mk (st := sPlain) l1 c1 k1
  have b1 := F1.binds (ps := ["thing"]) fun _ _ _ _ _ _ us hl => match us, hl with | [_], _ => rfl
  have F2 := fun_mk (st := sBin) l2 c2 k2
  have b2 := F2.binds (ps := ["n", "k"]) fun _ _ _ _ _ _ us hl => match us, hl with | [_, _], _ => rfl
  have F3 := fun_mk (st := sChkN) l3 c3 k3
  have b3 := F3.binds (ps := ["value", "many"]) fun _ _ _ _ _ _ us hl => match us, hl with | [_, _], _ => rfl
  have F4 := fun_mk (st := sSetAt) l4 c4 k4
  have b4 := F4.binds (ps := ["n", "size", "number"]) fun _ _ _ _ _ _ us hl => match us, hl with | [_, _, _], _ => rfl
  have F5 := fun_mk (st := sSetNum) l5 c5 k5
  have b5 := F5.binds (ps := ["n", "members"]) fun _ _ _ _ _ _ us hl => match us, hl with | [_, _], _ => rfl
  have F6 := fun_mk (st := sPot) l6 c6 k6
  have b6 := F6.binds (ps := ["_law_script", "_law_spot"]) fun _ _ _ _ _ _ us hl => match us, hl with | [_, _], _ => rfl
  have F7 := fun_mk (st := sTake) l7 c7 k7
  have b7 := F7.binds (ps := ["_law_pot_here", "_law_upto"]) fun _ _ _ _ _ _ us hl => match us, hl with | [_, _], _ => rfl
  have F8 := fun_mk (st := sOf) l8 c8 k8
  have b8 := F8.binds (ps := ["_law_pot_here", "_law_some"]) fun _ _ _ _ _ _ us hl => match us, hl with | [_, _], _ => rfl
  have F9 := fun_mk (st := sRows) l9 c9 k9
  have b9 := F9.binds (ps := []) fun _ _ _ _ _ _ us hl => match us, hl with | [], _ => rfl
  have F10 := fun_mk (st := sAll) l10 c10 k10
  have b10 := F10.binds (ps := ["_law_wide", "_law_few"]) fun _ _ _ _ _ _ us hl => match us, hl with | [_, _], _ => rfl
  have F11 := fun_mk (st := sBefore) l11 c11 k11
  have b11 := F11.binds (ps := ["_law_rows_here", "_law_wide", "_law_some"]) fun _ _ _ _ _ _ us hl => match us, hl with | [_, _, _], _ => rfl
  have F12 := fun_mk (st := sTold) l12 c12 k12
  have b12 := F12.binds (ps := ["_law_wide", "_law_few", "_law_value"]) fun _ _ _ _ _ _ us hl => match us, hl with | [_, _, _], _ => rfl
  have F13 := fun_mk (st := sGreat) l13 c13 k13
  have b13 := F13.binds (ps := ["_law_pot_here", "_law_rows_here"]) fun _ _ _ _ _ _ us hl => match us, hl with | [_, _], _ => rfl
  have F14 := fun_mk (st := sLaw) l14 c14 k14
  have kb1 := Fun_kb (ps := ["n", "members"]) (ks := ["members", "n"]) [1, 0] 2 F5 (by decide) fun _ _ _ _ _ _ ws hl => match ws, hl with | [_, _], _ => rfl
  have kb2 := Fun_kb (ps := ["n", "size", "number"]) (ks := ["number", "size", "n"]) [2, 1, 0] 3 F4 (by decide) fun _ _ _ _ _ _ ws hl => match ws, hl with | [_, _, _], _ => rfl
  have FI2 := fun_mk (st := sNoN) e2_li e2_ci e2_ki
  have bI2 := FI2.binds (ps := ["self", "value"]) fun _ _ _ _ _ _ us hl => match us, hl with | [_, _], _ => rfl
  have ER2 : ErrT K CNoN fi2 "value" CBase := ⟨⟨⟨nm2, q2, N2, bs2, _, sn2, sub2, ab2, col2, dd2, m0_2, m1_2, m2_2, m3_2, m5_2, e2_xL, by first | rfl | decide +kernel⟩, e2_sa, e2_eC, e2_tC, e2_kC⟩, ⟨e2_ga, e2_gg, e2_eC, e2_hC⟩, ⟨e2_ga, e2_gg, e2_eC, e2_hC, e2_cC, e2_gC, e2_kk, e2_mC⟩, e2_nb, e2_ai, e2_ti, PySem.W.exm_ref bex bhd bty e2_sB⟩
  have FI3 := fun_mk (st := sNotP) e3_li e3_ci e3_ki
  have bI3 := FI3.binds (ps := ["self", "count"]) fun _ _ _ _ _ _ us hl => match us, hl with | [_, _], _ => rfl
  have ER3 : ErrT K CNotP fi3 "count" CBase := ⟨⟨⟨nm3, q3, N3, bs3, _, sn3, sub3, ab3, col3, dd3, m0_3, m1_3, m2_3, m3_3, m5_3, e3_xL, by first | rfl | decide +kernel⟩, e3_sa, e3_eC, e3_tC, e3_kC⟩, ⟨e3_ga, e3_gg, e3_eC, e3_hC⟩, ⟨e3_ga, e3_gg, e3_eC, e3_hC, e3_cC, e3_gC, e3_kk, e3_mC⟩, e3_nb, e3_ai, e3_ti, PySem.W.exm_ref bex bhd bty e3_sB⟩
  have FI4 := fun_mk (st := sTooM) e4_li e4_ci e4_ki
  have bI4 := FI4.binds (ps := ["self", "count"]) fun _ _ _ _ _ _ us hl => match us, hl with | [_, _], _ => rfl
  have ER4 : ErrT K CTooM fi4 "count" CBase := ⟨⟨⟨nm4, q4, N4, bs4, _, sn4, sub4, ab4, col4, dd4, m0_4, m1_4, m2_4, m3_4, m5_4, e4_xL, by first | rfl | decide +kernel⟩, e4_sa, e4_eC, e4_tC, e4_kC⟩, ⟨e4_ga, e4_gg, e4_eC, e4_hC⟩, ⟨e4_ga, e4_gg, e4_eC, e4_hC, e4_cC, e4_gC, e4_kk, e4_mC⟩, e4_nb, e4_ai, e4_ti, PySem.W.exm_ref bex bhd bty e4_sB⟩
  have T : Txt K mg := ⟨f1, _, F1, b1, PySem.W.mg_of X G a1, f2, _, F2, b2, PySem.W.mg_of X G a2, f3, _, F3, b3, PySem.W.mg_of X G a3, f4, _, F4, b4, PySem.W.mg_of X G a4, f5, _, F5, b5, PySem.W.mg_of X G a5, f6, _, F6, b6, PySem.W.mg_of X G a6, f7, _, F7, b7, PySem.W.mg_of X G a7, f8, _, F8, b8, PySem.W.mg_of X G a8, f9, _, F9, b9, PySem.W.mg_of X G a9, f10, _, F10, b10, PySem.W.mg_of X G a10, f11, _, F11, b11, PySem.W.mg_of X G a11, f12, _, F12, b12, PySem.W.mg_of X G a12, f13, _, F13, b13, PySem.W.mg_of X G a13, kb1, kb2, CBase, PySem.W.mg_of X G ac1, ⟨bsp, bty, brd, bfc⟩, CNoN, PySem.W.mg_of X G ac2, fi2, _, FI2, bI2, ER2, CNotP, PySem.W.mg_of X G ac3, fi3, _, FI3, bI3, ER3, CTooM, PySem.W.mg_of X G ac4, fi4, _, FI4, bI4, ER4, kt_kitNot, kt_kitVE, kt_kitMe, PySem.W.mg_none_of X G z1, PySem.W.mg_none_of X G z2, PySem.W.mg_none_of X G z3, PySem.W.mg_none_of X G z4, PySem.W.mg_none_of X G z5, PySem.W.mg_none_of X G z6, PySem.W.mg_none_of X G z7, PySem.W.mg_none_of X G z8, PySem.W.mg_none_of X G z9, PySem.W.mg_none_of X G z10, PySem.W.mg_none_of X G z11, PySem.W.mg_none_of X G z12, PySem.W.mg_none_of X G z13, PySem.W.mg_none_of X G z14, PySem.W.mg_none_of X G z15⟩
  exact ⟨PySem.W.fnOf "law" "law" (defArgs sLaw) (defBody sLaw) (defScope sLaw) .none kV14 dc14 pm14 an14 cd14 ct14, fun s v => .of_eq rfl, fun base _ _ => ok_law F14 T⟩
end Ef
open PySem PySem.W PyProof.Rows
set_option maxRecDepth 100000 in
set_option maxHeartbeats 0 in
theorem PySem.Challenge.cw_evenfailover_k05_sets_by_number_holds : PySem.Challenge.rw_evenfailover_k05_sets_by_number.Holds := by
  w_on; o_law; k_head; (case hw => w_witness2)
  k_fill
  refine Ef.lawG (l := PySem.Challenge.rw_evenfailover_k05_sets_by_number) (n := 63) (k := 7) (x := "_law_script") (sp := fun w => Ef.spLaw _) rfl (by decide) rfl ⟨rfl, by decide, by decide⟩ (fun w h Y => PySem.W.kIn_of Y) ?F (fun _ _ a ns hl _ hS => ⟨a, ns, rfl, hS, hl, fun _ => rfl⟩)
  case F =>
    intro w mg fa h KX G hmg
    refine' Ef.all_mk KX G hmg ?a1 ?l1 ?c1 ?k1 ?a2 ?l2 ?c2 ?k2 ?a3 ?l3 ?c3 ?k3 ?a4 ?l4 ?c4 ?k4 ?a5 ?l5 ?c5 ?k5 ?a6 ?l6 ?c6 ?k6 ?a7 ?l7 ?c7 ?k7 ?a8 ?l8 ?c8 ?k8 ?a9 ?l9 ?c9 ?k9 ?a10 ?l10 ?c10 ?k10 ?a11 ?l11 ?c11 ?k11 ?a12 ?l12 ?c12 ?k12 ?a13 ?l13 ?c13 ?k13 ?a14 ?l14 ?c14 ?k14 ?ac1 ?bsp ?bty ?brd ?bfc ?bex ?bhd ?ac2 ?e2_xL ?e2_sa ?e2_ga ?e2_gg ?e2_nb ?e2_ai ?e2_ti ?e2_li ?e2_ci ?e2_ki ?e2_kC ?e2_eC ?e2_tC ?e2_hC ?e2_cC ?e2_gC ?e2_kk ?e2_mC ?e2_sB ?ac3 ?e3_xL ?e3_sa ?e3_ga ?e3_gg ?e3_nb ?e3_ai ?e3_ti ?e3_li ?e3_ci ?e3_ki ?e3_kC ?e3_eC ?e3_tC ?e3_hC ?e3_cC ?e3_gC ?e3_kk ?e3_mC ?e3_sB ?ac4 ?e4_xL ?e4_sa ?e4_ga ?e4_gg ?e4_nb ?e4_ai ?e4_ti ?e4_li ?e4_ci ?e4_ki ?e4_kC ?e4_eC ?e4_tC ?e4_hC ?e4_cC ?e4_gC ?e4_kk ?e4_mC ?e4_sB ?kt_kitNot ?kt_kitVE ?kt_kitMe ?z1 ?z2 ?z3 ?z4 ?z5 ?z6 ?z7 ?z8 ?z9 ?z10 ?z11 ?z12 ?z13 ?z14 ?z15
    (case a1 => k_is)
    (case l1 => k_is)
    (case c1 => k_is)
    (case k1 => k_is)
    (case a2 => k_is)
    (case l2 => k_is)
    (case c2 => k_is)
    (case k2 => k_is)
    (case a3 => k_is)
    (case l3 => k_is)
    (case c3 => k_is)
    (case k3 => k_is)
    (case a4 => k_is)
    (case l4 => k_is)
    (case c4 => k_is)
    (case k4 => k_is)
    (case a5 => k_is)
    (case l5 => k_is)
    (case c5 => k_is)
    (case k5 => k_is)
    (case a6 => k_is)
    (case l6 => k_is)
    (case c6 => k_is)
    (case k6 => k_is)
    (case a7 => k_is)
    (case l7 => k_is)
    (case c7 => k_is)
    (case k7 => k_is)
    (case a8 => k_is)
    (case l8 => k_is)
    (case c8 => k_is)
    (case k8 => k_is)
    (case a9 => k_is)
    (case l9 => k_is)
    (case c9 => k_is)
    (case k9 => k_is)
    (case a10 => k_is)
    (case l10 => k_is)
    (case c10 => k_is)
    (case k10 => k_is)
    (case a11 => k_is)
    (case l11 => k_is)
    (case c11 => k_is)
    (case k11 => k_is)
    (case a12 => k_is)
    (case l12 => k_is)
    (case c12 => k_is)
    (case k12 => k_is)
    (case a13 => k_is)
    (case l13 => k_is)
    (case c13 => k_is)
    (case k13 => k_is)
    (case a14 => k_is)
    (case l14 => k_is)
    (case c14 => k_is)
    (case k14 => k_is)
    (case ac1 => k_is)
    (case bsp => k_is)
    (case bty => k_is)
    (case brd => k_is)
    (case bfc => k_is)
    (case bex => k_is)
    (case bhd => k_is)
    (case ac2 => k_is)
    (case e2_xL => k_is)
    (case e2_sa => k_is)
    (case e2_ga => k_is)
    (case e2_gg => k_is)
    (case e2_nb => k_is)
    (case e2_ai => k_is)
    (case e2_ti => k_is)
    (case e2_li => k_is)
    (case e2_ci => k_is)
    (case e2_ki => k_is)
    (case e2_kC => k_is)
    (case e2_eC => k_is)
    (case e2_tC => k_is)
    (case e2_hC => k_is)
    (case e2_cC => k_is)
    (case e2_gC => k_is)
    (case e2_kk => k_is)
    (case e2_mC => k_is)
    (case e2_sB => first | k_is | rfl)
    (case ac3 => k_is)
    (case e3_xL => k_is)
    (case e3_sa => k_is)
    (case e3_ga => k_is)
    (case e3_gg => k_is)
    (case e3_nb => k_is)
    (case e3_ai => k_is)
    (case e3_ti => k_is)
    (case e3_li => k_is)
    (case e3_ci => k_is)
    (case e3_ki => k_is)
    (case e3_kC => k_is)
    (case e3_eC => k_is)
    (case e3_tC => k_is)
    (case e3_hC => k_is)
    (case e3_cC => k_is)
    (case e3_gC => k_is)
    (case e3_kk => k_is)
    (case e3_mC => k_is)
    (case e3_sB => first | k_is | rfl)
    (case ac4 => k_is)
    (case e4_xL => k_is)
    (case e4_sa => k_is)
    (case e4_ga => k_is)
    (case e4_gg => k_is)
    (case e4_nb => k_is)
    (case e4_ai => k_is)
    (case e4_ti => k_is)
    (case e4_li => k_is)
    (case e4_ci => k_is)
    (case e4_ki => k_is)
    (case e4_kC => k_is)
    (case e4_eC => k_is)
    (case e4_tC => k_is)
    (case e4_hC => k_is)
    (case e4_cC => k_is)
    (case e4_gC => k_is)
    (case e4_kk => k_is)
    (case e4_mC => k_is)
    (case e4_sB => first | k_is | rfl)
    (case kt_kitNot => first | k_is | rfl)
    (case kt_kitVE => first | k_is | rfl)
    (case kt_kitMe => first | k_is | rfl)
    (case z1 => k_is)
    (case z2 => k_is)
    (case z3 => k_is)
    (case z4 => k_is)
    (case z5 => k_is)
    (case z6 => k_is)
    (case z7 => k_is)
    (case z8 => k_is)
    (case z9 => k_is)
    (case z10 => k_is)
    (case z11 => k_is)
    (case z12 => k_is)
    (case z13 => k_is)
    (case z14 => k_is)
    (case z15 => k_is)

import PyProof.Rows.All
import Wide.All
import OpenK.AllK
import Wide.FinOn
import HandS.ForMost
import HandS.RaiseMore
import HandS.Strs
import HandS.SetFor
import HandS.Conv
import HandS.Wide
import HandS.IsInst
import HandS.Codes
import HandS.TupAny
import HandS.ForExc
import HandS.ExcInit
import HandS.ExcField
import HandS.ExcIs
import HandS.ExcOwn
import HandS.TupSets
import HandS.Walk
import HandS.RevRange
import HandS.Rev
import HandS.Style
import HandS.DictComp
import KE.GoesMore
import HandS.Deep
import KE.SortData
import HandS.Comp
import KE.KeyNested
import HandS.DictSubView
import HandS.TupLen
import KE.KDictSum
import KE.KDictWalk
import PySem.Challenge.RW_evenfailover_k08_places_and_numbers
set_option Elab.async false
set_option linter.all false
set_option maxRecDepth 100000
set_option maxHeartbeats 4000000
namespace Ef
/-- Pascal's triangle -/
def C : Nat → Nat → Nat
  | _, 0 => 1
  | 0, _ + 1 => 0
  | n + 1, k + 1 => C n k + C n (k + 1)
theorem C_zero (n : Nat) : C n 0 = 1 := by cases n <;> rfl
theorem C_zs (k : Nat) : C 0 (k + 1) = 0 := rfl
theorem C_ss (n k : Nat) : C (n + 1) (k + 1) = C n k + C n (k + 1) := rfl
theorem C_big : ∀ (n k : Nat), n < k → C n k = 0
  | 0, k + 1, _ => rfl
  | n + 1, k + 1, h => by
    rw [C_ss, C_big n k (by omega), C_big n (k + 1) (by omega)]
theorem C_self : ∀ n : Nat, C n n = 1
  | 0 => rfl
  | n + 1 => by rw [C_ss, C_self n, C_big n (n + 1) (by omega)]
theorem C_absorb : ∀ (n k : Nat), C (n + 1) (k + 1) * (k + 1) = (n + 1) * C n k
  | 0, 0 => rfl
  | 0, k + 1 => by
    rw [C_ss, C_zs, C_zs]; simp
  | n + 1, 0 => by
    have h := C_absorb n 0
    rw [C_zero] at h
    rw [C_ss, C_zero]
    omega
  | n + 1, j + 1 => by
    have h1 := C_absorb n j
    have h2 := C_absorb n (j + 1)
    have e : C (n + 1) (j + 1) = C n j + C n (j + 1) := C_ss n j
    rw [C_ss (n + 1) (j + 1)]
    have a1 : (C (n + 1) (j + 1) + C (n + 1) (j + 1 + 1)) * (j + 1 + 1) = C (n + 1) (j + 1) * (j + 1) + C (n + 1) (j + 1) + C (n + 1) (j + 1 + 1) * (j + 1 + 1) := by
      rw [Nat.add_mul, Nat.mul_succ (C (n + 1) (j + 1)) (j + 1)]
    rw [a1, h1, h2]
    have a2 : (n + 1 + 1) * C (n + 1) (j + 1) = (n + 1) * C (n + 1) (j + 1) + C (n + 1) (j + 1) := Nat.succ_mul _ _
    rw [a2]
    have a3 : (n + 1) * C (n + 1) (j + 1) = (n + 1) * C n j + (n + 1) * C n (j + 1) := by rw [e, Nat.mul_add]
    rw [a3]
    omega
theorem C_step (n k : Nat) (h : k ≤ n) : C n (k + 1) * (k + 1) = C n k * (n - k) := by
  have h1 := C_absorb n k
  rw [C_ss, Nat.add_mul] at h1
  have h2 : (n + 1) * C n k = C n k * (k + 1) + C n k * (n - k) := by
    rw [← Nat.mul_add, Nat.mul_comm]
    congr 1
    omega
  omega
theorem C_symm : ∀ (n k : Nat), k ≤ n → C n k = C n (n - k)
  | n, 0, _ => by rw [C_zero, Nat.sub_zero, C_self]
  | n + 1, k + 1, h => by
    by_cases e : k = n
    · subst e
      rw [C_self, Nat.sub_self, C_zero]
    · have e1 : n + 1 - (k + 1) = (n - (k + 1)) + 1 := by omega
      rw [e1, C_ss, C_ss, ← C_symm n (k + 1) (by omega), show n - (k + 1) + 1 = n - k by omega, ← C_symm n k (by omega), Nat.add_comm]
theorem C_le : ∀ (n k : Nat), C n k ≤ 2 ^ n
  | n, 0 => by rw [C_zero]; exact Nat.one_le_two_pow
  | 0, k + 1 => by rw [C_zs]; exact Nat.zero_le _
  | n + 1, k + 1 => by
    have a := C_le n k
    have b := C_le n (k + 1)
    rw [C_ss, Nat.pow_succ]
    omega
theorem C_pos : ∀ (n k : Nat), k ≤ n → 0 < C n k
  | n, 0, _ => by rw [C_zero]; decide
  | n + 1, k + 1, h => by
    rw [C_ss]
    have := C_pos n k (by omega)
    omega
theorem C_min (n k : Nat) (h : k ≤ n) : C n (min k (n - k)) = C n k := by
  by_cases e : k ≤ n - k
  · rw [Nat.min_eq_left e]
  · rw [Nat.min_eq_right (by omega), ← C_symm n k h]
theorem C_60 (n k : Nat) (h : n ≤ 60) : C n k ≤ 1152921504606846976 := Nat.le_trans (C_le n k) (Nat.le_trans (Nat.pow_le_pow_right (by decide) h) (by decide))
/-- what the program's binomial answers -/
def binZ (n k : Int) : Int := if k < 0 ∨ n < k then 0 else (C n.toNat k.toNat : Int)
theorem binZ_nat (n k : Nat) : binZ n k = (C n k : Int) := by
  unfold binZ
  by_cases h : n < k
  · rw [if_pos (by omega), C_big n k h]; rfl
  · rw [if_neg (by omega)]; simp
/-- one step of its product -/
theorem C_div (n s : Nat) (h : s < n) : ((C n s : Int) * ((n : Int) + 1 - (1 + (s : Int)))) / (1 + (s : Int)) = (C n (s + 1) : Int) := by
  have e : (C n s : Int) * ((n : Int) + 1 - (1 + (s : Int))) = (C n (s + 1) : Int) * (1 + (s : Int)) := by
    have h1 := C_step n s (by omega)
    have h2 : ((n : Int) + 1 - (1 + (s : Int))) = ((n - s : Nat) : Int) := by omega
    have h3 : (1 + (s : Int)) = ((s + 1 : Nat) : Int) := by omega
    rw [h2, h3, ← Int.natCast_mul, ← Int.natCast_mul, h1]
  rw [e]
  exact Int.mul_ediv_cancel _ (by omega)
end Ef
namespace Ef
/-! ### the least numbers of lists -/
def stepL (a b : Nat) : Nat := a / Nat.gcd a b * b
def leastL (n : Nat) : Nat → Nat
  | 0 => 1
  | d + 1 => stepL (leastL n d) (n * C (n - 1) d)
theorem stepL_pos {a b : Nat} (ha : 0 < a) (hb : 0 < b) : 0 < stepL a b := by
  unfold stepL
  have h1 : Nat.gcd a b ≤ a := Nat.gcd_le_left b ha
  have h2 : 0 < Nat.gcd a b := Nat.gcd_pos_of_pos_left b ha
  exact Nat.mul_pos (Nat.div_pos h1 h2) hb
theorem edge_pos {n d : Nat} (h : d < n) : 0 < n * C (n - 1) d := Nat.mul_pos (by omega) (C_pos _ _ (by omega))
theorem leastL_pos {n : Nat} : ∀ {d : Nat}, d ≤ n → 0 < leastL n d
  | 0, _ => Nat.one_pos
  | d + 1, h => stepL_pos (leastL_pos (by omega)) (edge_pos (by omega))
theorem C_adj : ∀ (n k : Nat), C n k + C n (k + 1) ≤ 2 ^ n
  | 0, 0 => by decide
  | 0, k + 1 => by
    rw [C_zs, C_zs]
    decide
  | n + 1, 0 => by
    have h := C_adj n 0
    have h1 : 1 ≤ 2 ^ n := Nat.one_le_two_pow
    rw [C_zero] at h
    rw [C_ss, C_zero, C_zero, Nat.pow_succ]
    omega
  | n + 1, j + 1 => by
    have h := C_adj n j
    have h2 := C_adj n (j + 1)
    rw [C_ss, C_ss, Nat.pow_succ]
    omega
theorem C_half (n k : Nat) (h : 1 ≤ n) : C n k ≤ 2 ^ (n - 1) := by
  obtain ⟨m, rfl⟩ : ∃ m, n = m + 1 := ⟨n - 1, by omega⟩
  cases k with
  | zero =>
    rw [C_zero]
    exact Nat.one_le_two_pow
  | succ k => exact C_adj m k
theorem edge_lt {n d : Nat} (h : n ≤ 60) : n * C (n - 1) d < 18446744073709551616 := by
  by_cases h1 : n ≤ 1
  · have e : n - 1 = 0 := by omega
    have h2 : C (n - 1) d ≤ 2 ^ 0 := by rw [e]; exact C_le 0 d
    exact Nat.lt_of_le_of_lt (Nat.mul_le_mul h1 h2) (by decide)
  · have h2 : C (n - 1) d ≤ 2 ^ 58 := Nat.le_trans (C_half (n - 1) d (by omega)) (Nat.pow_le_pow_right (by decide) (by omega))
    exact Nat.lt_of_le_of_lt (Nat.mul_le_mul h h2) (by decide)
/-! rows of the triangle, reckoned one from the other -/
def nextRow : List Nat → List Nat := fun r => 1 :: List.zipWith (· + ·) r r.tail
def isRow (n : Nat) (r : List Nat) : Prop := ∀ k, k ≤ 60 → r[k]? = some (C n k)
theorem nextRow_is {n : Nat} {r : List Nat} (h : isRow n r) : ∀ k, k ≤ 60 → (nextRow r)[k]? = some (C (n + 1) k)
  | 0, _ => by
    rw [C_zero]
    rfl
  | k + 1, hk => by
    have h1 := h k (by omega)
    have h2 := h (k + 1) hk
    unfold nextRow
    rw [List.getElem?_cons_succ, List.getElem?_zipWith, h1, List.getElem?_tail, h2]
    rfl
def row0 : List Nat := 1 :: List.replicate 60 0
theorem row0_is : isRow 0 row0 := fun k hk => by
  cases k with
  | zero => rfl
  | succ k =>
    unfold row0
    rw [List.getElem?_cons_succ, List.getElem?_replicate, if_pos (by omega)]
    rfl
/-- P holds along the chain of least numbers: f of each -/
def chainOk (n : Nat) (f : Nat → Nat → Bool) : Nat → Nat → Nat → List Nat → Bool
  | 0, d, a, _ => f d a
  | m + 1, d, a, c :: r => f d a && chainOk n f m (d + 1) (stepL a (n * c)) r
  | _ + 1, _, _, [] => false
theorem chain_all {n : Nat} {f : Nat → Nat → Bool} {row : List Nat} (hr : isRow (n - 1) row) (hn : n ≤ 60) : ∀ (m d : Nat), d + m = n → chainOk n f m d (leastL n d) (row.drop d) = true → ∀ e, d ≤ e → e ≤ n → f e (leastL n e) = true
  | 0, d, h, ok, e, h1, h2 => by
    have e1 : e = d := by omega
    subst e1
    exact ok
  | m + 1, d, h, ok, e, h1, h2 => by
    have hd := hr d (by omega)
    have hlt : d < row.length := (List.getElem?_eq_some_iff.mp hd).1
    have hdr : row.drop d = C (n - 1) d :: row.drop (d + 1) := by
      rw [List.drop_eq_getElem_cons hlt]
      congr 1
      rw [List.getElem?_eq_getElem hlt] at hd
      exact Option.some.inj hd
    rw [hdr] at ok
    have ok2 : (f d (leastL n d) && chainOk n f m (d + 1) (leastL n (d + 1)) (row.drop (d + 1))) = true := ok
    rw [Bool.and_eq_true] at ok2
    by_cases c : e = d
    · rw [c]
      exact ok2.1
    · exact chain_all hr hn m (d + 1) (by omega) ok2.2 e (by omega) h2
def rowsOk (f : Nat → Nat → Nat → Bool) : Nat → Nat → List Nat → Bool
  | 0, _, _ => true
  | m + 1, n, row => chainOk n (f n) n 0 1 row && rowsOk f m (n + 1) (nextRow row)
theorem rows_all {f : Nat → Nat → Nat → Bool} : ∀ (m n : Nat) (row : List Nat), isRow (n - 1) row → 1 ≤ n → rowsOk f m n row = true → ∀ k, n ≤ k → k < n + m → k ≤ 60 → ∀ d, d ≤ k → f k d (leastL k d) = true
  | 0, _, _, _, _, _, k, h1, h2, _, _, _ => by omega
  | m + 1, n, row, hr, h0, ok, k, h1, h2, h6, d, hd => by
    have ok2 : (chainOk n (f n) n 0 1 row && rowsOk f m (n + 1) (nextRow row)) = true := ok
    rw [Bool.and_eq_true] at ok2
    by_cases c : k = n
    · subst c
      exact chain_all hr h6 k 0 (by omega) ok2.1 d (by omega) hd
    · have hr2 : isRow (n + 1 - 1) (nextRow row) := fun j hj => by
        have e : n + 1 - 1 = (n - 1) + 1 := by omega
        rw [e]
        exact nextRow_is hr j hj
      exact rows_all m (n + 1) (nextRow row) hr2 (by omega) ok2.2 k (by omega) (by omega) h6 d hd
theorem small_ok : rowsOk (fun _ _ a => Nat.blt a (2 ^ 100)) 60 1 row0 = true := by decide +kernel
theorem leastL_lt {n d : Nat} (h1 : 1 ≤ n) (h6 : n ≤ 60) (hd : d ≤ n) : leastL n d < 2 ^ 100 := by
  have h := rows_all 60 1 row0 row0_is (by decide) small_ok n h1 (by omega) h6 d hd
  have h2 : Nat.blt (leastL n d) (2 ^ 100) = true := h
  rw [Nat.blt_eq] at h2
  exact h2
end Ef
namespace Ef
/-! ### the standard table -/
theorem stepL_left (a b : Nat) (ha : 0 < a) : a ∣ stepL a b := by
  unfold stepL
  have h1 : Nat.gcd a b ∣ a := Nat.gcd_dvd_left a b
  have h2 : Nat.gcd a b ∣ b := Nat.gcd_dvd_right a b
  refine ⟨b / Nat.gcd a b, ?_⟩
  obtain ⟨x, hx⟩ := h1
  obtain ⟨y, hy⟩ := h2
  have g0 : 0 < Nat.gcd a b := Nat.gcd_pos_of_pos_left b ha
  generalize Nat.gcd a b = g at hx hy g0
  subst hx hy
  rw [Nat.mul_div_cancel_left _ g0, Nat.mul_div_cancel_left _ g0, Nat.mul_comm g x, Nat.mul_assoc]
theorem stepL_right (a b : Nat) : b ∣ stepL a b := ⟨a / Nat.gcd a b, Nat.mul_comm _ _⟩
theorem leastL_dvd {n : Nat} : ∀ {d : Nat}, d ≤ n → ∀ b, b < d → n * C (n - 1) b ∣ leastL n d
  | 0, _, b, h => by omega
  | d + 1, hd, b, h => by
    by_cases e : b = d
    · subst e
      exact stepL_right _ _
    · exact Nat.dvd_trans (leastL_dvd (by omega) b (by omega)) (stepL_left _ _ (leastL_pos (by omega)))
/-- width of a block at a level -/
def wd (n c s : Nat) : Nat := c / (n * C (n - 1) s)
theorem wd_eq {n c s : Nat} (h : n * C (n - 1) s ∣ c) : wd n c s * (n * C (n - 1) s) = c := Nat.div_mul_cancel h
theorem wd_pos {n c s : Nat} (h : n * C (n - 1) s ∣ c) (hc : 0 < c) : 0 < wd n c s := by
  have e := wd_eq h
  cases z : wd n c s with
  | zero =>
    rw [z, Nat.zero_mul] at e
    omega
  | succ k => omega
theorem wd_step {n c b : Nat} (h1 : n * C (n - 1) b ∣ c) (h2 : n * C (n - 1) (b + 1) ∣ c) (hb : b + 1 < n) : wd n c b * (b + 1) = wd n c (b + 1) * (n - (b + 1)) := by
  have e1 := wd_eq h1
  have e2 := wd_eq h2
  have s := C_step (n - 1) b (by omega)
  have p : 0 < n * C (n - 1) b := edge_pos (by omega)
  have x1 : wd n c b * (b + 1) * (n * C (n - 1) b) = c * (b + 1) := by
    rw [Nat.mul_right_comm, e1]
  have x2 : wd n c (b + 1) * (n - (b + 1)) * (n * C (n - 1) b) = c * (b + 1) := by
    have y : wd n c (b + 1) * (n * C (n - 1) (b + 1)) * (b + 1) = c * (b + 1) := by rw [e2]
    rw [← y, Nat.mul_assoc, Nat.mul_assoc (wd n c (b + 1)), Nat.mul_assoc n, s, show n - 1 - b = n - (b + 1) by omega]
    congr 1
    rw [Nat.mul_comm (n - (b + 1)), Nat.mul_assoc]
  exact Nat.eq_of_mul_eq_mul_right p (x1.trans x2.symm)
theorem wd_zero {n c : Nat} (h : n * C (n - 1) 0 ∣ c) : wd n c 0 * n = c := by
  have e := wd_eq h
  rw [C_zero, Nat.mul_one] at e
  exact e
theorem wd_le (n c s : Nat) : wd n c s ≤ c := Nat.div_le_self _ _
/-- what 'follow' takes and what it leaves -/
def fol (n c : Nat) : List Nat → List Nat → Nat → List Nat × Nat
  | [], _, r => ([], r)
  | s :: ss, L, r => (L.getD (r / wd n c s) 0 :: (fol n c ss (L.eraseIdx (r / wd n c s)) (wd n c s * (L.getD (r / wd n c s) 0 - r / wd n c s) + r % wd n c s)).1,
      (fol n c ss (L.eraseIdx (r / wd n c s)) (wd n c s * (L.getD (r / wd n c s) 0 - r / wd n c s) + r % wd n c s)).2)
def FolOk (n c : Nat) : List Nat → List Nat → Nat → Prop
  | [], _, _ => True
  | s :: ss, L, r => 0 < wd n c s ∧ r / wd n c s < L.length ∧ r / wd n c s ≤ L.getD (r / wd n c s) 0 ∧
      FolOk n c ss (L.eraseIdx (r / wd n c s)) (wd n c s * (L.getD (r / wd n c s) 0 - r / wd n c s) + r % wd n c s)
theorem fol_cons (n c s : Nat) (ss L : List Nat) (r : Nat) : fol n c (s :: ss) L r = (L.getD (r / wd n c s) 0 :: (fol n c ss (L.eraseIdx (r / wd n c s)) (wd n c s * (L.getD (r / wd n c s) 0 - r / wd n c s) + r % wd n c s)).1, (fol n c ss (L.eraseIdx (r / wd n c s)) (wd n c s * (L.getD (r / wd n c s) 0 - r / wd n c s) + r % wd n c s)).2) := rfl
theorem fol_len (n c : Nat) : ∀ ss L r, (fol n c ss L r).1.length = ss.length
  | [], _, _ => rfl
  | s :: ss, L, r => congrArg (· + 1) (fol_len n c ss _ _)
/-- ascending -/
abbrev Asc (L : List Nat) : Prop := L.Pairwise (· < ·)
theorem getD_of {L : List Nat} {i : Nat} (h : i < L.length) : L[i]? = some (L.getD i 0) := by
  rw [List.getD_eq_getElem?_getD, List.getElem?_eq_getElem h]
  rfl
/-- an ascending list counted from lo -/
theorem asc_from : ∀ {L : List Nat} {lo : Nat}, Asc L → (∀ x ∈ L, lo ≤ x) → ∀ {i x : Nat}, L[i]? = some x → lo + i ≤ x
  | [], _, _, _, _, _, h => by cases h
  | y :: L, lo, a, hl, 0, x, h => by
    obtain rfl : y = x := Option.some.inj h
    exact hl y List.mem_cons_self
  | y :: L, lo, a, hl, i + 1, x, h => by
    have h1 : L[i]? = some x := h
    have hy := hl y List.mem_cons_self
    have h2 := asc_from (L := L) (lo := lo + 1) (List.pairwise_cons.mp a).2 (fun z hz => by
      have := (List.pairwise_cons.mp a).1 z hz
      omega) h1
    omega
theorem asc_ge {L : List Nat} (a : Asc L) {i x : Nat} (h : L[i]? = some x) : i ≤ x := by
  have := asc_from a (lo := 0) (fun _ _ => Nat.zero_le _) h
  omega
theorem asc_le : ∀ {L : List Nat} {n : Nat}, Asc L → (∀ x ∈ L, x < n) → ∀ {i x : Nat}, L[i]? = some x → x + (L.length - i) ≤ n
  | [], _, _, _, _, _, h => by cases h
  | [y], n, _, hl, 0, x, h => by
    obtain rfl : y = x := Option.some.inj h
    have := hl y List.mem_cons_self
    show y + 1 ≤ n
    omega
  | y :: z :: L, n, a, hl, 0, x, h => by
    obtain rfl : y = x := Option.some.inj h
    have h1 := asc_le (L := z :: L) (List.pairwise_cons.mp a).2 (fun u hu => hl u (List.mem_cons_of_mem _ hu)) (i := 0) (x := z) rfl
    have h2 := (List.pairwise_cons.mp a).1 z List.mem_cons_self
    have e : (y :: z :: L).length = (z :: L).length + 1 := rfl
    omega
  | y :: L, n, a, hl, i + 1, x, h => by
    have h1 := asc_le (L := L) (List.pairwise_cons.mp a).2 (fun u hu => hl u (List.mem_cons_of_mem _ hu)) (i := i) (x := x) h
    have e : (y :: L).length = L.length + 1 := rfl
    omega
theorem asc_erase {L : List Nat} (a : Asc L) (i : Nat) : Asc (L.eraseIdx i) := a.sublist (List.eraseIdx_sublist L i)
/-- the way forward keeps within its bounds -/
theorem folOk_path {n c d : Nat} (hd : ∀ b, b < d → n * C (n - 1) b ∣ c) (hc : 0 < c) (hdn : d ≤ n) : ∀ (m b : Nat) (L : List Nat) (r : Nat), b + m = d → Asc L → (∀ x ∈ L, x < n) → L.length = n - b → (b < d → r < wd n c b * (n - b)) → FolOk n c (List.range' b m) L r
  | 0, _, _, _, _, _, _, _, _ => trivial
  | m + 1, b, L, r, e, a, hl, hlen, hr => by
    have hb := hd b (by omega)
    have w0 := wd_pos hb hc
    have hr2 := hr (by omega)
    have hi : r / wd n c b < L.length := by
      rw [hlen]
      exact Nat.div_lt_of_lt_mul hr2
    have hx := getD_of hi
    have g1 := asc_ge a hx
    have g2 := asc_le a hl hx
    refine ⟨w0, hi, g1, ?_⟩
    refine folOk_path hd hc hdn m (b + 1) _ _ (by omega) (asc_erase a _) (fun x hx => hl x (List.mem_of_mem_eraseIdx hx)) ?_ (fun hlt => ?_)
    · rw [List.length_eraseIdx, if_pos hi]
      omega
    · rw [← wd_step hb (hd (b + 1) hlt) (by omega)]
      have h1 : r % wd n c b < wd n c b := Nat.mod_lt _ w0
      have h2 : L.getD (r / wd n c b) 0 - r / wd n c b ≤ b := by omega
      have h3 : wd n c b * (L.getD (r / wd n c b) 0 - r / wd n c b) ≤ wd n c b * b := Nat.mul_le_mul_left _ h2
      rw [Nat.mul_add, Nat.mul_one]
      omega
/-- count of lists and depth that go together -/
structure Std (n d c : Nat) : Prop where
  n60 : n ≤ 60
  n1 : 1 ≤ n
  dn : d ≤ n
  c0 : 0 < c
  dv : leastL n d ∣ c
theorem Std.dvd {n d c : Nat} (h : Std n d c) (b : Nat) (hb : b < d) : n * C (n - 1) b ∣ c := Nat.dvd_trans (leastL_dvd h.dn b hb) h.dv
def path (n d c k : Nat) : List Nat × Nat := fol n c (List.range' 0 d) (List.range' 0 n) k
theorem asc_range' : ∀ (m b : Nat), Asc (List.range' b m) := fun m b => List.pairwise_lt_range'
theorem mem_range0 {n x : Nat} : x ∈ List.range' 0 n ↔ x < n := by
  rw [List.mem_range']
  exact ⟨fun ⟨i, h1, h2⟩ => by omega, fun h => ⟨x, h, by omega⟩⟩
theorem path_ok {n d c k : Nat} (h : Std n d c) (hk : k < c) : FolOk n c (List.range' 0 d) (List.range' 0 n) k :=
  folOk_path h.dvd h.c0 h.dn d 0 _ _ (by omega) (asc_range' n 0) (fun x hx => mem_range0.mp hx) (by rw [List.length_range']; omega) fun hd => by
    rw [Nat.sub_zero, wd_zero (h.dvd 0 hd)]
    exact hk
theorem fol_mem {n c : Nat} : ∀ {ss L : List Nat} {r : Nat}, FolOk n c ss L r → ∀ x ∈ (fol n c ss L r).1, x ∈ L
  | [], _, _, _, x, hx => by cases hx
  | s :: ss, L, r, ok, x, hx => by
    rw [fol_cons] at hx
    obtain ⟨_, h2, _, ok2⟩ := ok
    rcases List.mem_cons.mp hx with rfl | hx
    · exact List.mem_of_getElem? (getD_of h2)
    · exact List.mem_of_mem_eraseIdx (fol_mem ok2 x hx)
theorem nodup_inj {L : List Nat} (hn : L.Nodup) {i j x : Nat} (h1 : L[i]? = some x) (h2 : L[j]? = some x) : i = j := by
  obtain ⟨a1, a2⟩ := List.getElem?_eq_some_iff.mp h1
  obtain ⟨b1, b2⟩ := List.getElem?_eq_some_iff.mp h2
  rcases Nat.lt_trichotomy i j with c | c | c
  · exact absurd (a2.trans b2.symm) (List.pairwise_iff_getElem.mp hn i j a1 b1 c)
  · exact c
  · exact absurd (b2.trans a2.symm) (List.pairwise_iff_getElem.mp hn j i b1 a1 c)
theorem not_mem_erase {L : List Nat} {i x : Nat} (hn : L.Nodup) (h : L[i]? = some x) : x ∉ L.eraseIdx i := by
  intro hm
  obtain ⟨k, hk⟩ := List.getElem?_of_mem hm
  rw [List.getElem?_eraseIdx] at hk
  split at hk
  · have := nodup_inj hn hk h
    omega
  · have := nodup_inj hn hk h
    omega
theorem fol_nodup {n c : Nat} : ∀ {ss L : List Nat} {r : Nat}, FolOk n c ss L r → L.Nodup → (fol n c ss L r).1.Nodup
  | [], _, _, _, _ => List.nodup_nil
  | s :: ss, L, r, ok, hn => by
    rw [fol_cons]
    obtain ⟨_, h2, _, ok2⟩ := ok
    refine List.nodup_cons.mpr ⟨fun hx => not_mem_erase hn (getD_of h2) (fol_mem ok2 _ hx), fol_nodup ok2 (hn.sublist (List.eraseIdx_sublist _ _))⟩
theorem asc_nodup {L : List Nat} (h : Asc L) : L.Nodup := h.imp fun z => Nat.ne_of_lt z
theorem path_nodup {n d c k : Nat} (h : Std n d c) (hk : k < c) : (path n d c k).1.Nodup := fol_nodup (path_ok h hk) (asc_nodup (asc_range' n 0))
theorem path_lt {n d c k : Nat} (h : Std n d c) (hk : k < c) : ∀ x ∈ (path n d c k).1, x < n := fun x hx => mem_range0.mp (fol_mem (path_ok h hk) x hx)
theorem path_len (n d c k : Nat) : (path n d c k).1.length = d := by
  unfold path
  rw [fol_len, List.length_range']
theorem fol_rest {n c d : Nat} (hd : ∀ b, b < d → n * C (n - 1) b ∣ c) (hc : 0 < c) (hdn : d ≤ n) : ∀ (m b : Nat) (L : List Nat) (r : Nat), b + m = d → Asc L → (∀ x ∈ L, x < n) → L.length = n - b → (b < d → r < wd n c b * (n - b)) → r < c → (fol n c (List.range' b m) L r).2 < c
  | 0, _, _, _, _, _, _, _, _, h => h
  | m + 1, b, L, r, e, a, hl, hlen, hr, h => by
    have hb := hd b (by omega)
    have w0 := wd_pos hb hc
    have hr2 := hr (by omega)
    have hi : r / wd n c b < L.length := by
      rw [hlen]
      exact Nat.div_lt_of_lt_mul hr2
    have hx := getD_of hi
    have g1 := asc_ge a hx
    have g2 := asc_le a hl hx
    have h1 : r % wd n c b < wd n c b := Nat.mod_lt _ w0
    have h2 : L.getD (r / wd n c b) 0 - r / wd n c b ≤ b := by omega
    have h3 : wd n c b * (L.getD (r / wd n c b) 0 - r / wd n c b) ≤ wd n c b * b := Nat.mul_le_mul_left _ h2
    have h4 : wd n c b * (L.getD (r / wd n c b) 0 - r / wd n c b) + r % wd n c b < wd n c b * (b + 1) := by
      rw [Nat.mul_add, Nat.mul_one]
      omega
    have h5 : wd n c b * (b + 1) ≤ c := by
      have p : 0 < C (n - 1) b := C_pos _ _ (by omega)
      have p2 : b + 1 ≤ n * C (n - 1) b := Nat.le_trans (show b + 1 ≤ n * 1 by omega) (Nat.mul_le_mul_left n p)
      have := Nat.mul_le_mul_left (wd n c b) p2
      rw [wd_eq hb] at this
      exact this
    rw [List.range'_succ, fol_cons]
    refine fol_rest hd hc hdn m (b + 1) _ _ (by omega) (asc_erase a _) (fun x hx => hl x (List.mem_of_mem_eraseIdx hx)) ?_ (fun hlt => ?_) (by omega)
    · rw [List.length_eraseIdx, if_pos hi]
      omega
    · rw [← wd_step hb (hd (b + 1) hlt) (by omega)]
      exact h4
theorem path_rest {n d c k : Nat} (h : Std n d c) (hk : k < c) : (path n d c k).2 < c :=
  fol_rest h.dvd h.c0 h.dn d 0 _ _ (by omega) (asc_range' n 0) (fun x hx => mem_range0.mp hx) (by rw [List.length_range']; omega) (fun hd => by
    rw [Nat.sub_zero, wd_zero (h.dvd 0 hd)]
    exact hk) hk
theorem asc_unique {L M : List Nat} (a : Asc L) (b : Asc M) (p : L.Perm M) : L = M :=
  List.Perm.eq_of_pairwise (le := (· ≤ ·)) (fun a b _ _ h1 h2 => Nat.le_antisymm h1 h2) (a.imp fun z => Nat.le_of_lt z) (b.imp fun z => Nat.le_of_lt z) p
theorem std_of {n d : Nat} (h6 : n ≤ 60) (h1 : 1 ≤ n) (hd : d ≤ n) (q : Nat) (hq : 0 < q) : Std n d (leastL n d * q) := ⟨h6, h1, hd, Nat.mul_pos (leastL_pos hd) hq, ⟨q, rfl⟩⟩
/-! what stands outside a set, and the places in it -/
theorem below_at : ∀ {M : List Nat}, Asc M → ∀ {j s : Nat}, M[j]? = some s → (M.filter fun x => decide (x < s)).length = j
  | [], _, _, _, h => by cases h
  | y :: M, a, 0, s, h => by
    obtain rfl : y = s := Option.some.inj h
    rw [List.filter_cons_of_neg (by simp), List.filter_eq_nil_iff.mpr]
    · rfl
    · intro x hx
      have := (List.pairwise_cons.mp a).1 x hx
      simp
      omega
  | y :: M, a, j + 1, s, h => by
    have h1 : M[j]? = some s := h
    have h2 := (List.pairwise_cons.mp a).1 s (List.mem_of_getElem? h1)
    rw [List.filter_cons_of_pos (by simpa using h2)]
    exact congrArg (· + 1) (below_at (List.pairwise_cons.mp a).2 h1)
/-- L: the servers outside I, ascending -/
structure Compl (n : Nat) (I L : List Nat) : Prop where
  aI : Asc I
  aL : Asc L
  bI : ∀ x ∈ I, x < n
  mem : ∀ x, x ∈ L ↔ x < n ∧ x ∉ I
theorem Compl.count {n : Nat} {I L : List Nat} (h : Compl n I L) {i s : Nat} (e : L[i]? = some s) : (I.filter fun x => decide (x < s)).length + i = s := by
  have hs := (h.mem s).mp (List.mem_of_getElem? e)
  have p : ((I.filter fun x => decide (x < s)) ++ (L.filter fun x => decide (x < s))).Perm (List.range' 0 s) := by
    refine (List.perm_ext_iff_of_nodup ?_ (asc_nodup (asc_range' s 0))).mpr fun x => ?_
    · refine List.nodup_append.mpr ⟨(asc_nodup h.aI).filter _, (asc_nodup h.aL).filter _, fun x hx y hy e2 => ?_⟩
      subst e2
      exact ((h.mem x).mp (List.mem_filter.mp hy).1).2 (List.mem_filter.mp hx).1
    · rw [List.mem_append, List.mem_filter, List.mem_filter, mem_range0, h.mem]
      simp only [decide_eq_true_eq]
      constructor
      · rintro (⟨_, h⟩ | ⟨_, h⟩) <;> exact h
      · intro hx
        by_cases c : x ∈ I
        · exact .inl ⟨c, hx⟩
        · exact .inr ⟨⟨by omega, c⟩, hx⟩
  have l := p.length_eq
  rw [List.length_append, below_at h.aL e, List.length_range'] at l
  exact l
theorem Compl.start (n : Nat) : Compl n [] (List.range' 0 n) := ⟨List.Pairwise.nil, asc_range' n 0, fun x hx => absurd hx List.not_mem_nil, fun x => by rw [mem_range0]; simp⟩
theorem Compl.next {n : Nat} {I L I' : List Nat} (h : Compl n I L) {i s : Nat} (e : L[i]? = some s) (hp : I'.Perm (I ++ [s])) (ha : Asc I') : Compl n I' (L.eraseIdx i) := by
  have hs := (h.mem s).mp (List.mem_of_getElem? e)
  refine ⟨ha, asc_erase h.aL i, fun x hx => ?_, fun x => ?_⟩
  · rcases List.mem_append.mp (hp.mem_iff.mp hx) with hx | hx
    · exact h.bI x hx
    · rw [List.mem_singleton.mp hx]
      exact hs.1
  · constructor
    · intro hx
      have h1 := (h.mem x).mp (List.mem_of_mem_eraseIdx hx)
      refine ⟨h1.1, fun hx2 => ?_⟩
      rcases List.mem_append.mp (hp.mem_iff.mp hx2) with z | z
      · exact h1.2 z
      · rw [List.mem_singleton.mp z] at hx
        exact not_mem_erase (asc_nodup h.aL) e hx
    · rintro ⟨h1, h2⟩
      have h3 : x ∉ I := fun z => h2 (hp.mem_iff.mpr (List.mem_append_left _ z))
      have h4 : x ≠ s := fun z => h2 (hp.mem_iff.mpr (List.mem_append_right _ (by rw [z]; exact List.mem_singleton_self s)))
      obtain ⟨k, hk⟩ := List.getElem?_of_mem ((h.mem x).mpr ⟨h1, h3⟩)
      have hki : k ≠ i := fun z => by
        rw [z, e] at hk
        exact h4 (Option.some.inj hk).symm
      rcases Nat.lt_or_gt_of_ne hki with hlt | hgt
      · exact List.mem_of_getElem? (i := k) (by rw [List.getElem?_eraseIdx, if_pos hlt]; exact hk)
      · exact List.mem_of_getElem? (i := k - 1) (by rw [List.getElem?_eraseIdx, if_neg (by omega), show k - 1 + 1 = k by omega]; exact hk)
/-- the place of the new one -/
theorem Compl.index {n : Nat} {I L I' : List Nat} (h : Compl n I L) {i j s : Nat} (e : L[i]? = some s) (hp : I'.Perm (I ++ [s])) (ha : Asc I') (hj : I'[j]? = some s) : j + i = s := by
  have h1 := h.count e
  have h2 := below_at ha hj
  have h3 := (hp.filter fun x => decide (x < s)).length_eq
  rw [List.filter_append, List.length_append] at h3
  have h4 : (List.filter (fun x => decide (x < s)) [s]).length = 0 := by
    rw [List.filter_cons_of_neg (by simp)]
    rfl
  omega
theorem Compl.free {n : Nat} {I L : List Nat} (h : Compl n I L) : (List.range' 0 n).filter (fun x => !decide (x ∈ I)) = L := by
  have a1 : Asc ((List.range' 0 n).filter (fun x => !decide (x ∈ I))) := (asc_range' n 0).filter _
  refine List.Perm.eq_of_pairwise (le := (· ≤ ·)) (fun a b _ _ h1 h2 => Nat.le_antisymm h1 h2) (a1.imp fun z => Nat.le_of_lt z) (h.aL.imp fun z => Nat.le_of_lt z) ?_
  refine (List.perm_ext_iff_of_nodup (asc_nodup a1) (asc_nodup h.aL)).mpr fun x => ?_
  rw [List.mem_filter, mem_range0, h.mem]
  simp
end Ef
namespace Ef
/-! ### the sets of a size among ascending servers -/
def combs : List Nat → Nat → List (List Nat)
  | _, 0 => [[]]
  | [], _ + 1 => []
  | x :: r, k + 1 => (combs r k).map (x :: ·) ++ combs r (k + 1)
theorem combs_zero (l : List Nat) : combs l 0 = [[]] := by cases l <;> rfl
theorem combs_short : ∀ (l : List Nat) (k : Nat), l.length < k → combs l k = []
  | _, 0, h => absurd h (Nat.not_lt_zero _)
  | [], k + 1, _ => rfl
  | x :: r, k + 1, h => by
    have h2 : r.length < k := by
      simp only [List.length_cons] at h
      omega
    show (combs r k).map _ ++ combs r (k + 1) = []
    rw [combs_short r k h2, combs_short r (k + 1) (by omega)]
    rfl
theorem combs_good : ∀ (l : List Nat) (k : Nat), ∀ c ∈ combs l k, c.length = k ∧ c.Sublist l
  | l, 0, c, h => by
    rw [combs_zero] at h
    rw [List.mem_singleton.mp h]
    exact ⟨rfl, List.nil_sublist _⟩
  | [], k + 1, c, h => by cases h
  | x :: r, k + 1, c, h => by
    rcases List.mem_append.mp h with h | h
    · obtain ⟨d, hd, rfl⟩ := List.mem_map.mp h
      obtain ⟨h1, h2⟩ := combs_good r k d hd
      exact ⟨by rw [List.length_cons, h1], h2.cons_cons x⟩
    · obtain ⟨h1, h2⟩ := combs_good r (k + 1) c h
      exact ⟨h1, h2.cons x⟩
theorem combs_ne : ∀ (l : List Nat) (k : Nat), k ≤ l.length → combs l k ≠ []
  | l, 0, _ => by rw [combs_zero]; simp
  | [], k + 1, h => by simp at h
  | x :: r, k + 1, h => by
    have h2 : k ≤ r.length := by
      simp only [List.length_cons] at h
      omega
    show (combs r k).map _ ++ combs r (k + 1) ≠ []
    intro e
    have := (List.append_eq_nil_iff.mp e).1
    exact combs_ne r k h2 (List.map_eq_nil_iff.mp this)
theorem combs_mem : ∀ (l c : List Nat), c.Sublist l → c ∈ combs l c.length
  | l, [], _ => by
    show [] ∈ combs l 0
    rw [combs_zero]
    exact List.mem_singleton.mpr rfl
  | [], _ :: _, h => by cases h
  | x :: r, y :: c, h => by
    show y :: c ∈ (combs r c.length).map (x :: ·) ++ combs r (c.length + 1)
    cases h with
    | cons _ h => exact List.mem_append_right _ (combs_mem r (y :: c) h)
    | cons_cons _ h => exact List.mem_append_left _ (List.mem_map.mpr ⟨c, combs_mem r c h, rfl⟩)
/-- by the place of the first one -/
theorem combs_from (l : List Nat) (m : Nat) : ∀ (d s : Nat), l.length + 1 ≤ s + d + (m + 1) → s + d + (m + 1) ≤ l.length + 1 ∨ d = 0 → combs (l.drop s) (m + 1) = (List.range' s d).flatMap fun i => (combs (l.drop (i + 1)) m).map (l.getD i 0 :: ·)
  | 0, s, h1, _ => by
    rw [combs_short _ _ (by rw [List.length_drop]; omega)]
    rfl
  | d + 1, s, h1, h2 => by
    have hs : s < l.length := by omega
    rw [List.drop_eq_getElem_cons hs]
    show (combs (l.drop (s + 1)) m).map _ ++ combs (l.drop (s + 1)) (m + 1) = _
    rw [combs_from l m d (s + 1) (by omega) (by omega), List.range'_succ, List.flatMap_cons]
    congr 2
    funext c
    rw [List.getD_eq_getElem?_getD, List.getElem?_eq_getElem hs]
    rfl
/-- one server more, in the order of the law -/
def moreC (l : List Nat) (c : List Nat) : List (List Nat) := (l.filter fun y => decide (c = [] ∨ c.getLastD 0 < y)).map fun y => c ++ [y]
theorem last_cons (x : Nat) (c : List Nat) (h : c ≠ []) : (x :: c).getLastD 0 = c.getLastD 0 := by
  cases c with
  | nil => exact absurd rfl h
  | cons a r => rfl
theorem last_mem (c : List Nat) (h : c ≠ []) : c.getLastD 0 ∈ c := by
  cases c with
  | nil => exact absurd rfl h
  | cons a r =>
    have e : (a :: r).getLastD 0 = (a :: r).getLast h := by
      rw [List.getLastD_cons, List.getLast_eq_getLastD]
    rw [e]
    exact List.getLast_mem h
theorem flat_congr {α β : Type} {f g : α → List β} : ∀ {l : List α}, (∀ a ∈ l, f a = g a) → l.flatMap f = l.flatMap g
  | [], _ => rfl
  | a :: l, h => by rw [List.flatMap_cons, List.flatMap_cons, h a List.mem_cons_self, flat_congr fun b hb => h b (List.mem_cons_of_mem _ hb)]
theorem combs_more : ∀ (l : List Nat) (t : Nat), Asc l → (combs l t).flatMap (moreC l) = combs l (t + 1)
  | [], 0, _ => rfl
  | [], t + 1, _ => rfl
  | x :: r, 0, h => by
    obtain ⟨h1, h2⟩ := List.pairwise_cons.mp h
    have ih := combs_more r 0 h2
    rw [combs_zero] at ih ⊢
    rw [List.flatMap_cons, List.flatMap_nil, List.append_nil] at ih ⊢
    show _ = (combs r 0).map (x :: ·) ++ combs r 1
    rw [← ih, combs_zero]
    unfold moreC
    rw [List.filter_cons_of_pos (by simp)]
    rfl
  | x :: r, t + 1, h => by
    obtain ⟨h1, h2⟩ := List.pairwise_cons.mp h
    show ((combs r t).map (x :: ·) ++ combs r (t + 1)).flatMap (moreC (x :: r)) = (combs r (t + 1)).map (x :: ·) ++ combs r (t + 2)
    rw [List.flatMap_append]
    have e2 : (combs r (t + 1)).flatMap (moreC (x :: r)) = combs r (t + 2) := by
      rw [← combs_more r (t + 1) h2]
      refine flat_congr fun c hc => ?_
      obtain ⟨g1, g2⟩ := combs_good r (t + 1) c hc
      have ne : c ≠ [] := fun e => by rw [e] at g1; cases g1
      have hl := h1 _ (g2.subset (last_mem c ne))
      unfold moreC
      rw [List.filter_cons_of_neg]
      simp only [decide_eq_true_eq, not_or]
      exact ⟨ne, by omega⟩
    have e1 : ((combs r t).map (x :: ·)).flatMap (moreC (x :: r)) = (combs r (t + 1)).map (x :: ·) := by
      rw [← combs_more r t h2, List.flatMap_map, List.map_flatMap]
      refine flat_congr fun c hc => ?_
      obtain ⟨g1, g2⟩ := combs_good r t c hc
      unfold moreC
      rw [List.map_map]
      by_cases ne : c = []
      · subst ne
        rw [List.filter_cons_of_neg (by simp)]
        have e : (r.filter fun y => decide (([x] : List Nat) = [] ∨ ([x] : List Nat).getLastD 0 < y)) = r.filter fun y => decide (([] : List Nat) = [] ∨ ([] : List Nat).getLastD 0 < y) := by
          refine List.filter_congr fun y hy => ?_
          have := h1 y hy
          simp [this]
        rw [e]
        rfl
      · have hl := h1 _ (g2.subset (last_mem c ne))
        rw [List.filter_cons_of_neg (by
          simp only [decide_eq_true_eq, not_or]
          exact ⟨by simp, by rw [last_cons x c ne]; omega⟩)]
        have e : (r.filter fun y => decide (x :: c = [] ∨ (x :: c).getLastD 0 < y)) = r.filter fun y => decide (c = [] ∨ c.getLastD 0 < y) := by
          refine List.filter_congr fun y hy => ?_
          rw [last_cons x c ne]
          simp [ne]
        rw [e]
        rfl
    rw [e1, e2]
/-! the program's beginnings -/
def stepB (l : List Nat) (m : Nat) (b : List Nat × Nat) : List (List Nat × Nat) := (List.range' b.2 (l.length + 1 - m - b.2)).map fun i => (b.1 ++ [l.getD i 0], i + 1)
def begB (l : List Nat) (k : Nat) : Nat → List (List Nat × Nat)
  | 0 => [([], 0)]
  | t + 1 => (begB l k t).flatMap (stepB l (k - t))
def restB (l : List Nat) (m : Nat) (b : List Nat × Nat) : List (List Nat) := (combs (l.drop b.2) m).map (b.1 ++ ·)
theorem step_rest (l : List Nat) (m : Nat) (b : List Nat × Nat) : (stepB l (m + 1) b).flatMap (restB l m) = restB l (m + 1) b := by
  unfold stepB restB
  rw [combs_from l m (l.length + 1 - (m + 1) - b.2) b.2 (by omega) (by omega), List.flatMap_map, List.map_flatMap]
  refine flat_congr fun i _ => ?_
  rw [List.map_map]
  refine List.map_congr_left fun c _ => ?_
  show b.1 ++ [l.getD i 0] ++ c = b.1 ++ (l.getD i 0 :: c)
  rw [List.append_assoc]
  rfl
theorem flat_flat {α β γ : Type} (f : α → List β) (g : β → List γ) : ∀ l : List α, (l.flatMap f).flatMap g = l.flatMap fun a => (f a).flatMap g
  | [] => rfl
  | a :: l => by rw [List.flatMap_cons, List.flatMap_append, List.flatMap_cons, flat_flat f g l]
theorem beg_rest (l : List Nat) (k : Nat) : ∀ t, t ≤ k → (begB l k t).flatMap (restB l (k - t)) = combs l k
  | 0, _ => by
    show restB l k ([], 0) ++ [] = _
    unfold restB
    rw [List.append_nil]
    show (combs l k).map _ = _
    exact List.map_id _
  | t + 1, h => by
    rw [← beg_rest l k t (by omega)]
    show ((begB l k t).flatMap (stepB l (k - t))).flatMap _ = _
    rw [flat_flat]
    refine flat_congr fun b _ => ?_
    have e : k - t = (k - (t + 1)) + 1 := by omega
    rw [e]
    exact step_rest l _ b
theorem map_flat {α β : Type} (f : α → β) : ∀ l : List α, l.flatMap (fun a => [f a]) = l.map f
  | [] => rfl
  | a :: l => by rw [List.flatMap_cons, map_flat f l]; rfl
theorem beg_end (l : List Nat) (k : Nat) : (begB l k k).map (·.1) = combs l k := by
  rw [← beg_rest l k k (Nat.le_refl _), ← map_flat]
  refine flat_congr fun b _ => ?_
  unfold restB
  rw [Nat.sub_self, combs_zero]
  show _ = [b.1 ++ []]
  rw [List.append_nil]
theorem beg_fit (l : List Nat) (k : Nat) : ∀ t, t < k → ∀ b ∈ begB l k (t + 1), b.2 + (k - (t + 1)) ≤ l.length := fun t ht b hb => by
  obtain ⟨a, _, hb⟩ := List.mem_flatMap.mp hb
  obtain ⟨i, hi, rfl⟩ := List.mem_map.mp hb
  rw [List.mem_range'_1] at hi
  show i + 1 + _ ≤ _
  omega
theorem len_flat {α β : Type} (f : α → List β) : ∀ l : List α, (∀ a ∈ l, f a ≠ []) → l.length ≤ (l.flatMap f).length
  | [], _ => Nat.zero_le _
  | a :: l, h => by
    rw [List.flatMap_cons, List.length_append, List.length_cons]
    have h1 := len_flat f l fun b hb => h b (List.mem_cons_of_mem _ hb)
    have h2 := List.length_pos_iff.mpr (h a List.mem_cons_self)
    omega
theorem beg_len (l : List Nat) (k : Nat) : ∀ t, t ≤ k → (begB l k t).length ≤ (combs l k).length + 1
  | 0, _ => by show 1 ≤ _; omega
  | t + 1, h => by
    rw [← beg_rest l k (t + 1) h]
    refine Nat.le_succ_of_le (len_flat _ _ fun b hb => ?_)
    have := beg_fit l k t h b hb
    unfold restB
    intro e
    exact combs_ne _ _ (by rw [List.length_drop]; omega) (List.map_eq_nil_iff.mp e)
theorem beg_good (l : List Nat) (k : Nat) : ∀ t, ∀ b ∈ begB l k t, b.1.length = t ∧ b.2 ≤ l.length + 1
  | 0, b, hb => by
    rw [List.mem_singleton.mp hb]
    exact ⟨rfl, Nat.zero_le _⟩
  | t + 1, b, hb => by
    obtain ⟨a, ha, hb⟩ := List.mem_flatMap.mp hb
    obtain ⟨i, hi, rfl⟩ := List.mem_map.mp hb
    rw [List.mem_range'_1] at hi
    obtain ⟨h1, h2⟩ := beg_good l k t a ha
    exact ⟨by show (a.1 ++ _).length = _; rw [List.length_append, h1]; rfl, by show i + 1 ≤ _; omega⟩
theorem fm_le {α β : Type} (f : α → List β) : ∀ (l : List α) (i : Nat), ((l.take i).flatMap f).length ≤ (l.flatMap f).length
  | [], i => by rw [List.take_nil]; exact Nat.le_refl _
  | a :: l, 0 => Nat.zero_le _
  | a :: l, i + 1 => by
    rw [List.take_succ_cons, List.flatMap_cons, List.flatMap_cons, List.length_append, List.length_append]
    have := fm_le f l i
    omega
theorem fm_step {α β : Type} {f : α → List β} {l : List α} {i : Nat} {a : α} (h : l[i]? = some a) : (l.take (i + 1)).flatMap f = (l.take i).flatMap f ++ f a := by
  rw [List.take_add_one, h, List.flatMap_append]
  show _ ++ [a].flatMap f = _
  rw [List.flatMap_cons, List.flatMap_nil, List.append_nil]
theorem take_snoc {α : Type} {l : List α} {i : Nat} {a : α} (h : l[i]? = some a) : l.take (i + 1) = l.take i ++ [a] := by
  rw [List.take_add_one, h]
  rfl
theorem combsLen : ∀ (l : List Nat) (k : Nat), (combs l k).length = C l.length k
  | l, 0 => by rw [combs_zero]; cases l <;> rfl
  | [], k + 1 => rfl
  | x :: r, k + 1 => by
    show ((combs r k).map _ ++ combs r (k + 1)).length = C (r.length + 1) (k + 1)
    rw [List.length_append, List.length_map, combsLen r k, combsLen r (k + 1)]
    rfl
theorem combsNodup : ∀ (l : List Nat) (k : Nat), l.Nodup → (combs l k).Nodup
  | l, 0, _ => by
    rw [combs_zero]
    exact List.nodup_cons.mpr ⟨List.not_mem_nil, List.nodup_nil⟩
  | [], k + 1, _ => List.nodup_nil
  | x :: r, k + 1, h => by
    obtain ⟨h1, h2⟩ := List.nodup_cons.mp h
    refine List.nodup_append.mpr ⟨?_, combsNodup r (k + 1) h2, fun c hc d hd e => ?_⟩
    · refine List.Pairwise.map _ (fun a b hab z => hab ?_) (combsNodup r k h2)
      exact (List.cons.inj z).2
    · obtain ⟨c', _, rfl⟩ := List.mem_map.mp hc
      obtain ⟨_, g⟩ := combs_good r (k + 1) d hd
      rw [← e] at g
      exact h1 (g.subset List.mem_cons_self)
theorem ascSub : ∀ {b a : List Nat}, Asc a → Asc b → (∀ x ∈ a, x ∈ b) → a.Sublist b
  | [], [], _, _, _ => List.Sublist.slnil
  | [], x :: a, _, _, h => absurd (h x List.mem_cons_self) List.not_mem_nil
  | y :: b, [], _, _, _ => List.nil_sublist _
  | y :: b, x :: a, ha, hb, h => by
    obtain ⟨a1, a2⟩ := List.pairwise_cons.mp ha
    obtain ⟨b1, b2⟩ := List.pairwise_cons.mp hb
    by_cases e : x = y
    · subst e
      refine (ascSub a2 b2 fun z hz => ?_).cons_cons x
      rcases List.mem_cons.mp (h z (List.mem_cons_of_mem _ hz)) with rfl | h2
      · have := a1 z hz
        omega
      · exact h2
    · refine (ascSub (a := x :: a) ha b2 fun z hz => ?_).cons y
      rcases List.mem_cons.mp (h z hz) with rfl | h2
      · rcases List.mem_cons.mp hz with rfl | hz
        · exact absurd rfl e
        · have h3 := a1 z hz
          rcases List.mem_cons.mp (h x List.mem_cons_self) with h4 | h4
          · exact absurd h4 e
          · have := b1 x h4
            omega
      · exact h2
/-- all (set, server) with the server outside -/
def without (n x : Nat) : List Nat := (List.range n).filter fun y => !decide (y = x)
def allE (n sz : Nat) : List (List Nat × Nat) := (List.range n).flatMap fun x => (combs (without n x) sz).map fun c => (c, x)
theorem without_len {n x : Nat} (h : x < n) : (without n x).length = n - 1 := by
  unfold without
  have hp : ∀ l : List Nat, (l.filter fun y => !decide (y = x)).length + (l.filter fun y => decide (y = x)).length = l.length := by
    intro l
    induction l with
    | nil => rfl
    | cons a l ih =>
      by_cases e : a = x
      · rw [List.filter_cons_of_neg (by simpa using e), List.filter_cons_of_pos (by simpa using e), List.length_cons, List.length_cons]
        omega
      · rw [List.filter_cons_of_pos (by simpa using e), List.filter_cons_of_neg (by simpa using e), List.length_cons, List.length_cons]
        omega
  replace hp := hp (List.range n)
  rw [List.length_range] at hp
  have h1 : ((List.range n).filter fun y => decide (y = x)).length = 1 := by
    rw [← List.countP_eq_length_filter]
    have e : (List.range n).countP (fun y => decide (y = x)) = (List.range n).count x := by
      unfold List.count
      refine List.countP_congr fun y _ => ?_
      simp
    rw [e]
    exact List.Nodup.count List.nodup_range |>.trans (if_pos (List.mem_range.mpr h))
  omega
theorem without_asc (n x : Nat) : Asc (without n x) := List.Pairwise.filter _ (by
  have := List.pairwise_lt_range (n := n)
  exact this)
theorem flat_const {α β : Type} (f : α → List β) (k : Nat) : ∀ l : List α, (∀ a ∈ l, (f a).length = k) → (l.flatMap f).length = l.length * k
  | [], _ => by simp
  | a :: l, h => by
    rw [List.flatMap_cons, List.length_append, h a List.mem_cons_self, flat_const f k l fun b hb => h b (List.mem_cons_of_mem _ hb), List.length_cons, Nat.succ_mul]
    omega
theorem allE_len (n sz : Nat) : (allE n sz).length = n * C (n - 1) sz := by
  unfold allE
  rw [flat_const _ (C (n - 1) sz) _ fun x hx => ?_, List.length_range]
  rw [List.length_map, combsLen, without_len (List.mem_range.mp hx)]
theorem allE_mem {n sz x : Nat} {c : List Nat} (hx : x < n) (hl : c.length = sz) (ha : Asc c) (hc : ∀ y ∈ c, y < n ∧ y ≠ x) : (c, x) ∈ allE n sz := by
  refine List.mem_flatMap.mpr ⟨x, List.mem_range.mpr hx, List.mem_map.mpr ⟨c, ?_, rfl⟩⟩
  have := combs_mem (without n x) c (ascSub ha (without_asc n x) fun y hy => List.mem_filter.mpr ⟨List.mem_range.mpr (hc y hy).1, by simpa using (hc y hy).2⟩)
  rw [hl] at this
  exact this
theorem subG_len {α : Type} [DecidableEq α] : ∀ {ks ns : List α}, ks.Nodup → (∀ k ∈ ks, k ∈ ns) → ks.length ≤ ns.length
  | [], _, _, _ => Nat.zero_le _
  | k :: r, ns, h, hs => by
    have hk := hs k List.mem_cons_self
    have h1 := subG_len (ks := r) (ns := ns.erase k) (List.nodup_cons.mp h).2 fun x hx => (List.mem_erase_of_ne (fun e : x = k => (List.nodup_cons.mp h).1 (e ▸ hx))).mpr (hs x (List.mem_cons_of_mem _ hx))
    have h2 := List.length_erase_of_mem hk
    have h3 := List.length_pos_of_mem hk
    show r.length + 1 ≤ ns.length
    omega
/-! sorted -/
def srt (l : List Nat) : List Nat := l.mergeSort fun a b => decide (a ≤ b)
theorem srt_perm (l : List Nat) : (srt l).Perm l := List.mergeSort_perm l _
theorem srt_le (l : List Nat) : (srt l).Pairwise (· ≤ ·) := (List.pairwise_mergeSort (le := fun a b : Nat => decide (a ≤ b)) (fun a b c h1 h2 => by simp at *; omega) (fun a b => by simp; omega) l).imp fun h => of_decide_eq_true h
theorem srt_asc {l : List Nat} (h : l.Nodup) : Asc (srt l) := ((srt_le l).and ((srt_perm l).nodup_iff.mpr h)).imp fun ⟨a, b⟩ => by omega
theorem srt_of {l m : List Nat} (p : m.Perm l) (h : m.Pairwise (· ≤ ·)) : m = srt l :=
  List.Perm.eq_of_pairwise (le := fun a b : Nat => a ≤ b) (fun a b _ _ h1 h2 => Nat.le_antisymm h1 h2) h (srt_le l) (p.trans (srt_perm l).symm)
end Ef
namespace Ef
/-! ### the least numbers once more: common multiples of n, n - 1, .. -/
def leastP (n : Nat) : Nat → Nat
  | 0 => 1
  | d + 1 => stepL (leastP n d) (n - d)
theorem parts_ok : rowsOk (fun n d a => Nat.beq (leastP n d) a) 60 1 row0 = true := by decide +kernel
theorem leastP_eq {n d : Nat} (h1 : 1 ≤ n) (h6 : n ≤ 60) (hd : d ≤ n) : leastP n d = leastL n d :=
  Nat.eq_of_beq_eq_true (rows_all 60 1 row0 row0_is (by decide) parts_ok n h1 (by omega) h6 d hd)
theorem stepL_lcm (a b : Nat) : stepL a b = Nat.lcm a b := by
  unfold stepL Nat.lcm
  exact Nat.div_mul_right_comm (Nat.gcd_dvd_left a b) b
theorem stepL_dvd (a b c : Nat) : stepL a b ∣ c ↔ a ∣ c ∧ b ∣ c := by
  rw [stepL_lcm]
  exact ⟨fun h => ⟨Nat.dvd_trans (Nat.dvd_lcm_left a b) h, Nat.dvd_trans (Nat.dvd_lcm_right a b) h⟩, fun h => Nat.lcm_dvd h.1 h.2⟩
theorem leastP_dvd (n c : Nat) : ∀ d, leastP n d ∣ c ↔ ∀ i, i < d → (n - i) ∣ c
  | 0 => ⟨fun _ i h => absurd h (Nat.not_lt_zero i), fun _ => Nat.one_dvd c⟩
  | d + 1 => by
    show stepL (leastP n d) (n - d) ∣ c ↔ _
    rw [stepL_dvd, leastP_dvd n c d]
    constructor
    · intro h i hi
      by_cases e : i = d
      · rw [e]
        exact h.2
      · exact h.1 i (by omega)
    · intro h
      exact ⟨fun i hi => h i (by omega), h d (by omega)⟩
/-- a number is a multiple of the least one exactly if n, n - 1, .. divide it -/
theorem least_parts {n d : Nat} (h1 : 1 ≤ n) (h6 : n ≤ 60) (hd : d ≤ n) (c : Nat) : leastL n d ∣ c ↔ ∀ i, i < d → (n - i) ∣ c := by
  rw [← leastP_eq h1 h6 hd]
  exact leastP_dvd n c d
def partsV (n d : Nat) : List Nat := (List.range d).map fun i => n - i
theorem parts_at {n d i : Nat} (h : i < d) : (partsV n d)[i]? = some (n - i) := by
  unfold partsV
  rw [List.getElem?_map, List.getElem?_range h]
  rfl
theorem parts_len (n d : Nat) : (partsV n d).length = d := by
  unfold partsV
  rw [List.length_map, List.length_range]
def wdsL (n c d : Nat) : List Nat := (List.range d).map (wd n c)
theorem wds_step (n c d : Nat) : wdsL n c (d + 1) = wdsL n c d ++ [wd n c d] := by
  unfold wdsL
  rw [List.range_succ, List.map_append]
  rfl
theorem wds_len (n c d : Nat) : (wdsL n c d).length = d := by
  unfold wdsL
  rw [List.length_map, List.length_range]
/-- one step of the edges -/
theorem edge_step {n s : Nat} (h : s < n) : n * C (n - 1) s * (n - 1 - s) / (s + 1) = n * C (n - 1) (s + 1) := by
  rw [Nat.mul_assoc, ← C_step (n - 1) s (by omega), ← Nat.mul_assoc, Nat.mul_div_cancel _ (Nat.succ_pos s)]
end Ef
namespace Ef
/-! ### from a place back to a number -/
/-- what is left of the servers -/
def folL (n c : Nat) : List Nat → List Nat → Nat → List Nat
  | [], L, _ => L
  | s :: ss, L, r => folL n c ss (L.eraseIdx (r / wd n c s)) (wd n c s * (L.getD (r / wd n c s) 0 - r / wd n c s) + r % wd n c s)
theorem fol_snoc (n c : Nat) (s : Nat) : ∀ (ss L : List Nat) (r : Nat), fol n c (ss ++ [s]) L r =
    ((fol n c ss L r).1 ++ [(folL n c ss L r).getD ((fol n c ss L r).2 / wd n c s) 0],
      wd n c s * ((folL n c ss L r).getD ((fol n c ss L r).2 / wd n c s) 0 - (fol n c ss L r).2 / wd n c s) + (fol n c ss L r).2 % wd n c s)
  | [], L, r => rfl
  | t :: ss, L, r => by
    rw [List.cons_append, fol_cons, fol_snoc n c s ss, fol_cons]
    rfl
theorem folL_snoc (n c : Nat) (s : Nat) : ∀ (ss L : List Nat) (r : Nat), folL n c (ss ++ [s]) L r = (folL n c ss L r).eraseIdx ((fol n c ss L r).2 / wd n c s)
  | [], L, r => rfl
  | t :: ss, L, r => by
    rw [List.cons_append]
    show folL n c (ss ++ [s]) _ _ = _
    rw [folL_snoc n c s ss]
    rfl
theorem wd_back {n c b : Nat} (h : n * C (n - 1) b ∣ c) (hb : b < n) : c / C n (b + 1) = wd n c b * (b + 1) := by
  have e := wd_eq h
  obtain ⟨m, rfl⟩ : ∃ m, n = m + 1 := ⟨n - 1, by omega⟩
  have a := C_absorb m b
  rw [Nat.add_sub_cancel] at e
  rw [← a] at e
  have p := C_pos (m + 1) (b + 1) (by omega)
  generalize wd (m + 1) c b = w at e ⊢
  have e2 : c = w * (b + 1) * C (m + 1) (b + 1) := by
    rw [← e, Nat.mul_comm (C (m + 1) (b + 1)), Nat.mul_assoc]
  rw [e2, Nat.mul_div_cancel _ p]
theorem wd_out {n c b : Nat} (h : n * C (n - 1) b ∣ c) (hb : b < n) : wd n c b * (n - b) * C n b = c := by
  have e := wd_eq h
  obtain ⟨m, rfl⟩ : ∃ m, n = m + 1 := ⟨n - 1, by omega⟩
  have a := C_absorb m b
  have s := C_step (m + 1) b (by omega)
  rw [Nat.add_sub_cancel] at e
  rw [Nat.mul_assoc, Nat.mul_comm (m + 1 - b), ← s, a]
  exact e
theorem erasePerm : ∀ (l : List Nat) (k x : Nat), l[k]? = some x → (x :: l.eraseIdx k).Perm l
  | [], _, _, h => by cases h
  | a :: r, 0, x, h => by
    obtain rfl : a = x := Option.some.inj h
    exact List.Perm.refl _
  | a :: r, k + 1, x, h => (List.Perm.swap a x _).trans ((erasePerm r k x h).cons a)
theorem range'_end (b : Nat) : List.range' 0 (b + 1) = List.range' 0 b ++ [b] := by
  rw [← List.range_eq_range', ← List.range_eq_range', List.range_succ]
theorem rev_range (b : Nat) : (List.range' 0 (b + 1)).reverse = b :: (List.range' 0 b).reverse := by
  rw [range'_end, List.reverse_append]
  rfl
/-- one step back -/
structure Place (n c b : Nat) (ms : List Nat) (r : Nat) : Prop where
  asc : Asc ms
  lt : ∀ x ∈ ms, x < n
  len : ms.length = b
  rest : r < c / C n b
theorem Place.ix {n c b r : Nat} {ms : List Nat} (h : Place n c (b + 1) ms r) (hd : n * C (n - 1) b ∣ c) (hb : b < n) : r / wd n c b < ms.length := by
  have h1 := h.rest
  rw [wd_back hd hb] at h1
  rw [h.len]
  exact Nat.div_lt_of_lt_mul h1
theorem Place.prev {n c b r : Nat} {ms : List Nat} (h : Place n c (b + 1) ms r) (hd : ∀ k, k ≤ b → n * C (n - 1) k ∣ c) (hb : b < n) (hc : 0 < c) :
    Place n c b (ms.eraseIdx (r / wd n c b)) (wd n c b * (ms.getD (r / wd n c b) 0 - r / wd n c b) + r % wd n c b) := by
  have hi := h.ix (hd b (Nat.le_refl _)) hb
  have w0 := wd_pos (hd b (Nat.le_refl _)) hc
  have hx := getD_of hi
  have g1 := asc_ge h.asc hx
  have g2 := asc_le h.asc h.lt hx
  have hl := h.len
  refine ⟨asc_erase h.asc _, fun x hx => h.lt x (List.mem_of_mem_eraseIdx hx), ?_, ?_⟩
  · rw [List.length_eraseIdx, if_pos hi, hl]
    rfl
  · have h1 : r % wd n c b < wd n c b := Nat.mod_lt _ w0
    have h2 : ms.getD (r / wd n c b) 0 - r / wd n c b + 1 ≤ n - b := by omega
    have h3 : wd n c b * (ms.getD (r / wd n c b) 0 - r / wd n c b + 1) ≤ wd n c b * (n - b) := Nat.mul_le_mul_left _ h2
    have h4 : c / C n b = wd n c b * (n - b) := by
      have e := wd_out (hd b (Nat.le_refl _)) hb
      have p := C_pos n b (by omega)
      conv => lhs; rw [← e]
      exact Nat.mul_div_cancel _ p
    rw [h4]
    rw [Nat.mul_add, Nat.mul_one] at h3
    omega
theorem back_ok {n c : Nat} (hc : 0 < c) : ∀ (b : Nat) (ms : List Nat) (r : Nat), b ≤ n → (∀ k, k < b → n * C (n - 1) k ∣ c) → Place n c b ms r → FolOk n c (List.range' 0 b).reverse ms r
  | 0, _, _, _, _, _ => trivial
  | b + 1, ms, r, hb, hd, h => by
    rw [rev_range]
    have hi := h.ix (hd b (by omega)) (by omega)
    exact ⟨wd_pos (hd b (by omega)) hc, hi, asc_ge h.asc (getD_of hi), back_ok hc b _ _ (by omega) (fun k hk => hd k (by omega)) (h.prev (fun k hk => hd k (by omega)) (by omega) hc)⟩
theorem Std.less {n d c : Nat} (h : Std n (d + 1) c) : Std n d c := by
  have hd := h.dn
  exact ⟨h.n60, h.n1, by omega, h.c0, Nat.dvd_trans (stepL_left _ _ (leastL_pos (by omega))) h.dv⟩
/-- the number of the list that has this place -/
def back (n c : Nat) (ms : List Nat) (r : Nat) : Nat := (fol n c (List.range' 0 ms.length).reverse ms r).2
theorem back_fwd {n c : Nat} (hc : 0 < c) : ∀ (b : Nat) (ms : List Nat) (r : Nat), b ≤ n → (∀ k, k < b → n * C (n - 1) k ∣ c) → Place n c b ms r →
    (fol n c (List.range' 0 b).reverse ms r).2 < c ∧
    (fol n c (List.range' 0 b) (List.range' 0 n) (fol n c (List.range' 0 b).reverse ms r).2).1.Perm ms ∧
    (fol n c (List.range' 0 b) (List.range' 0 n) (fol n c (List.range' 0 b).reverse ms r).2).2 = r ∧
    Compl n ms (folL n c (List.range' 0 b) (List.range' 0 n) (fol n c (List.range' 0 b).reverse ms r).2)
  | 0, ms, r, _, _, h => by
    have e : ms = [] := List.length_eq_zero_iff.mp h.len
    have hr := h.rest
    rw [C_zero, Nat.div_one] at hr
    subst e
    exact ⟨hr, List.Perm.refl _, rfl, Compl.start n⟩
  | b + 1, ms, r, hb, hd, h => by
    have hi := h.ix (hd b (by omega)) (by omega)
    have w0 := wd_pos (hd b (by omega)) hc
    have hx := getD_of hi
    have g1 := asc_ge h.asc hx
    have pv := h.prev (fun k hk => hd k (by omega)) (by omega) hc
    obtain ⟨i1, i2, i3, i4⟩ := back_fwd hc b _ _ (by omega) (fun k hk => hd k (by omega)) pv
    rw [rev_range, fol_cons]
    show (fol n c (List.range' 0 b).reverse (ms.eraseIdx (r / wd n c b)) (wd n c b * (ms.getD (r / wd n c b) 0 - r / wd n c b) + r % wd n c b)).2 < c ∧ _
    generalize (fol n c (List.range' 0 b).reverse (ms.eraseIdx (r / wd n c b)) (wd n c b * (ms.getD (r / wd n c b) 0 - r / wd n c b) + r % wd n c b)).2 = k at i1 i2 i3 i4 ⊢
    show k < c ∧ (fol n c (List.range' 0 (b + 1)) (List.range' 0 n) k).1.Perm ms ∧ (fol n c (List.range' 0 (b + 1)) (List.range' 0 n) k).2 = r ∧ Compl n ms (folL n c (List.range' 0 (b + 1)) (List.range' 0 n) k)
    rw [range'_end, fol_snoc, folL_snoc, i3]
    have hm : r % wd n c b < wd n c b := Nat.mod_lt _ w0
    have e1 : (wd n c b * (ms.getD (r / wd n c b) 0 - r / wd n c b) + r % wd n c b) / wd n c b = ms.getD (r / wd n c b) 0 - r / wd n c b := by
      rw [Nat.mul_add_div w0, Nat.div_eq_of_lt hm, Nat.add_zero]
    have e2 : (wd n c b * (ms.getD (r / wd n c b) 0 - r / wd n c b) + r % wd n c b) % wd n c b = r % wd n c b := by
      rw [Nat.mul_add_mod, Nat.mod_mod]
    rw [e1, e2]
    generalize folL n c (List.range' 0 b) (List.range' 0 n) k = L at i4
    have hdm := Nat.div_add_mod r (wd n c b)
    generalize r / wd n c b = i at hi hx g1 pv i1 i2 i3 i4 hdm e1 e2 ⊢
    generalize ms.getD i 0 = x at hx g1 pv i1 i2 i3 i4 e1 e2 ⊢
    have pm : ms.Perm (ms.eraseIdx i ++ [x]) := ((List.perm_append_singleton x _).trans (erasePerm ms i x hx)).symm
    have hmem : x ∈ L := (i4.mem _).mpr ⟨h.lt _ (List.mem_of_getElem? hx), not_mem_erase (asc_nodup h.asc) hx⟩
    obtain ⟨j, hj⟩ := List.getElem?_of_mem hmem
    have hjx := i4.index hj pm h.asc hx
    obtain rfl : x - i = j := by omega
    have ex : L.getD (x - i) 0 = x := by
      have := getD_of (L := L) (i := x - i) (List.getElem?_eq_some_iff.mp hj).1
      rw [hj] at this
      exact (Option.some.inj this).symm
    rw [ex]
    refine ⟨i1, (i2.append_right _).trans pm.symm, ?_, i4.next hj pm h.asc⟩
    show wd n c b * (x - (x - i)) + r % wd n c b = r
    rw [show x - (x - i) = i by omega]
    exact hdm
end Ef
namespace Ef
/-! ### counts by formula -/
def sumTo (g : Nat → Nat) : Nat → Nat
  | 0 => 0
  | n + 1 => sumTo g n + g n
theorem sumTo_congr {g h : Nat → Nat} : ∀ {n : Nat}, (∀ i, i < n → g i = h i) → sumTo g n = sumTo h n
  | 0, _ => rfl
  | n + 1, e => by
    show sumTo g n + g n = sumTo h n + h n
    rw [sumTo_congr (n := n) fun i hi => e i (by omega), e n (by omega)]
theorem sumTo_add (g h : Nat → Nat) : ∀ n : Nat, sumTo (fun i => g i + h i) n = sumTo g n + sumTo h n
  | 0 => rfl
  | n + 1 => by
    show sumTo _ n + (g n + h n) = sumTo g n + g n + (sumTo h n + h n)
    rw [sumTo_add g h n]
    omega
theorem sumTo_mul (k : Nat) (g : Nat → Nat) : ∀ n : Nat, sumTo (fun i => k * g i) n = k * sumTo g n
  | 0 => rfl
  | n + 1 => by
    show sumTo _ n + k * g n = k * (sumTo g n + g n)
    rw [sumTo_mul k g n, Nat.mul_add]
theorem sumTo_zero {g : Nat → Nat} : ∀ {n : Nat}, (∀ i, i < n → g i = 0) → sumTo g n = 0
  | 0, _ => rfl
  | n + 1, e => by
    show sumTo g n + g n = 0
    rw [sumTo_zero (n := n) fun i hi => e i (by omega), e n (by omega)]
theorem sumTo_shift (g : Nat → Nat) : ∀ n : Nat, sumTo g (n + 1) = g 0 + sumTo (fun i => g (i + 1)) n
  | 0 => by
    show 0 + g 0 = g 0 + 0
    omega
  | n + 1 => by
    show sumTo g (n + 1) + g (n + 1) = g 0 + (sumTo (fun i => g (i + 1)) n + g (n + 1))
    rw [sumTo_shift g n]
    omega
theorem sumTo_cut (g : Nat → Nat) (a : Nat) : ∀ b : Nat, sumTo g (a + b) = sumTo g a + sumTo (fun i => g (a + i)) b
  | 0 => rfl
  | b + 1 => by
    show sumTo g (a + b) + g (a + b) = sumTo g a + (sumTo (fun i => g (a + i)) b + g (a + b))
    rw [sumTo_cut g a b]
    omega
theorem edge_alt {n i : Nat} (h : i < n) : C n i * (n - i) = n * C (n - 1) i := by
  obtain ⟨m, rfl⟩ : ∃ m, n = m + 1 := ⟨n - 1, by omega⟩
  have s := C_step (m + 1) i (by omega)
  have a := C_absorb m i
  rw [← s, a, Nat.add_sub_cancel]
theorem edge_alt2 {n i : Nat} (h : i < n) : C n (i + 1) * (i + 1) = n * C (n - 1) i := by
  obtain ⟨m, rfl⟩ : ∃ m, n = m + 1 := ⟨n - 1, by omega⟩
  rw [C_absorb m i, Nat.add_sub_cancel]
/-- the harmonic triangle -/
theorem leib {n i T : Nat} (hi : i < n) (h1 : (n + 1) * C n i ∣ T) (h2 : (n + 1) * C n (i + 1) ∣ T) : n * C (n - 1) i ∣ T ∧ wd n T i = wd (n + 1) T i + wd (n + 1) T (i + 1) := by
  have e1 : wd (n + 1) T i * ((n + 1) * C n i) = T := Nat.div_mul_cancel h1
  have e2 : wd (n + 1) T (i + 1) * ((n + 1) * C n (i + 1)) = T := Nat.div_mul_cancel h2
  have a1 := edge_alt hi
  have a2 := edge_alt2 hi
  have key : (wd (n + 1) T i + wd (n + 1) T (i + 1)) * (n * C (n - 1) i) = T := by
    refine Nat.eq_of_mul_eq_mul_left (show 0 < n + 1 by omega) ?_
    generalize wd (n + 1) T i = a at e1
    generalize wd (n + 1) T (i + 1) = b at e2
    have x1 : (n + 1) * (a * (n * C (n - 1) i)) = T * (n - i) := by
      rw [← a1, ← e1]
      simp only [Nat.mul_assoc, Nat.mul_comm, Nat.mul_left_comm]
    have x2 : (n + 1) * (b * (n * C (n - 1) i)) = T * (i + 1) := by
      rw [← a2, ← e2]
      simp only [Nat.mul_assoc, Nat.mul_comm, Nat.mul_left_comm]
    have x3 : (n + 1) * ((a + b) * (n * C (n - 1) i)) = (n + 1) * (a * (n * C (n - 1) i)) + (n + 1) * (b * (n * C (n - 1) i)) := by
      rw [Nat.add_mul a b, Nat.mul_add (n + 1)]
    rw [x3, x1, x2, ← Nat.mul_add T, Nat.mul_comm T]
    congr 1
    omega
  have p : 0 < n * C (n - 1) i := edge_pos hi
  refine ⟨⟨_, by rw [Nat.mul_comm]; exact key.symm⟩, ?_⟩
  show T / (n * C (n - 1) i) = _
  conv => lhs; rw [← key]
  exact Nat.mul_div_cancel _ p
theorem sum_leib {T u f : Nat} (hf : f < u) : ∀ m : Nat, (∀ i, i ≤ m + f → (u + m) * C (u + m - 1) i ∣ T) → (u * C (u - 1) f ∣ T) ∧ sumTo (fun j => C m j * wd (u + m) T (j + f)) (m + 1) = wd u T f
  | 0, h => by
    have h0 := h f (by omega)
    refine ⟨h0, ?_⟩
    show 0 + C 0 0 * wd (u + 0) T (0 + f) = wd u T f
    rw [Nat.zero_add, Nat.zero_add, C_zero, Nat.one_mul, Nat.add_zero]
  | m + 1, h => by
    have hd : ∀ i, i ≤ m + f → (u + m) * C (u + m - 1) i ∣ T ∧ wd (u + m) T i = wd (u + m + 1) T i + wd (u + m + 1) T (i + 1) := fun i hi => by
      have a := h i (by omega)
      have b := h (i + 1) (by omega)
      rw [show u + (m + 1) = u + m + 1 from rfl, Nat.add_sub_cancel] at a b
      exact leib (show i < u + m by omega) a b
    obtain ⟨r1, r2⟩ := sum_leib hf m fun i hi => (hd i hi).1
    refine ⟨r1, ?_⟩
    rw [← r2]
    -- the right side split by the triangle
    have e1 : sumTo (fun j => C m j * wd (u + m) T (j + f)) (m + 1) = sumTo (fun j => C m j * wd (u + m + 1) T (j + f)) (m + 1) + sumTo (fun j => C m j * wd (u + m + 1) T (j + 1 + f)) (m + 1) := by
      rw [← sumTo_add]
      refine sumTo_congr fun j hj => ?_
      rw [(hd (j + f) (by omega)).2, Nat.mul_add, show j + f + 1 = j + 1 + f by omega]
    -- the left side split by Pascal
    have e2 : sumTo (fun j => C (m + 1) j * wd (u + (m + 1)) T (j + f)) (m + 1 + 1) = sumTo (fun j => C m j * wd (u + m + 1) T (j + f)) (m + 1 + 1) + sumTo (fun j => C m j * wd (u + m + 1) T (j + 1 + f)) (m + 1) := by
      rw [sumTo_shift, sumTo_shift (fun j => C m j * wd (u + m + 1) T (j + f)), Nat.add_assoc, ← sumTo_add, C_zero, C_zero]
      congr 1
      refine sumTo_congr fun j hj => ?_
      show C (m + 1) (j + 1) * wd (u + m + 1) T (j + 1 + f) = C m (j + 1) * wd (u + m + 1) T (j + 1 + f) + C m j * wd (u + m + 1) T (j + 1 + f)
      rw [C_ss, Nat.add_mul, Nat.add_comm]
    have e3 : sumTo (fun j => C m j * wd (u + m + 1) T (j + f)) (m + 1 + 1) = sumTo (fun j => C m j * wd (u + m + 1) T (j + f)) (m + 1) := by
      show sumTo _ (m + 1) + C m (m + 1) * _ = _
      rw [C_big m (m + 1) (by omega), Nat.zero_mul, Nat.add_zero]
    rw [e2, e3, e1]
/-- in how many lists the live server number f + 1 stands at index i -/
def fndAt (n T u f i : Nat) : Nat := if i < f ∨ n - u + f < i then 0 else C u f * C (n - u) (i - f) * (u - f) * wd n T i
theorem fnd_sum {n T u f : Nat} (hu : u ≤ n) (hf : f < u) (h : ∀ i, i ≤ n - u + f → n * C (n - 1) i ∣ T) : sumTo (fndAt n T u f) n = T := by
  have en : n = u + (n - u) := by omega
  obtain ⟨r1, r2⟩ := sum_leib (T := T) hf (n - u) fun i hi => by
    rw [← en]
    exact h i hi
  rw [← en] at r2
  have e1 : sumTo (fndAt n T u f) n = sumTo (fndAt n T u f) f + sumTo (fun i => fndAt n T u f (f + i)) (n - f) := by
    have := sumTo_cut (fndAt n T u f) f (n - f)
    rw [show f + (n - f) = n by omega] at this
    exact this
  have e2 : sumTo (fndAt n T u f) f = 0 := sumTo_zero fun i hi => if_pos (.inl hi)
  have e3 : sumTo (fun i => fndAt n T u f (f + i)) (n - f) = sumTo (fun i => fndAt n T u f (f + i)) (n - u + 1) + sumTo (fun i => fndAt n T u f (f + (n - u + 1 + i))) (n - f - (n - u + 1)) := by
    have := sumTo_cut (fun i => fndAt n T u f (f + i)) (n - u + 1) (n - f - (n - u + 1))
    rw [show n - u + 1 + (n - f - (n - u + 1)) = n - f by omega] at this
    exact this
  have e4 : sumTo (fun i => fndAt n T u f (f + (n - u + 1 + i))) (n - f - (n - u + 1)) = 0 := sumTo_zero fun i hi => if_pos (.inr (by omega))
  have e5 : sumTo (fun i => fndAt n T u f (f + i)) (n - u + 1) = (C u f * (u - f)) * sumTo (fun j => C (n - u) j * wd n T (j + f)) (n - u + 1) := by
    rw [← sumTo_mul]
    refine sumTo_congr fun i hi => ?_
    show fndAt n T u f (f + i) = _
    unfold fndAt
    rw [if_neg (by omega), show f + i - f = i by omega, show f + i = i + f by omega]
    simp only [Nat.mul_assoc, Nat.mul_comm, Nat.mul_left_comm]
  rw [e1, e2, e3, e4, e5, r2, Nat.zero_add, Nat.add_zero, edge_alt hf, Nat.mul_comm]
  exact wd_eq r1
end Ef
namespace Ef
/-! ### the numbers of the lists with a beginning -/
/-- what 'numbers_with' keeps on its way: the numbers from lo to hi - 1 have the beginning, the rest of number k is k + mv, L is left -/
structure Wst where
  lo : Int
  hi : Int
  mv : Int
  L : List Nat
def wStep (n c b s : Nat) (x : Wst) : Wst :=
  ⟨max x.lo ((wd n c b : Int) * (x.L.idxOf s : Int) - x.mv), min x.hi ((wd n c b : Int) * ((x.L.idxOf s : Int) + 1) - x.mv), x.mv + (wd n c b : Int) * ((s : Int) - (x.L.idxOf s : Int) - (x.L.idxOf s : Int)), x.L.eraseIdx (x.L.idxOf s)⟩
/-- from level b on -/
def wRun (n c : Nat) : Nat → List Nat → Wst → Option Wst
  | _, [], x => some x
  | b, s :: r, x => if s ∈ x.L then (if (wStep n c b s x).hi ≤ (wStep n c b s x).lo then none else wRun n c (b + 1) r (wStep n c b s x)) else none
/-- the lists whose beginning is t, in the table of depth b -/
structure Beg (n c : Nat) (t : List Nat) (x : Wst) : Prop where
  nd : x.L.Nodup
  asc : Asc x.L
  lo0 : 0 ≤ x.lo
  hic : x.hi ≤ (c : Int)
  iff : ∀ k : Nat, k < c → ((fol n c (List.range' 0 t.length) (List.range' 0 n) k).1 = t ↔ x.lo ≤ (k : Int) ∧ (k : Int) < x.hi)
  rest : ∀ k : Nat, x.lo ≤ (k : Int) → (k : Int) < x.hi → ((fol n c (List.range' 0 t.length) (List.range' 0 n) k).2 : Int) = (k : Int) + x.mv ∧ folL n c (List.range' 0 t.length) (List.range' 0 n) k = x.L
  len : x.L.length = n - t.length
  lt : ∀ y ∈ x.L, y < n
  mem : ∀ z, z ∈ x.L ↔ z < n ∧ z ∉ t
theorem Beg.start (n c : Nat) : Beg n c [] ⟨0, (c : Int), 0, List.range' 0 n⟩ :=
  ⟨asc_nodup (asc_range' n 0), asc_range' n 0, Int.le_refl _, Int.le_refl _, fun k hk => ⟨fun _ => ⟨by show (0 : Int) ≤ _; omega, by show (k : Int) < (c : Int); omega⟩, fun _ => rfl⟩, fun k h1 h2 => ⟨by show (k : Int) = (k : Int) + 0; omega, rfl⟩, by rw [List.length_range']; rfl, fun y hy => mem_range0.mp hy, fun z => by rw [mem_range0]; simp⟩
theorem mem_erase_iff {L : List Nat} {i s : Nat} (nd : L.Nodup) (e : L[i]? = some s) (z : Nat) : z ∈ L.eraseIdx i ↔ z ∈ L ∧ z ≠ s := by
  have pm := erasePerm L i s e
  constructor
  · intro h
    refine ⟨List.mem_of_mem_eraseIdx h, fun c => ?_⟩
    rw [c] at h
    exact not_mem_erase nd e h
  · rintro ⟨h1, h2⟩
    rcases List.mem_cons.mp (pm.mem_iff.mpr h1) with h | h
    · exact absurd h h2
    · exact h
theorem idx_at {L : List Nat} {s : Nat} (h : s ∈ L) : L[L.idxOf s]? = some s := by
  rw [List.getElem?_eq_getElem (List.idxOf_lt_length_of_mem h), List.getElem_idxOf]
theorem div_block {w r i : Nat} (w0 : 0 < w) : r / w = i ↔ w * i ≤ r ∧ r < w * (i + 1) := by
  rw [Nat.div_eq_iff w0]
  rw [Nat.mul_comm i w]
  constructor
  · rintro ⟨h1, h2⟩
    rw [Nat.mul_add, Nat.mul_one]
    exact ⟨h1, by omega⟩
  · rintro ⟨h1, h2⟩
    rw [Nat.mul_add, Nat.mul_one] at h2
    exact ⟨h1, by omega⟩
/-- the rest stays within its bounds, on every way -/
theorem fwd_bound {n c d : Nat} (hd : ∀ b, b < d → n * C (n - 1) b ∣ c) (hc : 0 < c) (hdn : d ≤ n) {k : Nat} (hk : k < c) : ∀ b, b ≤ d →
    (folL n c (List.range' 0 b) (List.range' 0 n) k).length = n - b ∧ Asc (folL n c (List.range' 0 b) (List.range' 0 n) k) ∧ (∀ y ∈ folL n c (List.range' 0 b) (List.range' 0 n) k, y < n) ∧ (fol n c (List.range' 0 b) (List.range' 0 n) k).2 < c / C n b
  | 0, _ => ⟨by show (List.range' 0 n).length = n; rw [List.length_range'], asc_range' n 0, fun y hy => mem_range0.mp hy, by rw [C_zero, Nat.div_one]; exact hk⟩
  | b + 1, h => by
    obtain ⟨h1, h2, h3, h4⟩ := fwd_bound hd hc hdn hk b (by omega)
    have dv := hd b (by omega)
    have w0 := wd_pos dv hc
    have e := wd_out dv (show b < n by omega)
    have p := C_pos n b (by omega)
    have h5 : c / C n b = wd n c b * (n - b) := by
      conv => lhs; rw [← e]
      exact Nat.mul_div_cancel _ p
    rw [h5] at h4
    rw [range'_end, folL_snoc, fol_snoc]
    have hi : (fol n c (List.range' 0 b) (List.range' 0 n) k).2 / wd n c b < (folL n c (List.range' 0 b) (List.range' 0 n) k).length := by
      rw [h1]
      exact Nat.div_lt_of_lt_mul h4
    have hm : (fol n c (List.range' 0 b) (List.range' 0 n) k).2 % wd n c b < wd n c b := Nat.mod_lt _ w0
    have hx := getD_of hi
    have g2 := asc_le h2 h3 hx
    refine ⟨?_, asc_erase h2 _, fun y hy => h3 y (List.mem_of_mem_eraseIdx hy), ?_⟩
    · rw [List.length_eraseIdx, if_pos hi]
      omega
    · rw [wd_back dv (by omega)]
      show wd n c b * _ + _ < _
      have h6 : (folL n c (List.range' 0 b) (List.range' 0 n) k).getD ((fol n c (List.range' 0 b) (List.range' 0 n) k).2 / wd n c b) 0 - (fol n c (List.range' 0 b) (List.range' 0 n) k).2 / wd n c b ≤ b := by omega
      have h7 := Nat.mul_le_mul_left (wd n c b) h6
      rw [Nat.mul_add, Nat.mul_one]
      omega
theorem Beg.step {n c d : Nat} {t : List Nat} {x : Wst} (h : Beg n c t x) (hd : ∀ b, b < d → n * C (n - 1) b ∣ c) (hc : 0 < c) (hdn : d ≤ n) (hb : t.length < d) {s : Nat} (hs : s ∈ x.L) : Beg n c (t ++ [s]) (wStep n c t.length s x) := by
  have dv := hd t.length hb
  have w0 := wd_pos dv hc
  have hix := idx_at hs
  have hil := List.idxOf_lt_length_of_mem hs
  have his := asc_ge h.asc hix
  have ea : (t ++ [s]).length = t.length + 1 := by rw [List.length_append]; rfl
  have e := wd_out dv (show t.length < n by omega)
  have p := C_pos n t.length (by omega)
  have h5 : c / C n t.length = wd n c t.length * (n - t.length) := by
    conv => lhs; rw [← e]
    exact Nat.mul_div_cancel _ p
  -- where the rest lies
  have key : ∀ k : Nat, k < c → x.lo ≤ (k : Int) → (k : Int) < x.hi → ((fol n c (List.range' 0 t.length) (List.range' 0 n) k).2 / wd n c t.length = x.L.idxOf s ↔ (wd n c t.length : Int) * (x.L.idxOf s : Int) - x.mv ≤ (k : Int) ∧ (k : Int) < (wd n c t.length : Int) * ((x.L.idxOf s : Int) + 1) - x.mv) := by
    intro k hk h1 h2
    obtain ⟨r1, _⟩ := h.rest k h1 h2
    rw [div_block w0]
    have c1 : ((wd n c t.length * x.L.idxOf s : Nat) : Int) = (wd n c t.length : Int) * (x.L.idxOf s : Int) := Int.natCast_mul _ _
    have c2 : ((wd n c t.length * (x.L.idxOf s + 1) : Nat) : Int) = (wd n c t.length : Int) * ((x.L.idxOf s : Int) + 1) := Int.natCast_mul _ _
    constructor
    · rintro ⟨a, b⟩
      exact ⟨by omega, by omega⟩
    · rintro ⟨a, b⟩
      exact ⟨by omega, by omega⟩
  have got : ∀ k : Nat, k < c → x.lo ≤ (k : Int) → (k : Int) < x.hi → ((folL n c (List.range' 0 t.length) (List.range' 0 n) k).getD ((fol n c (List.range' 0 t.length) (List.range' 0 n) k).2 / wd n c t.length) 0 = s ↔ (fol n c (List.range' 0 t.length) (List.range' 0 n) k).2 / wd n c t.length = x.L.idxOf s) := by
    intro k hk h1 h2
    obtain ⟨r1, r2⟩ := h.rest k h1 h2
    obtain ⟨b1, _, _, b4⟩ := fwd_bound hd hc hdn hk t.length (by omega)
    rw [h5] at b4
    have hi : (fol n c (List.range' 0 t.length) (List.range' 0 n) k).2 / wd n c t.length < x.L.length := by
      rw [h.len]
      exact Nat.div_lt_of_lt_mul b4
    rw [r2]
    constructor
    · intro z
      have h8 := getD_of hi
      rw [z] at h8
      exact nodup_inj h.nd h8 hix
    · intro z
      rw [z]
      have h8 := getD_of hil
      rw [hix] at h8
      exact (Option.some.inj h8).symm
  refine ⟨h.nd.sublist (List.eraseIdx_sublist _ _), asc_erase h.asc _, ?_, ?_, fun k hk => ?_, fun k h1 h2 => ?_, ?_, fun y hy => h.lt y (List.mem_of_mem_eraseIdx hy), fun z => ?_⟩
  · have := h.lo0
    show 0 ≤ max x.lo _
    omega
  · have := h.hic
    show min x.hi _ ≤ _
    omega
  · rw [ea, range'_end, fol_snoc]
    show _ ++ [_] = t ++ [s] ↔ max x.lo _ ≤ (k : Int) ∧ (k : Int) < min x.hi _
    constructor
    · intro z
      obtain ⟨z1, z2⟩ := List.append_inj' z rfl
      obtain ⟨a, b⟩ := (h.iff k hk).mp z1
      have z3 := (got k hk a b).mp (List.singleton_inj.mp z2)
      have z4 := (key k hk a b).mp z3
      omega
    · intro z
      have a : x.lo ≤ (k : Int) ∧ (k : Int) < x.hi := by omega
      have z3 := (key k hk a.1 a.2).mpr (by omega)
      have z4 := (got k hk a.1 a.2).mpr z3
      rw [(h.iff k hk).mpr a, z4]
  · have h1' : max x.lo ((wd n c t.length : Int) * (x.L.idxOf s : Int) - x.mv) ≤ (k : Int) := h1
    have h2' : (k : Int) < min x.hi ((wd n c t.length : Int) * ((x.L.idxOf s : Int) + 1) - x.mv) := h2
    have a : x.lo ≤ (k : Int) ∧ (k : Int) < x.hi := by omega
    have hk : k < c := by
      have := h.hic
      omega
    have z3 := (key k hk a.1 a.2).mpr (by omega)
    have z4 := (got k hk a.1 a.2).mpr z3
    obtain ⟨r1, r2⟩ := h.rest k a.1 a.2
    rw [ea, range'_end, fol_snoc, folL_snoc, z3, r2]
    rw [z3, r2] at z4
    refine ⟨?_, rfl⟩
    show ((wd n c t.length * (x.L.getD (x.L.idxOf s) 0 - x.L.idxOf s) + (fol n c (List.range' 0 t.length) (List.range' 0 n) k).2 % wd n c t.length : Nat) : Int) = (k : Int) + (x.mv + (wd n c t.length : Int) * ((s : Int) - (x.L.idxOf s : Int) - (x.L.idxOf s : Int)))
    rw [z4]
    have dm := Nat.div_add_mod (fol n c (List.range' 0 t.length) (List.range' 0 n) k).2 (wd n c t.length)
    rw [z3] at dm
    generalize (fol n c (List.range' 0 t.length) (List.range' 0 n) k).2 % wd n c t.length = u at dm
    generalize x.L.idxOf s = i at *
    generalize wd n c t.length = w at *
    rw [Int.natCast_add, Int.natCast_mul, Int.natCast_sub his]
    have dm2 : (w : Int) * (i : Int) + (u : Int) = (k : Int) + x.mv := by
      rw [← r1, ← dm, Int.natCast_add, Int.natCast_mul]
    rw [Int.mul_sub, Int.mul_sub, Int.mul_sub]
    omega
  · rw [ea]
    show (x.L.eraseIdx _).length = _
    rw [List.length_eraseIdx, if_pos hil, h.len]
    omega
  · show z ∈ x.L.eraseIdx _ ↔ _
    rw [mem_erase_iff h.nd hix, h.mem, List.mem_append, List.mem_singleton]
    constructor
    · rintro ⟨⟨a, b⟩, e⟩
      exact ⟨a, fun q => q.elim b e⟩
    · rintro ⟨a, b⟩
      exact ⟨⟨a, fun q => b (.inl q)⟩, fun q => b (.inr q)⟩
theorem fol_take (n c k : Nat) (b : Nat) : ∀ m : Nat, (fol n c (List.range' 0 (b + m)) (List.range' 0 n) k).1.take b = (fol n c (List.range' 0 b) (List.range' 0 n) k).1
  | 0 => by
    have := fol_len n c (List.range' 0 b) (List.range' 0 n) k
    rw [List.length_range'] at this
    exact List.take_of_length_le (by rw [Nat.add_zero]; omega)
  | m + 1 => by
    rw [show b + (m + 1) = b + m + 1 from rfl, range'_end, fol_snoc]
    have := fol_len n c (List.range' 0 (b + m)) (List.range' 0 n) k
    rw [List.length_range'] at this
    show (_ ++ [_]).take b = _
    rw [List.take_append_of_le_length (by omega)]
    exact fol_take n c k b m
theorem wRun_some {n c d : Nat} (hd : ∀ b, b < d → n * C (n - 1) b ∣ c) (hc : 0 < c) (hdn : d ≤ n) {k : Nat} (hk : k < c) : ∀ (r t : List Nat) (x : Wst), t.length + r.length ≤ d → Beg n c t x → (fol n c (List.range' 0 (t.length + r.length)) (List.range' 0 n) k).1 = t ++ r → ∃ y, wRun n c t.length r x = some y ∧ Beg n c (t ++ r) y
  | [], t, x, _, h, _ => ⟨x, rfl, by rw [List.append_nil]; exact h⟩
  | s :: r, t, x, hl, h, he => by
    have el : (s :: r).length = r.length + 1 := rfl
    have e1 : (fol n c (List.range' 0 t.length) (List.range' 0 n) k).1 = t := by
      have := fol_take n c k t.length (s :: r).length
      rw [he, List.take_left] at this
      exact this.symm
    have ea : (t ++ [s]).length = t.length + 1 := by rw [List.length_append]; rfl
    have e2 : (fol n c (List.range' 0 (t.length + 1)) (List.range' 0 n) k).1 = t ++ [s] := by
      have := fol_take n c k (t.length + 1) r.length
      rw [show t.length + 1 + r.length = t.length + (s :: r).length by omega, he] at this
      rw [← this, show t ++ s :: r = (t ++ [s]) ++ r by simp, ← ea, List.take_left]
    have in1 := (h.iff k hk).mp e1
    obtain ⟨r1, r2⟩ := h.rest k in1.1 in1.2
    have dv := hd t.length (by omega)
    have w0 := wd_pos dv hc
    obtain ⟨b1, b2, b3, b4⟩ := fwd_bound hd hc hdn hk t.length (by omega)
    have hs : s ∈ x.L := by
      have e3 := e2
      rw [range'_end, fol_snoc] at e3
      obtain ⟨_, z2⟩ := List.append_inj' e3 rfl
      have z3 := List.singleton_inj.mp z2
      rw [← r2, ← z3]
      refine List.mem_of_getElem? (getD_of ?_)
      rw [b1]
      have e := wd_out dv (show t.length < n by omega)
      have p := C_pos n t.length (by omega)
      have h5 : c / C n t.length = wd n c t.length * (n - t.length) := by
        conv => lhs; rw [← e]
        exact Nat.mul_div_cancel _ p
      rw [h5] at b4
      exact Nat.div_lt_of_lt_mul b4
    have st := h.step hd hc hdn (by omega) hs
    have in2 := (st.iff k hk).mp (by rw [ea]; exact e2)
    obtain ⟨y, y1, y2⟩ := wRun_some hd hc hdn hk r (t ++ [s]) _ (by rw [ea]; omega) st (by rw [ea, show t.length + 1 + r.length = t.length + (s :: r).length by omega, he]; simp)
    refine ⟨y, ?_, by rw [show t ++ s :: r = (t ++ [s]) ++ r by simp]; exact y2⟩
    show (if s ∈ x.L then _ else none) = _
    rw [if_pos hs, if_neg (by omega)]
    rw [ea] at y1
    exact y1
theorem wRun_snoc (n c s : Nat) : ∀ (r : List Nat) (b : Nat) (x : Wst), wRun n c b (r ++ [s]) x = (wRun n c b r x).bind fun y => wRun n c (b + r.length) [s] y
  | [], b, x => rfl
  | u :: r, b, x => by
    show (if u ∈ x.L then _ else none) = Option.bind (if u ∈ x.L then _ else none) _
    by_cases h1 : u ∈ x.L
    · rw [if_pos h1, if_pos h1]
      by_cases h2 : (wStep n c b u x).hi ≤ (wStep n c b u x).lo
      · rw [if_pos h2, if_pos h2]
        rfl
      · rw [if_neg h2, if_neg h2]
        have := wRun_snoc n c s r (b + 1) (wStep n c b u x)
        rw [show (u :: r).length = r.length + 1 from rfl, show b + (r.length + 1) = b + 1 + r.length by omega]
        exact this
    · rw [if_neg h1, if_neg h1]
      rfl
/-- where the numbers of the first i continuations end -/
def cutAt (w : Nat) (y : Wst) (i : Nat) : Int := min y.hi (max y.lo ((w : Int) * (i : Int) - y.mv))
end Ef
namespace Ef
/-! ### sets and their numbers -/
def many (k : Nat) : Nat → Nat
  | 0 => 0
  | j + 1 => C k j
theorem C_many (k j : Nat) : C (k + 1) j = many k j + C k j := by
  cases j with
  | zero => rw [C_zero, C_zero]; rfl
  | succ j => exact C_ss k j
theorem binZ_many (k j : Nat) : binZ (k : Int) ((j : Int) - 1) = (many k j : Int) := by
  cases j with
  | zero => exact if_pos (.inl (by decide))
  | succ j =>
    rw [show ((j + 1 : Nat) : Int) - 1 = (j : Int) by omega]
    exact binZ_nat k j
/-- the set with the number r among those of j of the k servers from s on -/
def unr : Nat → Nat → Nat → Nat → List Nat
  | _, 0, _, _ => []
  | s, k + 1, j, r => if r < many k j then s :: unr (s + 1) k (j - 1) r else unr (s + 1) k j (r - many k j)
/-- the number of a set among those of its size of the k servers from s on -/
def rnk : Nat → Nat → List Nat → Nat
  | _, 0, _ => 0
  | s, k + 1, ms => if ms.head? = some s then rnk (s + 1) k ms.tail else many k ms.length + rnk (s + 1) k ms
def Sub (s k : Nat) (ms : List Nat) : Prop := ms.Pairwise (· < ·) ∧ ∀ m ∈ ms, s ≤ m ∧ m < s + k
theorem unr_spec : ∀ (k s j r : Nat), r < C k j → (unr s k j r).length = j ∧ Sub s k (unr s k j r) ∧ rnk s k (unr s k j r) = r
  | 0, s, j, r, h => by
    cases j with
    | zero =>
      have h0 : r < 1 := h
      exact ⟨rfl, ⟨List.Pairwise.nil, fun m hm => absurd hm List.not_mem_nil⟩, by show 0 = r; omega⟩
    | succ j => exact absurd h (Nat.not_lt_zero _)
  | k + 1, s, j, r, h => by
    rw [C_many] at h
    by_cases c : r < many k j
    · have e : unr s (k + 1) j r = s :: unr (s + 1) k (j - 1) r := if_pos c
      cases j with
      | zero => exact absurd c (Nat.not_lt_zero _)
      | succ j =>
        obtain ⟨h1, h2, h3⟩ := unr_spec k (s + 1) j r c
        rw [e]
        refine ⟨?_, ⟨?_, ?_⟩, ?_⟩
        · show (unr (s + 1) k j r).length + 1 = j + 1
          rw [h1]
        · refine List.Pairwise.cons (fun m hm => ?_) h2.1
          have := h2.2 m hm
          omega
        · intro m hm
          rcases List.mem_cons.mp hm with rfl | hm
          · omega
          · have := h2.2 m hm
            omega
        · have e3 : rnk s (k + 1) (s :: unr (s + 1) k j r) = rnk (s + 1) k (unr (s + 1) k j r) := if_pos rfl
          exact e3.trans h3
    · have e : unr s (k + 1) j r = unr (s + 1) k j (r - many k j) := if_neg c
      obtain ⟨h1, h2, h3⟩ := unr_spec k (s + 1) j (r - many k j) (by omega)
      rw [e]
      refine ⟨h1, ⟨h2.1, fun m hm => by have := h2.2 m hm; omega⟩, ?_⟩
      have hh : ¬ (unr (s + 1) k j (r - many k j)).head? = some s := fun z => by
        have hm : s ∈ unr (s + 1) k j (r - many k j) := List.mem_of_mem_head? z
        have := h2.2 s hm
        omega
      show (if (unr (s + 1) k j (r - many k j)).head? = some s then _ else many k (unr (s + 1) k j (r - many k j)).length + rnk (s + 1) k (unr (s + 1) k j (r - many k j))) = r
      rw [if_neg hh, h1, h3]
      omega
theorem rnk_spec : ∀ (k s : Nat) (ms : List Nat), Sub s k ms → rnk s k ms < C k ms.length ∧ unr s k ms.length (rnk s k ms) = ms
  | 0, s, ms, h => by
    cases ms with
    | nil => exact ⟨Nat.one_pos, rfl⟩
    | cons m r =>
      have := h.2 m List.mem_cons_self
      omega
  | k + 1, s, ms, h => by
    by_cases c : ms.head? = some s
    · cases ms with
      | nil => cases c
      | cons m t =>
        obtain rfl : m = s := Option.some.inj c
        have ht : Sub (m + 1) k t := ⟨(List.pairwise_cons.mp h.1).2, fun x hx => by
          have h1 := (List.pairwise_cons.mp h.1).1 x hx
          have h2 := h.2 x (List.mem_cons_of_mem _ hx)
          omega⟩
        obtain ⟨h1, h2⟩ := rnk_spec k (m + 1) t ht
        have e : rnk m (k + 1) (m :: t) = rnk (m + 1) k t := if_pos rfl
        rw [e]
        have hm : rnk (m + 1) k t < many k (t.length + 1) := h1
        refine ⟨?_, ?_⟩
        · rw [C_many]
          exact Nat.lt_of_lt_of_le hm (Nat.le_add_right _ _)
        · show unr m (k + 1) (t.length + 1) (rnk (m + 1) k t) = m :: t
          have e2 : unr m (k + 1) (t.length + 1) (rnk (m + 1) k t) = m :: unr (m + 1) k t.length (rnk (m + 1) k t) := if_pos hm
          rw [e2, h2]
    · have hs : Sub (s + 1) k ms := ⟨h.1, fun x hx => by
        have h2 := h.2 x hx
        have hne : x ≠ s := fun z => by
          subst z
          cases ms with
          | nil => cases hx
          | cons m t =>
            rcases List.mem_cons.mp hx with z | hx
            · exact c (by rw [z]; rfl)
            · have h3 := (List.pairwise_cons.mp h.1).1 x hx
              have h4 := h.2 m List.mem_cons_self
              omega
        omega⟩
      obtain ⟨h1, h2⟩ := rnk_spec k (s + 1) ms hs
      have e : rnk s (k + 1) ms = many k ms.length + rnk (s + 1) k ms := if_neg c
      rw [e]
      refine ⟨by rw [C_many]; omega, ?_⟩
      have e2 : unr s (k + 1) ms.length (many k ms.length + rnk (s + 1) k ms) = unr (s + 1) k ms.length (many k ms.length + rnk (s + 1) k ms - many k ms.length) := if_neg (by omega)
      rw [e2, Nat.add_sub_cancel_left, h2]
/-! the small sets, one after the other -/
def allG (few : Nat) : Nat → List (List Nat)
  | 0 => [[]]
  | i + 1 => allG few i ++ ((allG few i).filter fun s => decide (s.length < few)).map fun s => s ++ [i]
def allS (n few : Nat) : List (List Nat) := (allG few n).filter fun s => decide (s.length = few)
def inOrder (n few : Nat) : List (List Nat) := (List.range (C n few)).map (unr 0 n few)
def codeN : List Nat → Nat
  | [] => 0
  | d :: r => d * 8 ^ r.length + codeN r
def smallOk (n few : Nat) : Bool := (allS n few).isPerm (inOrder n few) && decide ((inOrder n few).Pairwise fun a b => codeN a < codeN b)
theorem small_sets : ((List.range 6).all fun i => (List.range (i + 3)).all fun few => smallOk (i + 2) few) = true := by decide +kernel
theorem small_lens : ((List.range 6).all fun i => (List.range (i + 3)).all fun few => decide (C (i + 2) few < 64) && (allS (i + 2) few).all fun s => decide (s.length = few) && s.all fun m => decide (m < 8)) = true := by decide +kernel
theorem gen_lens : ((List.range 6).all fun i => (List.range (i + 3)).all fun few => (List.range (i + 3)).all fun t => decide ((allG few t).length ≤ 200) && (allG few t).all fun s => decide (s.length ≤ 8)) = true := by decide +kernel
theorem small_sets' {n k : Nat} (h2 : 2 ≤ n) (h7 : n ≤ 7) (hk : k ≤ n) : (allS n k).Perm (inOrder n k) ∧ (inOrder n k).Pairwise (fun a b => codeN a < codeN b) ∧ C n k < 64 ∧ ∀ s ∈ allS n k, s.length = k ∧ ∀ m ∈ s, m < 8 := by
  obtain ⟨i, rfl⟩ : ∃ i, n = i + 2 := ⟨n - 2, by omega⟩
  have h1 := List.all_eq_true.mp (List.all_eq_true.mp small_sets i (List.mem_range.mpr (by omega))) k (List.mem_range.mpr (by omega))
  unfold smallOk at h1
  rw [Bool.and_eq_true] at h1
  have h3 := List.all_eq_true.mp (List.all_eq_true.mp small_lens i (List.mem_range.mpr (by omega))) k (List.mem_range.mpr (by omega))
  rw [Bool.and_eq_true] at h3
  refine ⟨List.isPerm_iff.mp h1.1, of_decide_eq_true h1.2, of_decide_eq_true h3.1, fun s hs => ?_⟩
  have h4 := List.all_eq_true.mp h3.2 s hs
  rw [Bool.and_eq_true] at h4
  exact ⟨of_decide_eq_true h4.1, fun m hm => of_decide_eq_true (List.all_eq_true.mp h4.2 m hm)⟩
theorem gen_lens' {n k t : Nat} (h2 : 2 ≤ n) (h7 : n ≤ 7) (hk : k ≤ n) (ht : t ≤ n) : (allG k t).length ≤ 200 ∧ ∀ s ∈ allG k t, s.length ≤ 8 := by
  obtain ⟨i, rfl⟩ : ∃ i, n = i + 2 := ⟨n - 2, by omega⟩
  have h1 := List.all_eq_true.mp (List.all_eq_true.mp (List.all_eq_true.mp gen_lens i (List.mem_range.mpr (by omega))) k (List.mem_range.mpr (by omega))) t (List.mem_range.mpr (by omega))
  rw [Bool.and_eq_true] at h1
  exact ⟨of_decide_eq_true h1.1, fun s hs => of_decide_eq_true (List.all_eq_true.mp h1.2 s hs)⟩
theorem code_inj {L : List (List Nat)} (h : L.Pairwise fun a b => codeN a < codeN b) {a b : List Nat} (ha : a ∈ L) (hb : b ∈ L) (e : codeN a = codeN b) : a = b := by
  induction L with
  | nil => cases ha
  | cons x r ih =>
    obtain ⟨h1, h2⟩ := List.pairwise_cons.mp h
    rcases List.mem_cons.mp ha with e1 | ha2
    · rcases List.mem_cons.mp hb with e2 | hb2
      · rw [e1, e2]
      · have := h1 b hb2
        rw [← e1] at this
        omega
    · rcases List.mem_cons.mp hb with e2 | hb2
      · have := h1 a ha2
        rw [← e2] at this
        omega
      · exact ih h2 ha2 hb2
theorem order_unique {L M : List (List Nat)} (hM : M.Pairwise fun a b => codeN a < codeN b) (hL : L.Pairwise fun a b => codeN a ≤ codeN b) (h : L.Perm M) : L = M := by
  induction M generalizing L with
  | nil => exact List.perm_nil.mp h
  | cons x r ih =>
    cases L with
    | nil => exact absurd h.length_eq (by simp)
    | cons y t =>
      obtain ⟨h1, h2⟩ := List.pairwise_cons.mp hM
      obtain ⟨h3, h4⟩ := List.pairwise_cons.mp hL
      have hyx : y = x := by
        have hy : y ∈ x :: r := h.mem_iff.mp List.mem_cons_self
        have hx : x ∈ y :: t := h.mem_iff.mpr List.mem_cons_self
        rcases List.mem_cons.mp hy with e | hy
        · exact e
        · rcases List.mem_cons.mp hx with e | hx
          · exact e.symm
          · have h5 := h1 y hy
            have h6 := h3 x hx
            omega
      subst hyx
      rw [ih h2 h4 h.cons_inv]
end Ef
namespace Ef
open PySem PySem.Spec PyProof.Rows L2
/-! ### a call whose arguments are all given by name -/
def permL {α : Type} (perm : List Nat) (n : Nat) (us ws : List α) : List α :=
  if us.length = 0 ∧ ws.length = n then perm.filterMap (fun i => ws[i]?) else []
theorem paired_len {α β : Type} {F : α → β → Prop} : ∀ {l : List α} {m : List β}, Paired F l m → l.length = m.length
  | _, _, .nil => rfl
  | _, _, .cons _ t => congrArg (· + 1) (paired_len t)
theorem paired_at {α β : Type} {F : α → β → Prop} : ∀ {l : List α} {m : List β}, Paired F l m → ∀ i : Nat, (l[i]? = none ∧ m[i]? = none) ∨ ∃ x y, l[i]? = some x ∧ m[i]? = some y ∧ F x y
  | _, _, .nil, _ => .inl ⟨rfl, rfl⟩
  | _, _, .cons h _, 0 => .inr ⟨_, _, rfl, rfl, h⟩
  | _, _, .cons _ t, i + 1 => by
    rw [List.getElem?_cons_succ, List.getElem?_cons_succ]
    exact paired_at t i
theorem paired_pick {α β : Type} {F : α → β → Prop} {l : List α} {m : List β} (h : Paired F l m) : ∀ perm : List Nat, Paired F (perm.filterMap (fun i => l[i]?)) (perm.filterMap (fun i => m[i]?))
  | [] => .nil
  | i :: r => by
    rcases paired_at h i with ⟨e1, e2⟩ | ⟨x, y, e1, e2, f⟩
    · rw [List.filterMap_cons_none e1, List.filterMap_cons_none e2]
      exact paired_pick h r
    · rw [List.filterMap_cons_some e1, List.filterMap_cons_some e2]
      exact .cons f (paired_pick h r)
theorem permL_rel {perm : List Nat} {n : Nat} {vs zs : List V} {us ws : List Value} (r : Vals vs us) (rz : Vals zs ws) : Vals (permL perm n vs zs) (permL perm n us ws) := by
  unfold permL
  rw [paired_len r, paired_len rz]
  by_cases h : us.length = 0 ∧ ws.length = n
  · rw [if_pos h, if_pos h]
    exact paired_pick rz perm
  · rw [if_neg h, if_neg h]
    exact .nil
theorem kb_of {K : PySem.W.Frag} {fd : FuncData} {ps ks : List Str} {perm : List Nat} {n : Nat} (h0 : ps ≠ [])
    (h : ∀ ws : List Value, ws.length = n → bindArgs fd ⟨[], ks.zip ws⟩ = pure (ps.zip (perm.filterMap (fun i => ws[i]?)))) :
    KBinds K fd ps ks (permL perm n) (permL perm n) := by
  refine ⟨fun s us ws _ hl => ?_, fun r rz => permL_rel r rz⟩
  unfold permL at hl ⊢
  by_cases c : us.length = 0 ∧ ws.length = n
  · rw [if_pos c]
    have e : us = [] := List.length_eq_zero_iff.mp c.1
    subst e
    exact .of_eq (h ws c.2)
  · rw [if_neg c] at hl
    exact absurd (List.length_eq_zero_iff.mp hl.symm) h0
theorem Fun_kb {K : PySem.W.Frag} {x qual : Str} {st : Stmt} {f : Addr} {fd : FuncData} {ps ks : List Str} (perm : List Nat) (n : Nat) (F : Fun K x qual st f fd) (h0 : ps ≠ [])
    (h : ∀ (kV doc pm : Value) (an : Option Addr) (cdv ct : Value) (ws : List Value), ws.length = n → bindArgs (PySem.W.fnOf x qual (defArgs st) (defBody st) (defScope st) .none kV doc pm an cdv ct) ⟨[], ks.zip ws⟩ = pure (ps.zip (perm.filterMap (fun i => ws[i]?)))) :
    KBinds K fd ps ks (permL perm n) (permL perm n) := by
  obtain ⟨oc, od, kV, doc, pm, an, cdv, ct, osl, rfl, lk, hcd⟩ := F.ex
  exact kb_of h0 (h kV doc pm an cdv ct)
section
variable {X : Cx} {CX : CXT} {k : Nat} {f : Addr} {fd : FuncData} {ps ks : List Str} {sp : Sp} {E : XK} {x : Str} {p pos : Pos} {kws : List Keyword} {tk : TA}
variable {g : List Value → List Value → List Value} {gV : List V → List V → List V}
/-- f(k = v, ..) -/
theorem pe_kw (F : FnOk X.prog X.w X.K X.mg X.base CX k f fd ps sp) (hr : Room k X.A) (hg : Gl X x) (hm : X.mg x = some (.ref f))
    (hk : PySem.W.keepIn X.K (.ref f) = true) (hb : KBinds X.K fd ps ks g gV) (hx : Passes CX X E) (hkw : PK X kws tk)
    (a1 : (backToKw pos (keywordEach kws X.env)).all (fun z => z.1.isSome) = true := by rfl)
    (a2 : (backToKw pos (keywordEach kws X.env)).filterMap (fun z => z.1) = ks := by rfl)
    (a3 : (x == ("__debug__" : Str)) = false := by decide)
    (a4 : ((backTo pos (starEach [] X.env)).any (fun z => z.1) || (backToKw pos (keywordEach kws X.env)).any (fun z => z.1.isNone)) = false := by rfl) :
    PE X (.Call (.Name x p) [] kws pos) (tCallK sp gV E tNil tk) := by
  refine ⟨fun pins s σ H Q I h => wpAny_Call_Name_kw (ld_glob I hg hm ?_ a3)⟩
  refine PySem.W.callWith_KW0 (h₀ := X.base) I.ok.mod.kin hk a1 ?_ a4
  refine thn (hkw.run pos pins s σ H _ I h) fun ws s2 z => ?_
  obtain ⟨zs, H2, I2, rz, q2⟩ := z
  refine ⟨I2.kIn, ?_⟩
  rw [a2]
  exact run_fnk (us := []) (vs := []) F hr hb hx I2 .nil rz q2
end
/-! ### heaps -/
theorem same_new {H : Hp} {p : Addr} {o : HO} (h : H p = none) : Same H (upd H p o) := fun b x e => by
  rw [upd_ne (ne_of_none e h)]
  exact e
theorem keep_upd {H H1 : Hp} {p : Addr} {o : HO} (s : Same H H1) (h : H p = none) : Same H (upd H1 p o) := fun b x e => by
  rw [upd_ne (ne_of_none e h)]
  exact s b x e
/-- all but what stands at p is as it was -/
def But (p : Addr) (H H' : Hp) : Prop := ∀ b o, b ≠ p → H b = some o → H' b = some o
theorem But.refl (p : Addr) (H : Hp) : But p H H := fun _ _ _ e => e
theorem But.trans {p : Addr} {H H1 H2 : Hp} (s : But p H H1) (t : But p H1 H2) : But p H H2 := fun b o n e => t b o n (s b o n e)
theorem But.same {p : Addr} {H H1 H2 : Hp} (s : But p H H1) (t : Same H1 H2) : But p H H2 := fun b o n e => t b o (s b o n e)
theorem But.of {p : Addr} {H H1 : Hp} (t : Same H H1) : But p H H1 := fun b o _ e => t b o e
theorem But.upd {p : Addr} {H H1 : Hp} {o : HO} (s : But p H H1) : But p H (upd H1 p o) := fun b x n e => by
  rw [upd_ne n]
  exact s b x n e
theorem But.to {p : Addr} {H H1 : Hp} (s : But p H H1) (h : H p = none) : Same H H1 := fun b x e => s b x (ne_of_none e h) e
theorem But.seq {K : PySem.W.Frag} {p a : Addr} {H H' : Hp} {xs : List V} (e : But p H H') (n : a ≠ p) (h : SqL K H a xs) : SqL K H' a xs := by
  rcases h with (h | ⟨o, h⟩) | h
  · exact .inl (.inl (e _ _ n h))
  · exact .inl (.inr ⟨o, e _ _ n h⟩)
  · exact .inr h
end Ef
namespace Ef
open PySem PySem.Spec PyProof.Rows L2
/-! ### promises of defs that are called where no repr is under way -/
structure FnG (P : Program) (w : World) (K : PySem.W.Frag) (mg : Str → Option Value) (base : Heap) (CX : CXT) (k : Nat) (f : Addr) (fd : FuncData) (ps : List Str) (sp : Sp) : Prop where
  len : ∀ vs H Q E, sp vs H Q E → vs.length = ps.length
  run : ∀ (A : Around), A.guards = some [] → ∀ (outer : List Env) (s : Shared) (H : Hp) (args : Args) (us : List Value) (vs : List V) (Q : VK) (E : XK),
    Room k A → Env0 P w K mg base A outer s H → BindsTo s fd args (ps.zip us) → Vals vs us → sp vs H Q E →
      codeAny (model P w) A (.call (.ref f) args) (CR CX outer P w H s Q E) s
section
variable {P : Program} {w : World} {K : PySem.W.Frag} {mg : Str → Option Value} {base : Heap} {CX : CXT}
theorem FnG.of {k : Nat} {f : Addr} {fd : FuncData} {ps : List Str} {sp : Sp} (F : FnOk P w K mg base CX k f fd ps sp) : FnG P w K mg base CX k f fd ps sp :=
  ⟨F.len, fun A _ outer s H args us vs Q E => F.run A outer s H args us vs Q E⟩
theorem Fun_okG {x qual : Str} {st : Stmt} {f : Addr} {fd : FuncData} {N ps : List Str} {k : Nat} {sp : Sp} (F : Fun K x qual st f fd) (S : FnScope N ps (defScope st)) (len : ∀ vs H Q E, sp vs H Q E → vs.length = ps.length)
    (bod : ∀ (cdv : Value) (A : Around) (outer : List Env) (s : Shared) (H : Hp) (vs : List V) (Q : VK) (E : XK), A.guards = some [] → Room k (A.deeper (envOfC qual (defScope st) s.heap.objs.size f cdv)) → sp vs H Q E →
      ∃ t, PSs (cxOf CX P w K mg base N qual (defScope st) f cdv A outer s H E) (defBody st) t ∧ t { nx := fun _ H' => Q .non H', rt := Q } (start N vs) H) :
    FnG P w K mg base CX (k + 1) f fd ps sp := by
  obtain ⟨oc, od, kV, doc, pm, an, cdv, ct, osl, rfl, lk, hcd⟩ := F.ex
  refine ⟨len, fun A gd outer s H args us vs Q E room e0 bnd rel wish => ?_⟩
  have kin : K.In s.heap := e0.mod.kin.keeps fun b o z => (e0.bs b o z).1
  have nolim : s.heap.NoLimit := e0.mod.nolimit.keeps fun b o z => (e0.bs b o z).1
  refine codeAny_call_function room.depth (kin _ _ lk) rfl S.co S.gen rfl (PySem.W.codeRec_of kin hcd) (bnd _ _ _ _ ?_)
  refine wpAny_newFunctionEnv_cells S.kind ?_ fun env hev s1 ic => ?_
  · rintro ⟨n, v⟩ hy
    rcases S.par n (List.of_mem_zip hy).1 with z | z
    · exact .inl z
    · exact .inr ⟨z, PySem.W.cellsFrom_some _ _ _ (.inl z)⟩
  · subst hev
    refine ⟨nolim.keeps ic.toInCall.keep, codeAny_func ?_⟩
    obtain ⟨t, pt, rd⟩ := bod cdv A outer s H vs Q E gd (room.deeper _) wish
    have J0 := inv_start (CX := CX) (E := E) S room.hd e0 (len _ _ _ _ wish) rel ic
    refine wpAny_mono (pt.run [] s1 (start N vs) H _ J0 rd) (fun fl s' got => ?_) fun e s' got => got
    cases fl with
    | brk =>
      obtain ⟨_, _, _, z⟩ := got
      exact z.elim
    | cont =>
      obtain ⟨_, _, _, z⟩ := got
      exact z.elim
    | next =>
      obtain ⟨σ', H', J, z⟩ := got
      exact ⟨V.non, H', J.os, J.bare, J.base, J.hok, (rfl : RelV V.non Value.none), z⟩
    | ret u =>
      obtain ⟨v, σ', H', J, rv, z⟩ := got
      exact ⟨v, H', J.os, J.bare, J.base, J.hok, rv, z⟩
end
/-- the same of a def that lets no exception out -/
theorem Fun_ok0 {P : Program} {w : World} {K : PySem.W.Frag} {mg : Str → Option Value} {base : Heap} {x qual : Str} {st : Stmt} {f : Addr} {fd : FuncData} {N ps : List Str} {k : Nat} {sp : Sp} (F : Fun K x qual st f fd) (S : FnScope N ps (defScope st)) (len : ∀ vs H Q E, sp vs H Q E → vs.length = ps.length)
    (bod : ∀ (cdv : Value) (A : Around) (outer : List Env) (s : Shared) (H : Hp) (vs : List V) (Q : VK) (E : XK), A.guards = some [] → Room k (A.deeper (envOfC qual (defScope st) s.heap.objs.size f cdv)) → sp vs H Q E →
      ∃ t, PSs (cxOf CX0 P w K mg base N qual (defScope st) f cdv A outer s H E).nox (defBody st) t ∧ t { nx := fun _ H' => Q .non H', rt := Q } (start N vs) H) :
    FnG P w K mg base CX0 (k + 1) f fd ps sp :=
  Fun_okG F S len fun cdv A outer s H vs Q E gd room wish => by
    obtain ⟨t, pt, rd⟩ := bod cdv A outer s H vs Q E gd room wish
    exact ⟨t, pt.nox, rd⟩
section
variable {X : Cx} {CX : CXT} {k : Nat} {f : Addr} {fd : FuncData} {ps : List Str} {sp : Sp} {E : XK} {x : Str} {p pos : Pos} {e : Expr} {es : List Expr} {t : TA}
theorem run_G {pins : List (Addr × Obj)} {σ : L2.St} {H : Hp} {s : Shared} {Q : VK} {us : List Value} {vs : List V} (F : FnG X.prog X.w X.K X.mg X.base CX k f fd ps sp)
    (gd : X.A.guards = some []) (room : Room k X.A) (bnd : Binds X.K fd ps []) (pass : Passes CX X E) (I : Inv X pins σ H s) (rel : Vals vs us) (wish : sp vs H Q E) :
    wpAny (model X.prog X.w) X.A (call (.ref f) us) (EP X pins σ Q) X.xe s := by
  have hl : (us ++ []).length = ps.length := by
    rw [List.append_nil, ← rel.length]
    exact F.len _ _ _ _ wish
  have b1 := bnd s us I.kIn hl
  rw [List.append_nil] at b1
  refine wpAny_call (codeAny_mono (F.run X.A gd X.stack s H ⟨us, []⟩ us vs Q E room I.env0 b1 rel wish) fun res s' got => ?_)
  cases res with
  | error z => exact pass pins σ H s z s' I got
  | ok fl =>
    cases fl with
    | ret u => exact I.after got
    | next => exact got.elim
    | brk => exact got.elim
    | cont => exact got.elim
/-- f(e, ..) of a def whose promise holds where no repr is under way -/
theorem pe_callG (F : FnG X.prog X.w X.K X.mg X.base CX k f fd ps sp) (gd : X.A.guards = some []) (room : Room k X.A) (hg : Gl X x) (hm : X.mg x = some (.ref f))
    (hk : PySem.W.keepIn X.K (.ref f) = true) (bnd : Binds X.K fd ps []) (pass : Passes CX X E) (ha : PA X (e :: es) t)
    (a1 : (x == ("__debug__" : Str)) = false := by decide) (a2 : starEach (e :: es) X.env = (false, eval e X.env) :: starEach es X.env := by rfl)
    (a3 : (backTo pos (starEach es X.env)).any (fun z => z.1) = false := by rfl) :
    PE X (.Call (.Name x p) (e :: es) [] pos) (tCall sp [] E t) := by
  refine ⟨fun pins s σ H Q I h => wpAny_Call_Name_kw (ld_glob I hg hm ?_ a1)⟩
  refine PySem.W.callWith_K (h₀ := X.base) I.ok.mod.kin hk (thn (ha.run pos pins s σ H _ I h) fun us s1 z => ?_) a2 a3
  obtain ⟨vs, H1, I1, r, q⟩ := z
  rw [List.append_nil] at q
  exact ⟨I1.kIn, run_G F gd room bnd pass I1 r q⟩
end
/-! ### the law's own end, where no repr is under way -/
def scriptObj (vs : List Value) : Obj := { cls := .type "list", data := .seq vs.toArray }
def scriptHp (K : PySem.W.Frag) (a : Addr) (vs : List Value) (ns : List Int) : Hp := fun b => if b = a ∧ K.lookup a = none then some (.frz (scriptObj vs) (.lst (ns.map V.int))) else none
section
variable {K : PySem.W.Frag} {a : Addr} {vs : List Value} {ns : List Int}
theorem scriptHp_only : Only (scriptHp K a vs ns) := fun b => by
  unfold scriptHp
  by_cases c : b = a ∧ K.lookup a = none
  · exact .inr ⟨_, _, if_pos c⟩
  · exact .inl (if_neg c)
theorem scriptHp_some {b : Addr} {u : HO} (h : scriptHp K a vs ns b = some u) : b = a ∧ K.lookup a = none ∧ u = .frz (scriptObj vs) (.lst (ns.map V.int)) := by
  unfold scriptHp at h
  by_cases c : b = a ∧ K.lookup a = none
  · rw [if_pos c] at h
    exact ⟨c.1, c.2, (Option.some.inj h).symm⟩
  · rw [if_neg c] at h
    cases h
theorem scriptHp_none {b : Addr} {o : Obj} {h : Heap} (ha : h.get? a = some (scriptObj vs)) (e : h.get? b = some o) (hd : ∀ its n, o.data ≠ .seq its n) : scriptHp K a vs ns b = none := by
  cases q : scriptHp K a vs ns b with
  | none => rfl
  | some u =>
    obtain ⟨rfl, _, _⟩ := scriptHp_some q
    rw [ha] at e
    cases e
    exact absurd rfl (hd vs.toArray _)
theorem lawG {l : PySem.W.OpenLaw} {n k : Nat} {q : Program} {loose : List Str} {XP : (Str → Option Value) → Heap → Prop} {YP : World → Heap → Prop} {d : DefRec} {K : Params → PySem.W.Frag} {sp : World → Sp} {x : Str}
    (hn : l.most = some n) (hn2 : n ≤ sizeLine) (hdf : d.params.defaults = []) (room : Room k callerA)
    (hY : ∀ (w : World) (h : Heap), YP w h → (K w.params).In h)
    (F : ∀ (w : World) (mg : Str → Option Value) (fa : Addr) (h : Heap), (K w.params).In h → h.Ns mainGlobals mg → mg d.name = some (.ref fa) →
      ∃ fd : FuncData, (∀ (s : Shared) (u : Value), BindsTo s fd ⟨[u], []⟩ [(x, u)]) ∧
        ∀ base : Heap, (K w.params).In base → base.Ns mainGlobals mg → FnG l.prog w (K w.params) mg base CX0 k fa fd [x] (sp w))
    (hsp : ∀ (w : World) (H : Hp) (a : Addr) (ns : List Int), ns.length ≤ n → Only H → SqL (K w.params) H a (ns.map V.int) → sp w [.ref a] H (fun v _ => v = .bl true) fun _ _ _ => False) :
    PySem.W.WalkO q loose XP YP l.row.toRowW d [] (fun f vs => PySem.call f vs) := by
  refine Att.attach_call hn hdf fun w s₀ s₁ mg mb fa o pm cd doc a vs ns G Y ho hd hcd hmg hobj hints hlen hgen => ?_
  have kin := hY w _ Y
  obtain ⟨fd, bnd, FF⟩ := F w mg fa _ kin G.T.g hmg
  have ha : s₁.heap.get? a = some (scriptObj vs) := hobj
  have short : ns.length ≤ sizeLine := Nat.le_trans hlen hn2
  have keep0 : ∀ {b : Addr} {o : Obj}, s₁.heap.get? b = some o → scriptHp (K w.params) a vs ns b = none → (hidT s₁.heap (scriptHp (K w.params) a vs ns)).get? b = some o := fun e z => hidT_get e z
  have nsK : ∀ {b : Addr} {m : Str → Option Value}, s₁.heap.Ns b m → (hidT s₁.heap (scriptHp (K w.params) a vs ns)).Ns b m := by
    rintro b m ⟨o, es, ep, e, dd, r⟩
    exact ⟨o, es, ep, keep0 e (scriptHp_none ha e fun its n z => by rw [dd] at z; cases z), dd, r⟩
  have kinB : (K w.params).In (hidT s₁.heap (scriptHp (K w.params) a vs ns)) := fun b o e => keep0 (kin b o e) (by
    cases z : scriptHp (K w.params) a vs ns b with
    | none => rfl
    | some u =>
      obtain ⟨rfl, z2, _⟩ := scriptHp_some z
      rw [z2] at e
      cases e)
  have hM : Mod (K w.params) mg (hidT s₁.heap (scriptHp (K w.params) a vs ns)) := by
    obtain ⟨mc, h1, h2⟩ := G.T.nolimit
    exact ⟨kinB, nsK G.T.g, ⟨mb, nsK G.T.b, G.T.builtins⟩, ⟨mc, nsK h1, h2⟩⟩
  have hok : HOk l.prog w (scriptHp (K w.params) a vs ns) s₁.heap := fun b u z => by
    obtain ⟨rfl, _, rfl⟩ := scriptHp_some z
    exact ⟨ha, by rw [List.length_map]; exact short, vs, _, vals_ints hints, ha⟩
  have hS : SqL (K w.params) (scriptHp (K w.params) a vs ns) a (ns.map V.int) := by
    cases hk : (K w.params).lookup a with
    | none => exact .inl (.inr ⟨scriptObj vs, if_pos ⟨rfl, hk⟩⟩)
    | some o =>
      have e := kin a o hk
      rw [ha] at e
      obtain rfl := Option.some.inj e
      exact .inr ⟨_, vs.toArray, _, hk, rfl, rfl, rfl, by rw [List.size_toArray, hints.length]; exact short, by simpa using vals_ints hints⟩
  have e0 : Env0 l.prog w (K w.params) mg (hidT s₁.heap (scriptHp (K w.params) a vs ns)) callerA [] s₁ (scriptHp (K w.params) a vs ns) :=
    ⟨rfl, hM, fun b o e => of_hidT e, Nat.le_of_eq (hidT_size _ _), trivial, fun b z => absurd (show b ∈ ([] : List Addr) from z) (by simp), hok, .of_eq hgen⟩
  refine codeAny_mono ((FF _ kinB (nsK G.T.g)).run callerA rfl [] s₁ _ ⟨[.ref a], []⟩ [.ref a] [.ref a] _ _ room e0 (bnd s₁ (.ref a)) (.cons rfl .nil) (hsp w _ a ns hlen scriptHp_only hS)) fun r s' got => ?_
  cases r with
  | error e => exact got.elim
  | ok fl =>
    cases fl with
    | next => exact got.elim
    | brk => exact got.elim
    | cont => exact got.elim
    | ret u =>
      obtain ⟨v, H', os, bare, un, hok', rv, z⟩ := got
      obtain rfl : v = .bl true := z
      obtain rfl : u = Value.bool true := rv
      refine ⟨rfl, OldK.of_keep fun b o e => ?_, os, bare⟩
      cases z : scriptHp (K w.params) a vs ns b with
      | none => exact un.keep b o e z (fun y => absurd (show b ∈ ([] : List Addr) from y) (by simp)) (by simp)
      | some u =>
        obtain ⟨_, _, rfl⟩ := scriptHp_some z
        have z2 := un.frzs b _ _ z
        obtain ⟨e1, _⟩ := hok b _ z
        obtain ⟨e2, _⟩ := hok' b _ z2
        rw [e] at e1
        obtain rfl := Option.some.inj e1
        exact e2
end
/-! ### repr of data -/
theorem Dp_ref {K : PySem.W.Frag} {H : Hp} {v : V} {d : PyData} (h : Dp K H v d) : (∃ a, v = .ref a) ∨ (v = .non ∧ d = .none) ∨ (∃ b, v = .bl b ∧ d = .bool b) ∨ (∃ i, v = .int i ∧ d = .int i) ∨ ∃ x, v = .str x ∧ d = .str x := by
  cases h with
  | non => exact .inr (.inl ⟨rfl, rfl⟩)
  | bl b => exact .inr (.inr (.inl ⟨b, rfl, rfl⟩))
  | int i => exact .inr (.inr (.inr (.inl ⟨i, rfl, rfl⟩)))
  | str x => exact .inr (.inr (.inr (.inr ⟨x, rfl, rfl⟩)))
  | lst _ _ => exact .inl ⟨_, rfl⟩
  | tup _ _ => exact .inl ⟨_, rfl⟩
/-- data that can be shown: not deeper than dp, not heavier than wt -/
structure Sh (dp wt : Nat) (d : PyData) : Prop where
  can : d.canLay0 = true
  dep : d.depth ≤ dp
  shw : d.showable = true
  lvs : d.leavesShort 200 = true
  wgt : d.weight ≤ wt
structure ShAll (dp wt : Nat) (ds : List PyData) : Prop where
  can : PyData.canLayAll0 ds = true
  dep : PyData.depthAll ds ≤ dp
  shw : PyData.showableAll ds = true
  lvs : PyData.leavesShortAll 200 ds = true
  wgt : PyData.weightAll ds ≤ wt
theorem Sh.mono {dp wt dp' wt' : Nat} {d : PyData} (h : Sh dp wt d) (h1 : dp ≤ dp') (h2 : wt ≤ wt') : Sh dp' wt' d := ⟨h.can, Nat.le_trans h.dep h1, h.shw, h.lvs, Nat.le_trans h.wgt h2⟩
theorem ShAll.mono {dp wt dp' wt' : Nat} {ds : List PyData} (h : ShAll dp wt ds) (h1 : dp ≤ dp') (h2 : wt ≤ wt') : ShAll dp' wt' ds := ⟨h.can, Nat.le_trans h.dep h1, h.shw, h.lvs, Nat.le_trans h.wgt h2⟩
theorem Sh.none : Sh 0 0 .none := ⟨rfl, Nat.le_refl _, rfl, rfl, Nat.le_refl _⟩
theorem Sh.bool (b : Bool) : Sh 0 0 (.bool b) := ⟨rfl, Nat.le_refl _, rfl, rfl, Nat.le_refl _⟩
theorem Sh.int {b : Nat} (h0 : 0 < b) (h6 : b ≤ 600) {i : Int} (h : i.natAbs < 2 ^ b) : Sh 0 b (.int i) := by
  have l2 := PySem.Flt.log2_lt_of h0 h
  refine ⟨rfl, Nat.le_refl _, decide_eq_true (by omega), decide_eq_true ?_, ?_⟩
  · have h1 : i.natAbs < 10 ^ 199 := Nat.lt_of_lt_of_le h (Nat.le_trans (Nat.pow_le_pow_right (by decide) h6) (by decide +kernel))
    have e := int_text_length_le10 (k := 199) (by decide) h1
    show (Str.ofString (toString i)).length ≤ 200
    rw [PySem.ofString_length]
    exact e
  · show (if i == 0 then 0 else i.natAbs.log2 + 1) ≤ b
    split <;> omega
theorem Sh.tup {dp wt : Nat} {ds : List PyData} (h : ShAll dp wt ds) : Sh (dp + 1) wt (.tuple ds) := ⟨h.can, Nat.add_le_add_right h.dep 1, h.shw, h.lvs, h.wgt⟩
theorem Sh.lst {dp wt : Nat} {ds : List PyData} (h : ShAll dp wt ds) : Sh (dp + 1) wt (.list ds) := ⟨h.can, Nat.add_le_add_right h.dep 1, h.shw, h.lvs, h.wgt⟩
theorem ShAll.nil : ShAll 0 0 [] := ⟨rfl, Nat.le_refl _, rfl, rfl, Nat.le_refl _⟩
theorem ShAll.cons {dp wt wt' : Nat} {d : PyData} {ds : List PyData} (h : Sh dp wt d) (t : ShAll dp wt' ds) : ShAll dp (wt + 1 + wt') (d :: ds) := by
  refine ⟨?_, Nat.max_le.mpr ⟨h.dep, t.dep⟩, ?_, ?_, ?_⟩
  · show (d.canLay0 && PyData.canLayAll0 ds) = true
    rw [h.can, t.can]
    rfl
  · show (d.showable && PyData.showableAll ds) = true
    rw [h.shw, t.shw]
    rfl
  · show (d.leavesShort 200 && PyData.leavesShortAll 200 ds) = true
    rw [h.lvs, t.lvs]
    rfl
  · show d.weight + 1 + PyData.weightAll ds ≤ wt + 1 + wt'
    have h1 := h.wgt
    have h2 := t.wgt
    omega
theorem ShAll.ints {b : Nat} (h0 : 0 < b) (h6 : b ≤ 600) : ∀ {ns : List Int}, (∀ x ∈ ns, x.natAbs < 2 ^ b) → ShAll 0 ((b + 1) * ns.length) (ns.map PyData.int)
  | [], _ => ShAll.nil
  | x :: r, h => by
    have h1 := ShAll.cons (Sh.int h0 h6 (h x List.mem_cons_self)) (ShAll.ints h0 h6 fun y hy => h y (List.mem_cons_of_mem _ hy))
    exact h1.mono (Nat.le_refl _) (by rw [List.length_cons, Nat.mul_succ]; omega)
theorem Sh.shaped {dp wt : Nat} {d : PyData} (h : Sh dp wt d) (h1 : dp ≤ 64) : SeqAt.shaped d = true := by
  unfold SeqAt.shaped
  rw [h.can]
  exact decide_eq_true (Nat.le_trans h.dep h1)
theorem Sh.fits {dp wt : Nat} {d : PyData} (h : Sh dp wt d) (h1 : wt ≤ 80000) : d.shown.length ≤ sizeLine := by
  have h2 := PyData.shown_le 200 (by decide) d h.lvs
  have h3 := h.wgt
  have h4 : (200 + 2) * d.weight ≤ 202 * 80000 := Nat.mul_le_mul (by omega) (by omega)
  have h5 : sizeLine = 16777216 := by decide
  omega
theorem dp_ints {K : PySem.W.Frag} {H : Hp} : ∀ ns : List Int, DpAll K H (ns.map V.int) (ns.map PyData.int)
  | [] => .nil
  | n :: r => .cons (.int n) (dp_ints r)
theorem eqvAll_ints : ∀ ns : List Int, PyData.eqvAll (ns.map PyData.int) (ns.map PyData.int) = true
  | [] => rfl
  | n :: r => by
    show (PyData.eqv (.int n) (.int n) && PyData.eqvAll (r.map PyData.int) (r.map PyData.int)) = true
    rw [eqvAll_ints r]
    show ((n == n) && true) = true
    rw [beq_self_eq_true]
    rfl
section
variable {X : Cx}
/-- repr(x), x data: its text -/
theorem call_reprD (gd : X.A.guards = some []) (hu : X.A.units + 66 < cLine) : CallR X (.builtin "repr") (fun xs H Q => ∃ v d, xs = [v] ∧ Dp X.K H v d ∧ Sh 60 80000 d ∧ Q (.str d.shown) H) := by
  intro pins s σ H xs us Q I r h
  obtain ⟨v, d, rfl, hD, hd, q⟩ := h
  have hsh := hd.shaped (by decide)
  have hsz := hd.fits (by decide)
  obtain ⟨u, rfl, ru⟩ := vals1 r
  rcases Dp_ref hD with ⟨a, rfl⟩ | ⟨rfl, rfl⟩ | ⟨b, rfl, rfl⟩ | ⟨i, rfl, rfl⟩ | ⟨x, rfl, rfl⟩
  · obtain rfl : u = Value.ref a := ru
    obtain ⟨as, rd⟩ := Dp.reads I d _ _ hD rfl
    have hdp := hd.dep
    refine repr_of_reads' rd hd.shw (PyData.noDict_hsm (PyData.hasDict_of_canLay d hd.can)) gd (by omega) (fun _ _ e => e) (fun h' u tk hk => ?_) hsz
    exact ⟨.str _, H, I.kept hk, ⟨u, rfl⟩, q⟩
  · obtain rfl : u = Value.none := ru
    exact P.repr_of_none ⟨.str _, H, I.tok _, ⟨_, rfl⟩, q⟩
  · obtain rfl : u = Value.bool b := ru
    exact P.repr_of_bool ⟨.str _, H, I.tok _, ⟨_, rfl⟩, q⟩
  · obtain ⟨t, rfl⟩ := ru
    exact P.repr_of_int (of_decide_eq_true hd.shw) ⟨.str _, H, I.tok _, ⟨_, rfl⟩, q⟩
  · obtain ⟨t, rfl⟩ := ru
    exact P.repr_of_str ⟨.str _, H, I.tok _, ⟨_, rfl⟩, q⟩ hsz
/-- a ** b of greater numbers -/
theorem op_powB : OpR X (binaryOp .Pow) (rI (fun i j => 0 ≤ j ∧ (Builtin.Int.intBits i : Int) * j ≤ 2 ^ 27) fun i j => .int (i ^ j.toNat)) := opI fun _ _ _ _ _ _ _ hc q => pow_int hc.1 hc.2 q
/-- set(t), t a tuple of ints -/
theorem cr_setT (hc : X.calm = true) : CallR X (.type "set") (fun xs H Q => ∃ (l : Addr) (ns : List Int), xs = [.ref l] ∧ SqT X.K H l (ns.map V.int) ∧ ns.length ≤ 1000 ∧
    ∀ (p : Addr) (c : Nat), H p = none → Q (.ref p) (upd H p (SetO X.w p (fun j => decide (j ∈ ns)) c))) := by
  intro pins s σ H xs us Q I r h
  obtain ⟨l, ns, rfl, hq, hl, q⟩ := h
  obtain ⟨u, rfl, ru⟩ := vals1 r
  obtain rfl : u = Value.ref l := ru
  obtain ⟨its, rv, pt, hz⟩ := I.tuple hq
  refine call_set_tupI ns (I.ok.hd hc) (show s.heap.IsTuple l its.toArray from pt) (ints_of_vals rv) (by unfold scanBound; omega) fun h' tk c R1 hcn k => ?_
  exact ⟨.ref _, _, I.laid (t' := tk) k (Nat.le_refl _) (setO_new R1), rfl, q _ c (I.hok.fresh (Nat.le_refl _))⟩
end

/-! ### the same rules with the written part as a letter (for comprehensions) -/
section
variable {X : Cx} (K : PySem.W.Frag)
theorem ix_listK (h : X.K = K := by rfl) : IxR X (rIxL K) := h ▸ ix_list
theorem ix_tupK (h : X.K = K := by rfl) : IxR X (rIxT K) := h ▸ ix_tup
theorem op_inK (h : X.K = K := by rfl) : OpR X (compareOp .In) (rIn K false) := h ▸ op_in_seq
theorem op_notInK (h : X.K = K := by rfl) : OpR X (compareOp .NotIn) (rIn K true) := h ▸ op_notIn_seq
def rLenK (K : PySem.W.Frag) : List V → Hp → VK → Prop := fun xs H Q => ∃ p ys, xs = [.ref p] ∧ (SqL K H p ys ∨ SqT K H p ys) ∧ Q (.int ys.length) H
theorem call_lenK (h : X.K = K := by rfl) : CallR X (.builtin "len") (rLenK K) := h ▸ call_len_seq
def rReprK (K : PySem.W.Frag) : List V → Hp → VK → Prop := fun xs H Q => ∃ v d, xs = [v] ∧ Dp K H v d ∧ Sh 60 80000 d ∧ Q (.str d.shown) H
theorem call_reprK (gd : X.A.guards = some []) (hu : X.A.units + 66 < cLine) (h : X.K = K := by rfl) : CallR X (.builtin "repr") (rReprK K) := h ▸ call_reprD gd hu
theorem call_isiK1 (h : X.K = K := by rfl) : CallR X (.builtin "isinstance") (rIsi K) := h ▸ call_isi
def rTupleK (K : PySem.W.Frag) : List V → Hp → VK → Prop := fun xs H Q => ∃ p ys, xs = [.ref p] ∧ ((SqL K H p ys ∧ ∀ l, H l = none → Q (.ref l) (upd H l (.tup ys))) ∨ (SqT K H p ys ∧ Q (.ref p) H))
theorem call_tupleK (h : X.K = K := by rfl) : CallR X (.type "tuple") (rTupleK K) := h ▸ call_tuple_of
def rListK (K : PySem.W.Frag) : List V → Hp → VK → Prop := fun xs H Q => ∃ p ys, xs = [.ref p] ∧ (SqL K H p ys ∨ SqT K H p ys) ∧ ∀ l, H l = none → Q (.ref l) (upd H l (.lst ys))
theorem call_listK (h : X.K = K := by rfl) : CallR X (.type "list") (rListK K) := h ▸ call_list_of
theorem op_eqDK (hu : X.A.units + 64 < cLine) (h : X.K = K := by rfl) : OpR X (compareOp .Eq) (rEqD K) := h ▸ op_eqD hu
theorem op_neDK (hu : X.A.units + 64 < cLine) (h : X.K = K := by rfl) : OpR X (compareOp .NotEq) (rNeD K) := h ▸ op_neD hu
end
end Ef
namespace Ef
open PySem PySem.Spec PyProof.Rows L2
/-! ### tuples: sums, parts, the other way round -/
theorem Same.seqT {K : PySem.W.Frag} {H H' : Hp} {a : Addr} {xs : List V} (e : Same H H') (h : SqT K H a xs) : SqT K H' a xs := by
  rcases h with (h | ⟨o, h⟩) | h
  · exact .inl (.inl (e _ _ h))
  · exact .inl (.inr ⟨o, e _ _ h⟩)
  · exact .inr h
theorem But.seqT {K : PySem.W.Frag} {p a : Addr} {H H' : Hp} {xs : List V} (e : But p H H') (n : ∀ o, H p = some o → a = p → False) (h : SqT K H a xs) : SqT K H' a xs := by
  rcases h with (h | ⟨o, h⟩) | h
  · exact .inl (.inl (e _ _ (fun z => n _ (z ▸ h) z) h))
  · exact .inl (.inr ⟨o, e _ _ (fun z => n _ (z ▸ h) z) h⟩)
  · exact .inr h
/-- t + u -/
def rCatS (K : PySem.W.Frag) : R2 := fun x y H Q => ∃ a b xs ys, x = .ref a ∧ y = .ref b ∧ SqT K H a xs ∧ SqT K H b ys ∧ xs.length + ys.length ≤ sizeLine ∧ ∀ p H', Same H H' → SqT K H' p (xs ++ ys) → Q (.ref p) H'
/-- t[lo:hi] -/
def rSlS (K : PySem.W.Frag) : V → Option Int → Option Int → Hp → VK → Prop := fun x lo hi H Q => ∃ a xs, x = .ref a ∧ SqT K H a xs ∧ ∀ p H', Same H H' → SqT K H' p (cutV xs lo hi) → Q (.ref p) H'
theorem cut_whole {xs : List V} {lo hi : Option Int} (h : HT.sIx xs.length 0 lo = 0 ∧ HT.sIx xs.length xs.length hi = xs.length) : cutV xs lo hi = xs := by
  unfold cutV
  rw [h.1, h.2]
  show (xs.drop 0).take (xs.length - 0) = xs
  rw [List.drop_zero, Nat.sub_zero]
  exact List.take_length
section
variable {X : Cx} (K : PySem.W.Frag)
theorem op_catS (h : X.K = K := by rfl) : OpR X (binaryOp .Add) (rCatS K) := by
  subst h
  intro pins s σ H x y v u Q I rx ry h
  obtain ⟨a, b, xs, ys, rfl, rfl, ha, hb, hz, q⟩ := h
  refine op_catA pins s σ H _ _ v u Q I rx ry ⟨a, b, xs, ys, rfl, rfl, ha, hb, hz, fun z => ?_, fun _ z => ?_, fun _ _ p np => ?_⟩
  · subst z
    exact q b H (Same.refl H) hb
  · subst z
    refine q a H (Same.refl H) ?_
    rw [List.append_nil]
    exact ha
  · exact q p _ (same_new np) (SqT.of upd_same)
theorem sl_tupS (h : X.K = K := by rfl) : SlR X (rSlS K) := by
  subst h
  intro pins s σ H x v vl vu lo hi sl Q I rx hs pl pu h
  obtain ⟨a, xs, rfl, hx, q⟩ := h
  refine sl_tupA pins s σ H _ v vl vu lo hi sl Q I rx hs pl pu ⟨a, xs, rfl, hx, fun z => ?_, fun _ p np => ?_⟩
  · refine q a H (Same.refl H) ?_
    rw [cut_whole z]
    exact hx
  · exact q p _ (same_new np) (SqT.of upd_same)
end
theorem fm_congr {α β : Type} {f g : α → Option β} : ∀ l : List α, (∀ x ∈ l, f x = g x) → l.filterMap f = l.filterMap g
  | [], _ => rfl
  | x :: r, h => by
    have h1 := h x List.mem_cons_self
    have h2 := fm_congr r fun y hy => h y (List.mem_cons_of_mem _ hy)
    cases e : f x with
    | none => rw [List.filterMap_cons_none e, List.filterMap_cons_none (h1 ▸ e), h2]
    | some b => rw [List.filterMap_cons_some e, List.filterMap_cons_some (h1 ▸ e), h2]
theorem range_pick {α : Type} : ∀ (n : Nat) (ys : List α), ys.length = n → (List.range n).filterMap (fun m => ys[m]?) = ys
  | 0, ys, h => by
    rw [List.length_eq_zero_iff.mp h]
    rfl
  | n + 1, ys, h => by
    have hne : ys ≠ [] := fun z => by
      rw [z] at h
      cases h
    have hl : ys.dropLast.length = n := by
      rw [List.length_dropLast]
      omega
    have e : ys = ys.dropLast ++ [ys.getLast hne] := (List.dropLast_concat_getLast hne).symm
    rw [List.range_succ, List.filterMap_append]
    have e1 : (List.range n).filterMap (fun m => ys[m]?) = ys.dropLast := by
      have e3 : (List.range n).filterMap (fun m => ys[m]?) = (List.range n).filterMap (fun m => ys.dropLast[m]?) := by
        refine fm_congr _ fun m hm => ?_
        have hm' : m < ys.dropLast.length := by
          rw [hl]
          exact List.mem_range.mp hm
        have e4 : (ys.dropLast ++ [ys.getLast hne])[m]? = ys.dropLast[m]? := List.getElem?_append_left hm'
        rw [← e4, List.dropLast_concat_getLast hne]
      rw [e3]
      exact range_pick n ys.dropLast hl
    have e2 : [n].filterMap (fun m => ys[m]?) = [ys.getLast hne] := by
      have : ys[n]? = some (ys.getLast hne) := by
        rw [List.getLast_eq_getElem hne, ← List.getElem?_eq_getElem]
        congr 1
        omega
      rw [List.filterMap_cons_some this]
      rfl
    rw [e1, e2]
    exact e.symm
theorem pick_back (xs : Array Value) : ((List.range xs.size).filterMap fun (m : Nat) => xs[(((xs.size : Int) - 1) + (m : Int) * (-1)).toNat]?).toArray = xs.toList.reverse.toArray := by
  congr 1
  have h : xs.toList.reverse.length = xs.size := by
    rw [List.length_reverse, Array.length_toList]
  rw [← range_pick xs.size xs.toList.reverse h]
  refine fm_congr _ fun m hm => ?_
  have hm' : m < xs.size := List.mem_range.mp hm
  have e : (((xs.size : Int) - 1) + (m : Int) * (-1)).toNat = xs.size - 1 - m := by omega
  rw [e, List.getElem?_reverse (by rw [Array.length_toList]; exact hm'), Array.length_toList, Array.getElem?_toList]
section
variable {prog : Program} {w : World} {A : Around} {E : Value → Shared → Prop} {s : Shared}
theorem tuple_back {t sl : Addr} {items : Array Value} {vl vu vs : Value} {Q : Value → Shared → Prop} (ht : IsTup s.heap t items) (hs : s.heap.IsSliceOf sl vl vu vs) (pl : PySem.IsPart vl none) (pu : PySem.IsPart vu none) (ps : PySem.IsPart vs (some (-1)))
    (h : Q (.ref s.heap.objs.size) { s with heap := s.heap.push { cls := .type "tuple", data := .seq items.toList.reverse.toArray } })
    (hsz : items.size ≤ sizeLine) : wpAny (model prog w) A (getItem (.ref t) (.ref sl)) Q E s := by
  have hfit : sizeOk (.seq items.toList.reverse.toArray) := by
    show items.toList.reverse.toArray.size ≤ sizeLine
    rw [List.size_toArray, List.length_reverse, Array.length_toList]
    exact hsz
  obtain ⟨os, hos, hcs, hds⟩ := id hs
  have tys : s.TypeIs (.ref sl) "slice" := ⟨os, hos, hcs⟩
  unfold getItem
  try with_reducible refine wpAny_holding ?_
  first | refine wpAny_bind (wpAny_pure ?_) | skip
  refine wpAny_bind (wpAny_sequenceKey ht.typeIs (by decide) ?_)
  refine wpAny_bind (wpAny_callSpecial?_slot (name := Str.ofString "__getitem__") ht.typeIs PyProof.Rows.slot_tuple_getitem
    (wpAny_call_entry PyProof.Rows.slot_tuple_getitem ht.typeIs PyProof.Rows.entry_tuple_getitem ?_ (PyProof.Rows.args_tuple_getitem _ _)))
  show wpAny _ _ (Builtin.Tuple.tupleItemsOf (.ref t) >>= _) _ _ s
  refine wpAny_bind (PyProof.Rows.tupleItemsOf_ ht ?_)
  refine wpAny_bind (wpAny_typeOf tys ?_)
  rw [if_pos (by decide)]
  have look : ∀ {B : Around} {E : Value → Shared → Prop} {R : Int × Int × Nat → Shared → Prop}, R (((items.size : Int) - 1), -1, items.size) s → wpAny (model prog w) B (Builtin.Slice.sliceApplied (.ref sl) (pure (items.size : Int))) R E s := fun {B E R} hR => by
    unfold Builtin.Slice.sliceApplied Builtin.Slice.sliceFields
    refine wpAny_bind (wpAny_bind (wpAny_field hos hds (x := vl) rfl (wpAny_bind (wpAny_field hos hds (x := vu) rfl (wpAny_bind (wpAny_field hos hds (x := vs) rfl (wpAny_pure ?_)))))))
    refine wpAny_bind (HT.slicePart_ ps ?_)
    show wpAny _ _ (if ((-1 : Int) == 0) = true then _ else _) _ _ s
    rw [if_neg (by decide)]
    refine wpAny_bind (HT.slicePart_ pl (wpAny_bind (HT.slicePart_ pu (wpAny_bind (wpAny_pure ?_)))))
    show wpAny _ _ (pure (((items.size : Int) - 1), (-1 : Int), Builtin.Slice.slicePlaces ((items.size : Int) - 1) (-1) (-1))) _ _ s
    have e : Builtin.Slice.slicePlaces ((items.size : Int) - 1) (-1) (-1) = items.size := by
      unfold Builtin.Slice.slicePlaces
      rw [if_neg (by decide)]
      by_cases c : ((items.size : Int) - 1) > -1
      · rw [if_pos c, show -(-1 : Int) = 1 from rfl, Int.ediv_one]
        omega
      · rw [if_neg c]
        omega
    rw [e]
    exact wpAny_pure hR
  refine wpAny_bind (look ?_)
  have no : ¬ ((((items.size : Int) - 1) == 0 && (-1 : Int) == 1 && items.size == items.size) = true) := by
    intro z
    rw [Bool.and_eq_true, Bool.and_eq_true] at z
    exact absurd z.1.2 (by decide)
  show wpAny _ _ (if (((items.size : Int) - 1) == 0 && (-1 : Int) == 1 && items.size == items.size) = true then _ else _) _ _ s
  rw [if_neg no, pick_back]
  first
    | exact wpAny_bind (m := Builtin.Tuple.tupleExact _) (wpAny_newObj_type (wpAny_pure ⟨_, rfl, wpAny_pure h⟩) hfit)
    | exact wpAny_bind (m := Builtin.Tuple.tupleExact _) (wpAny_newObj_type (wpAny_bind (wpAny_pure (wpAny_pure ⟨_, rfl, wpAny_pure h⟩))) hfit)
    | exact wpAny_bind (wpAny_bind (m := Builtin.Tuple.tupleExact _) (wpAny_newObj_type (wpAny_pure (wpAny_pure ⟨_, rfl, wpAny_pure h⟩)) hfit))
    | exact wpAny_bind (wpAny_bind (m := Builtin.Tuple.tupleExact _) (wpAny_newObj_type (wpAny_pure ⟨_, rfl, wpAny_pure h⟩) hfit))
end
/-! ### t[::-1] -/
def tRevT (K : PySem.W.Frag) (te : TE) : TE := fun σ H Q => te σ H fun x H1 => ∃ a xs, x = .ref a ∧ SqT K H1 a xs ∧ ∀ p, H1 p = none → Q (.ref p) (upd H1 p (.tup xs.reverse))
theorem pe_revT {X : Cx} {e : Expr} {te : TE} {k : Nat} {p1 p2 p3 pos : Pos} (he : PE X e te) : PE X (.Subscript e (.Slice none none (some (.UnaryOp .USub (.Constant (.int 1) k p1) p2)) p3) pos) (tRevT X.K te) := by
  refine ⟨fun pins s σ H Q I h => ?_⟩
  refine Subscript_ (thn (he.run pins s σ H _ I h) fun v s1 z1 => ?_)
  obtain ⟨x, H1, I1, r1, a, xs, ex, hx, q⟩ := z1
  subst ex
  cases r1
  have hst : PO X (some (.UnaryOp .USub (.Constant (.int 1) k p1) p2)) (tPart (tUn (rU fun i => .int (-i)) (tC (.int 1)))) := po_some (pe_un un_neg pe_int)
  refine wpAny_Slice (thn (po_none.run pins s1 σ H1 (fun o H2 => o = none ∧ H2 = H1) I1 ⟨rfl, rfl⟩) fun vl s2 z2 => ?_)
  obtain ⟨l, H2, I2, pl, rfl, rfl⟩ := z2
  refine thn (po_none.run pins s2 σ H2 (fun o H3 => o = none ∧ H3 = H2) I2 ⟨rfl, rfl⟩) fun vu s3 z3 => ?_
  obtain ⟨u, H3, I3, pu, rfl, rfl⟩ := z3
  refine thn (hst.run pins s3 σ H3 (fun o H4 => o = some (-1) ∧ H4 = H3) I3 ⟨1, rfl, -1, rfl, rfl, rfl⟩) fun vs s4 z4 => ?_
  obtain ⟨o, H4, I4, ps, rfl, rfl⟩ := z4
  have I5 : Inv X pins σ H4 { s4 with heap := s4.heap.push { cls := .type "slice", data := .fields #[vl, vu, vs] } } := I4.kept (t' := s4.toks) fun b ob z => Heap.get?_push_of_some _ z
  obtain ⟨its, r, ht, hz⟩ := I5.tuple hx
  show wpAny (model X.prog X.w) X.A (subscriptTail e (.Slice none none (some (.UnaryOp .USub (.Constant (.int 1) k p1) p2)) p3) (.ref a) (.ref s4.heap.objs.size)) (EP X pins σ Q) X.xe _
  refine tail_any (ops := [.ref a, .ref s4.heap.objs.size]) ht.typeIs (PyProof.Rows.slot_tuple_getitem.lookup) ?_ (by with_unfolding_all rfl)
  refine tuple_back ht (Heap.IsSliceOf.new _ vl vu vs) pl pu ps ?_ (by rw [List.size_toArray, ← r.length]; exact hz)
  refine ⟨.ref _, _, I5.laid (t' := s4.toks) (o := .tup xs.reverse) (fun b ob z => Heap.get?_push_of_some _ z) (Nat.le_refl _) ?_, rfl, q _ (I5.hok.fresh (Nat.le_refl _))⟩
  exact ⟨by rw [List.length_reverse]; exact hz, _, r.reverse, IsTup.new _ _⟩
end Ef
namespace Ef
open PySem PySem.Spec PyProof.Rows L2
/-! ### values of all sorts -/
mutual
theorem Dp.mono {K : PySem.W.Frag} {H H' : Hp} (s : Same H H') : ∀ {v : V} {d : PyData}, Dp K H v d → Dp K H' v d
  | _, _, .non => .non
  | _, _, .bl b => .bl b
  | _, _, .int i => .int i
  | _, _, .str x => .str x
  | _, _, .lst h t => .lst (s.seq h) (DpAll.mono s t)
  | _, _, .tup h t => .tup (Same.seqT s h) (DpAll.mono s t)
theorem DpAll.mono {K : PySem.W.Frag} {H H' : Hp} (s : Same H H') : ∀ {vs : List V} {ds : List PyData}, DpAll K H vs ds → DpAll K H' vs ds
  | _, _, .nil => .nil
  | _, _, .cons h t => .cons (Dp.mono s h) (DpAll.mono s t)
end
theorem DpAll.app {K : PySem.W.Frag} {H : Hp} : ∀ {xs ys : List V} {ds es : List PyData}, DpAll K H xs ds → DpAll K H ys es → DpAll K H (xs ++ ys) (ds ++ es)
  | _, _, _, _, .nil, t => t
  | _, _, _, _, .cons h r, t => .cons h (DpAll.app r t)
theorem dpAll_at {K : PySem.W.Frag} {H : Hp} : ∀ {xs : List V} {ds : List PyData}, DpAll K H xs ds → ∀ {i : Nat} {x : V}, xs[i]? = some x → ∃ d, ds[i]? = some d ∧ Dp K H x d
  | _, _, .nil, _, _, h => by cases h
  | _, _, .cons h _, 0, x, e => ⟨_, rfl, by rw [← Option.some.inj e]; exact h⟩
  | _, _, .cons _ t, i + 1, x, e => by
    rw [List.getElem?_cons_succ] at e ⊢
    exact dpAll_at t e
theorem dpAll_len {K : PySem.W.Frag} {H : Hp} : ∀ {xs : List V} {ds : List PyData}, DpAll K H xs ds → ds.length = xs.length
  | _, _, .nil => rfl
  | _, _, .cons _ t => congrArg (· + 1) (dpAll_len t)
theorem ShAll.app {dp w1 w2 : Nat} : ∀ {ds es : List PyData}, ShAll dp w1 ds → ShAll dp w2 es → ShAll dp (w1 + w2) (ds ++ es)
  | [], es, _, t => t.mono (Nat.le_refl _) (by omega)
  | d :: r, es, h, t => by
    have hc : (d.canLay0 && PyData.canLayAll0 r) = true := h.can
    have hs : (d.showable && PyData.showableAll r) = true := h.shw
    have hl : (d.leavesShort 200 && PyData.leavesShortAll 200 r) = true := h.lvs
    have hw : d.weight + 1 + PyData.weightAll r ≤ w1 := h.wgt
    have hd : max d.depth (PyData.depthAll r) ≤ dp := h.dep
    rw [Bool.and_eq_true] at hc hs hl
    rw [Nat.max_le] at hd
    have h1 : Sh dp d.weight d := ⟨hc.1, hd.1, hs.1, hl.1, Nat.le_refl _⟩
    have h2 : ShAll dp (PyData.weightAll r) r := ⟨hc.2, hd.2, hs.2, hl.2, Nat.le_refl _⟩
    exact (ShAll.cons h1 (ShAll.app h2 t)).mono (Nat.le_refl _) (by omega)
/-- all but what stands at p -/
def hide (p : Addr) (H : Hp) : Hp := fun b => if b = p then none else H b
theorem hide_ne {p b : Addr} {H : Hp} (n : b ≠ p) : hide p H b = H b := if_neg n
theorem hide_same (p : Addr) (H : Hp) : Same (hide p H) H := fun b o e => by
  by_cases c : b = p
  · unfold hide at e
    rw [if_pos c] at e
    cases e
  · rw [hide_ne c] at e
    exact e
theorem But.hide {p : Addr} {H H' : Hp} (s : But p H H') : Same (Ef.hide p H) (Ef.hide p H') := fun b o e => by
  by_cases c : b = p
  · unfold Ef.hide at e
    rw [if_pos c] at e
    cases e
  · rw [hide_ne c] at e ⊢
    exact s b o c e
theorem hide_lst {K : PySem.W.Frag} {p a : Addr} {H : Hp} {xs : List V} (n : a ≠ p) (h : H a = some (.lst xs)) : SqL K (hide p H) a xs := SqL.of (by rw [hide_ne n]; exact h)
theorem hide_tup {K : PySem.W.Frag} {p a : Addr} {H : Hp} {xs ys : List V} (hp : H p = some (.lst ys)) (h : SqT K H a xs) : SqT K (hide p H) a xs := by
  rcases h with (h | ⟨o, h⟩) | h
  · have n : a ≠ p := fun z => by
      rw [z, hp] at h
      cases h
    exact .inl (.inl (by rw [hide_ne n]; exact h))
  · have n : a ≠ p := fun z => by
      rw [z, hp] at h
      cases h
    exact .inl (.inr ⟨o, by rw [hide_ne n]; exact h⟩)
  · exact .inr h
/-- data, or an empty dict -/
def ItemV (K : PySem.W.Frag) (H : Hp) (v : V) (d : PyData) : Prop := (Dp K H v d ∧ Sh 60 80000 d) ∨ (d = .dict [] ∧ ∃ p, v = .ref p ∧ H p = some (.dK []))
theorem ItemV.mono {K : PySem.W.Frag} {H H' : Hp} {v : V} {d : PyData} (s : Same H H') (h : ItemV K H v d) : ItemV K H' v d := by
  rcases h with ⟨h, h2⟩ | ⟨e, p, e2, h⟩
  · exact .inl ⟨Dp.mono s h, h2⟩
  · exact .inr ⟨e, p, e2, s _ _ h⟩
def tyN : PyData → String
  | .none => "NoneType"
  | .bool _ => "bool"
  | .int _ => "int"
  | .str _ => "str"
  | .list _ => "list"
  | .tuple _ => "tuple"
  | .dict _ => "dict"
theorem Dp.ty {K : PySem.W.Frag} {H : Hp} {v : V} {d : PyData} (h : Dp K H v d) : TyX K H v (.type (tyN d)) := by
  cases h with
  | non => exact .base .non
  | bl b => exact .base (.bl b)
  | int i => exact .base (.int i)
  | str x => exact .base (.str x)
  | lst h _ =>
    rcases h with (h | ⟨o, h⟩) | ⟨o, its, n, h1, h2, _⟩
    · exact .base (.lst h)
    · exact .base (.frz h)
    · exact .kList h1 h2
  | tup h _ =>
    rcases h with (h | ⟨o, h⟩) | ⟨o, its, n, h1, h2, _⟩
    · exact .base (.tup h)
    · exact .fTuple h
    · exact .kTuple h1 h2
theorem ItemV.ty {K : PySem.W.Frag} {H : Hp} {v : V} {d : PyData} (h : ItemV K H v d) : TyX K H v (.type (tyN d)) := by
  rcases h with ⟨h, _⟩ | ⟨rfl, p, rfl, h⟩
  · exact Ef.Dp.ty h
  · exact .base (.dK h)
section
variable {X : Cx} (K : PySem.W.Frag)
def rReprI (K : PySem.W.Frag) : List V → Hp → VK → Prop := fun xs H Q => ∃ v d, xs = [v] ∧ ItemV K H v d ∧ Q (.str d.shown) H
theorem call_reprI (gd : X.A.guards = some []) (hu : X.A.units + 66 < cLine) (h : X.K = K := by rfl) : CallR X (.builtin "repr") (rReprI K) := by
  subst h
  intro pins s σ H xs us Q I r h
  obtain ⟨v, d, rfl, hI, q⟩ := h
  rcases hI with ⟨hD, hS⟩ | ⟨rfl, p, rfl, hp⟩
  · exact call_reprD gd hu pins s σ H _ us Q I r ⟨v, d, rfl, hD, hS, q⟩
  · obtain ⟨u, rfl, ru⟩ := vals1 r
    obtain rfl : u = Value.ref p := ru
    obtain ⟨_, hsys, vs, kv, o, es, ep, ho, hx, hd, hk, hpr, hn⟩ := dk_of I.hok hp
    have e1 : vs = [] := by
      cases kv
      rfl
    subst e1
    have e2 : es.toList = [] := by
      generalize es.toList = l at hpr ⊢
      cases hpr
      rfl
    have dep : PyData.depth (.dict []) ≤ 2 := by decide
    have rd : Reads s.heap (.ref p) (.dict []) (p :: [] ++ []) := by
      refine .dict ho hx.1 hd ?_ ?_
      · rw [e2]
        exact .nil
      · rw [e2]
        exact .nil
    refine repr_of_reads' rd rfl (fun _ hm => ?_) gd (by omega) (fun _ _ e => e) (fun h' u tk hk => ?_) (by decide +kernel)
    · have e3 : sysModules = p := by simpa using hm
      rw [← e3] at hsys
      exact absurd hsys (by simp)
    · exact ⟨.str _, H, I.kept hk, ⟨u, rfl⟩, q⟩
end
end Ef
set_option maxHeartbeats 4000000
namespace Ef
open PySem PySem.Spec PyProof.Rows L2
/-! ### Base.__init__(self, ..) where Base is an own class without an __init__ of its own -/
section
variable {X : Cx} {e : Expr} {es : List Expr} {ta : TA} {x : Str} {p1 p2 pos : Pos} {B : Addr}
theorem pe_baseInit {pl : Sem Bool} (hg : Gl X x) (hm : X.mg x = some (.ref B))
    (h1 : PySem.W.specialIn X.K (.ref B) "__getattribute__" = some (some (.builtin "type.__getattribute__")))
    (h2 : PySem.W.typeIn X.K (.ref B) = some (.type "type")) (h3 : PySem.W.readsIn X.K B (.type "type") = true)
    (h4 : PySem.W.findCls X.K (.ref B) (.type "type") "__init__" = some (.val (.builtin "ValueError.__init__"))) (ha : PA X (e :: es) ta)
    (a1 : eval (.Call (.Attribute (.Name x p1) "__init__" p2) (e :: es) [] pos) X.env = (do
      let bv ← eval (.Name x p1) X.env
      standAt p2.atName
      let (g, first) ← holding [bv] (getMethod bv "__init__" pl)
      callWith pos g first (backTo pos (starEach (e :: es) X.env)) (backToKw pos (keywordEach [] X.env))) := by rfl)
    (a2 : starEach (e :: es) X.env = (false, eval e X.env) :: starEach es X.env := by rfl)
    (a3 : (backTo pos (starEach es X.env)).any (fun z => z.1) = false := by rfl) (a4 : (x == ("__debug__" : Str)) = false := by decide) :
    PE X (.Call (.Attribute (.Name x p1) "__init__" p2) (e :: es) [] pos) (tVeI X.K ta) := by
  refine ⟨fun pins s σ H Q I h => ?_⟩
  refine PySem.W.methodCall_KW (ld_glob I hg hm ?_ a4) a1
  obtain ⟨m, fr⟩ := I.fr
  refine PySem.W.method_of_cls fr I.ok.mod.kin h1 ?_
  refine PySem.W.cls_val fr I.ok.mod.kin h2 h3 h4 (by decide +kernel) ?_
  show wpAny _ _ (callWith pos (Value.builtin "ValueError.__init__") [] (backTo pos (starEach (e :: es) X.env)) []) _ _ _
  refine PyProof.Rows.callWith_method1 (thn (ha.run pos pins _ σ H _ (I.tok _) h) fun us s1 got => ?_) a2 a3
  obtain ⟨vs, H1, I1, r1, a, C, ws, rfl, hl, T, ea, q⟩ := got
  cases r1 with
  | @cons _ u0 _ ur ra rest =>
    obtain rfl : u0 = Value.ref a := ra
    refine oinit_ok T I1 ea ?_ fun s' J => ⟨.non, H1, J, rfl, q⟩
    have hl2 := Paired.length rest
    rw [sizeLine_eq]
    omega
end
/-! ### an exception that is kept as a value -/
/-- at a: an exception of the class cls, its dict at d -/
def exk (a : Addr) (cls : Value) (d : Option Addr) : HO := .ext fun h => ∃ oe vs, h.get? a = some oe ∧ oe.cls = cls ∧ oe.dict = d ∧ oe.data = .fields vs
theorem exk_ok {P : Program} {w : World} {H : Hp} {h : Heap} {a : Addr} {cls : Value} {d : Option Addr} {oe : Obj} {vs : Array Value} (he : h.get? a = some oe) (hc : oe.cls = cls) (hd : oe.dict = d) (hv : oe.data = .fields vs) : ObjOk P w H h a (exk a cls d) :=
  ⟨⟨oe, vs, he, hc, hd, hv⟩, ⟨oe, he⟩, fun h1 h2 z k => by
    obtain ⟨o, v, z1, z2⟩ := z
    exact ⟨o, v, k _ z1, z2⟩⟩
theorem exk_at {P : Program} {w : World} {H : Hp} {h : Heap} {a : Addr} {cls : Value} {d : Option Addr} (hok : HOk P w H h) (e : H a = some (exk a cls d)) : ∃ oe vs, h.get? a = some oe ∧ oe.cls = cls ∧ oe.dict = d ∧ oe.data = .fields vs := by
  have z : ObjOk P w H h a (.ext fun h => ∃ oe vs, h.get? a = some oe ∧ oe.cls = cls ∧ oe.dict = d ∧ oe.data = .fields vs) := hok a _ e
  exact z.1
theorem Inv_track {X : Cx} {pins : List (Addr × Obj)} {σ : L2.St} {H : Hp} {s : Shared} {a : Addr} {oe : Obj} {vs : Array Value} {cls : Value} {d : Option Addr} (I : L2.Inv X ((a, oe) :: pins) σ H s)
    (hc : oe.cls = cls) (hd : oe.dict = d) (hv : oe.data = .fields vs) (new : X.s_0.heap.get? a = none) (hp : ∀ p ∈ X.pn ++ pins, p.1 ≠ a) : L2.Inv X pins σ (upd H a (exk a cls d)) s := by
  obtain ⟨ha, na, nL, nF, nc⟩ := I.pin (a, oe) (List.mem_append_right _ List.mem_cons_self)
  have kp : ∀ {b : Addr} {u : HO}, H b = some u → upd H a (exk a cls d) b = some u := fun {b u} z => by
    rw [upd_ne (ne_of_none z na)]
    exact z
  refine ⟨I.ok, I.os, I.bare, ⟨I.base.keep, I.base.slot, fun b o z n hx => ?_, I.base.there, fun b xs z => kp (I.base.tups b xs z), fun b o u z => kp (I.base.frzs b o u z), fun b ps z => ?_⟩, I.loc, I.cell, ?_, fun y c z => ?_, fun p q => ?_, fun b o z => ?_, I.len⟩
  · rw [upd_ne (fun y => by rw [y, new] at z; cases z)]
    exact I.base.free b o z n hx
  · obtain ⟨more, z2⟩ := I.base.tbls b ps z
    exact ⟨more, kp z2⟩
  · rw [upd_ne nL.symm]
    exact I.free
  · have nca : c ≠ a := fun y2 => by
      obtain ⟨v, oc, z3, z4⟩ := I.cell y c z
      rw [y2, ha] at z3
      obtain rfl := Option.some.inj z3
      first
        | exact nc _ z4
        | exact nc _ z4.2
        | exact nc _ z4.1
    rw [upd_ne nca]
    exact I.freeC y c z
  · obtain ⟨z1, z2, z3, z4, z5⟩ := I.pin p (by
      rcases List.mem_append.mp q with q | q
      · exact List.mem_append_left _ q
      · exact List.mem_append_right _ (List.mem_cons_of_mem _ q))
    exact ⟨z1, by rw [upd_ne (hp p q)]; exact z2, z3, z4, z5⟩
  · by_cases hb : b = a
    · subst hb
      rw [upd_same] at z
      obtain rfl := Option.some.inj z
      exact exk_ok ha hc hd hv
    · rw [upd_ne hb] at z
      exact (I.hok b o z).stay (fun _ _ _ y => y) (fun c y => kp y) fun c xs y => kp y
/-- what 'except x as n: suite' wishes of an exception of the body, the exception being kept: slot i is n's -/
def wKeep (K : PySem.W.Frag) (c : Value) (i : Nat) (ts : Addr → Value → Option Addr → TS) (Wout : WX) (D : Ends) : WX := fun cls d σ H =>
  ∃ b, PySem.W.exmOne K cls c = some b ∧ (b = true → ∀ a, H a = none → ts a cls d { nx := fun σ' H' => D.nx (σ'.set i none) (upd H' a (exk a cls d)), rt := fun _ _ => False } (σ.set i (some (.ref a))) H) ∧
    (b = false → Wout cls d σ H)
section
variable {X : Cx} {x n : Str} {c : Value} {i : Nat} {body suite : List Stmt} {b₀ : Stmt} {np pos pos' : Pos} {tb : WX → TS} {ts : Addr → Value → Option Addr → TS} {Wout : WX}
theorem ps_try_keep (stk : X.stack = X.env :: X.outer) (frm : X.env.frame = some X.env.locals) (hex : X.ex = []) (hN : X.N.Nodup) (hi : X.N[i]? = some n) (hln : X.env.kindOf n = some .local) (nm : Names X x c) (tk : Takes X Wout)
    (hb : ∀ (W : WX) (pn : List (Addr × Obj)) (xe : Value → Shared → Prop), Takes (X.tr pn xe) W → PassesOwn (model X.prog X.w) X.A X.env xe → PSs (X.tr pn xe) body (tb W))
    (hsu : ∀ (a : Addr) (oe : Obj) (cls : Value) (d : Option Addr) (pn : List (Addr × Obj)), Zc cls d oe → (∃ vs, oe.data = .fields vs) → PSs (X.suite a ((a, oe) :: pn)) (b₀ :: suite) (ts a cls d)) :
    PS X (.Try body [.ExceptHandler (some (.Name x np)) (some n) (b₀ :: suite) pos'] [] [] pos) (fun D σ H => tb (wKeep X.K c i ts Wout D) D σ H) := by
  refine ⟨fun pins s σ H D I wish => ?_⟩
  have okX := I.ok
  have frs1 : X.A.frames = some (X.env :: X.outer) := by rw [okX.frames, stk]
  refine wpAny_Try_except ?_
  refine wpAny_mono ((hb (wKeep X.K c i ts Wout D) (X.pn ++ pins) (fun z s₁ => wpAny (model X.prog X.w) X.A (noteFrame z X.env) (fun _ s₂ => wpAny (model X.prog X.w) X.A (setFlight z none) (fun _ s₃ =>
    wpAny (model X.prog X.w) X.A (handleBy z X.env [.ExceptHandler (some (.Name x np)) (some n) (b₀ :: suite) pos']) (SP X pins D) X.xe s₃) X.xe s₂) X.xe s₁) (fun u s' air => ?_) PassesOwn.looking).run [] s σ H D (I.toTry _) wish) (fun fl s1 got => ?_) (fun z s1 got => got)
  · obtain ⟨a, B, sI, pins', σ', H', cls, d, rfl, J', nb, up, sky, na, os, ag, b, hb1, hyes, hno⟩ := air
    have J : L2.Inv X pins σ' H' sI := J'.ofTry okX
    have sky1 : Sky B (X.env :: X.outer) a (Zc cls d) X.env.locals s'.heap := by rw [← stk]; exact sky
    show wpAny (model X.prog X.w) X.A (noteFrame (.ref a) X.env) _ _ _
    refine Sky.land Zc.steady frs1 frm sky1 fun h3 fl3 up3 => ?_
    have J3 : L2.Inv X pins σ' H' { s' with heap := h3 } := J.landed nb fl3.1 (up.trans up3) os ag
    obtain ⟨oe3, vs3, he3, hz3, hd3⟩ := fl3.there
    have nfr : a ∉ frs (X.env :: X.outer) := fun hm => by
      obtain ⟨_, o', e', hnf⟩ := fl3.2.2.1.mem hm
      rw [he3] at e'
      cases e'
      exact hnf _ hd3
    have nL : a ≠ X.env.locals := fun z => nfr (List.mem_filterMap.mpr ⟨X.env, List.mem_cons_self, by rw [frm, z]⟩)
    have nF : a ∉ X.fs := fun hm => by
      obtain ⟨en, hen, y⟩ := List.mem_filterMap.mp hm
      exact nfr (List.mem_filterMap.mpr ⟨en, List.mem_cons_of_mem _ hen, y⟩)
    have newI : ∀ o, sI.heap.get? a = some o → False := fun o y => by
      have y2 := nb a o y (by rw [stk]; exact nfr)
      rw [fl3.2.1] at y2
      cases y2
    have new0 : X.s_0.heap.get? a = none := by
      cases y : X.s_0.heap.get? a with
      | none => rfl
      | some o =>
        obtain ⟨o', y2⟩ := J.base.there a o y (by rw [hex]; exact List.not_mem_nil)
        exact (newI o' y2).elim
    have apart : ∀ p ∈ X.pn ++ pins, p.1 ≠ a := fun p hp y => newI p.2 (by rw [← y]; exact (J.pin p hp).1)
    have S3 := J3.suite he3 hd3 na nL nF
    refine wpAny_handleBy_cons (codeAny_handlers_test ?_) (by intro y; cases y)
    have LT : PySem.W.Looks (model X.prog X.w) h3 (typeOf (.ref a)) cls := fun A Q E s k y => wpAny_typeOf_ref (k _ _ he3) (by rw [hz3.1]; exact y)
    have LM := PySem.W.exm_one (M := model X.prog X.w) (J3.kIn) LT hb1
    have asked : ∀ {Q : Value → Shared → Prop} {E : Value → Shared → Prop}, Q c { s' with heap := h3 } → wpAny (model X.prog X.w) (X.A.mark (some (.ref a))) (eval (.Name x np) X.env) Q E { s' with heap := h3 } := fun {Q E} y => by
      obtain ⟨hg, hdbg, hm | ⟨hm, hv, hnn⟩⟩ := nm
      · exact ld_glob (X := X.suite a ((a, oe3) :: (X.pn ++ pins))) S3 hg hm y hdbg
      · exact ld_blt (X := X.suite a ((a, oe3) :: (X.pn ++ pins))) S3 hg hm hv y hnn hdbg
    refine asked (LM.here ?_)
    cases b with
    | true =>
      refine codeAny_handlers_suite_as ?_
      refine HandSPX.lands_againZ fl3 fun h4 fl4 up4 => ?_
      have J4 : L2.Inv X pins σ' H' { s' with heap := h4 } := J.landed nb fl4.1 ((up.trans up3).trans up4) os ag
      obtain ⟨oe4, vs4, he4, hz4, hd4⟩ := fl4.there
      have S4 := J4.suite he4 hd4 na nL nF
      refine store_ok (X := X.suite a ((a, oe4) :: (X.pn ++ pins))) (v := .ref a) S4 hN hi (.inl hln) rfl (fun s5 S5 => ?_) (.inr hln)
      refine wpAny_mono ((hsu a oe4 cls d (X.pn ++ pins) hz4 ⟨_, hd4⟩).run [] s5 _ H' _ S5 (hyes rfl a na)) (fun fl s6 got => ?_) (fun _ _ y => False.elim y)
      cases fl with
      | next =>
        obtain ⟨σ6, H6, S6, q6⟩ := got
        have P6 := S6.pin (a, oe4) (List.mem_append_left _ List.mem_cons_self)
        have J6 : L2.Inv X ((a, oe4) :: pins) σ6 H6 s6 := (S6.unsuite okX).pins_of fun p hp => by
          rcases List.mem_cons.mp hp with rfl | hp
          · exact P6
          · exact (S6.unsuite okX).pin p (List.mem_append_right _ hp)
        exact gone_ok J6 hN hi hln fun s7 J7 => ⟨_, _, Inv_track J7 hz4.1 hz4.2 hd4 new0 apart, q6⟩
      | brk =>
        obtain ⟨σ6, H6, S6, q6⟩ := got
        exact q6.elim
      | cont =>
        obtain ⟨σ6, H6, S6, q6⟩ := got
        exact q6.elim
      | ret u =>
        obtain ⟨v6, σ6, H6, S6, r6, q6⟩ := got
        exact q6.elim
    | false =>
      show wpAny _ X.A (handleBy (.ref a) X.env []) _ _ _
      refine wpAny_handleBy_nil ?_
      obtain ⟨k1, k2, k3, oe, vs, T, oT, ts', he, hz, hd, h1, hr⟩ := id fl3
      unfold PySem.passOn
      refine wpAny_bind (wpAny_field he hd h1 ?_)
      rw [if_neg (show ¬ ((Value.ref T == Value.none) = true) from by simp)]
      have fin : wpAny (model X.prog X.w) X.A (setFlight (.ref a) X.env.frame) (fun _ s4 => wpAny (model X.prog X.w) X.A (throw (.ref a) : Sem Flow) (SP X pins D) X.xe s4) X.xe { s' with heap := h3 } := by
        rw [frm]
        refine HandSPX.setFlight_upZ fl3 fun h4 hh4 up4 => wpAny_throw (tk _ _ ?_)
        exact ⟨a, B, sI, pins, σ', H', cls, d, rfl, J, nb, (up.trans up3).trans up4, .inr (.inr (by rw [stk]; exact hh4)), na, os, ag, hno rfl⟩
      first
        | exact wpAny_bind (wpAny_pure (wpAny_bind fin))
        | exact wpAny_bind fin
  · cases fl with
    | next =>
      obtain ⟨σ', H', J', q⟩ := got
      exact wpAny_execs_nil ⟨σ', H', J'.ofTry okX, q⟩
    | brk =>
      obtain ⟨σ', H', J', q⟩ := got
      exact ⟨σ', H', J'.ofTry okX, q⟩
    | cont =>
      obtain ⟨σ', H', J', q⟩ := got
      exact ⟨σ', H', J'.ofTry okX, q⟩
    | ret u =>
      obtain ⟨v, σ', H', J', r, q⟩ := got
      exact ⟨v, σ', H', J'.ofTry okX, r, q⟩
end
theorem takesF {X : Cx} : Takes X (fun _ _ _ _ => False) := fun _ _ x => by
  obtain ⟨_, _, _, _, _, _, _, _, _, _, _, _, _, _, _, _, z⟩ := x
  exact z.elim
theorem passF {X : Cx} : Passes (L2.CX X.prog X.w) X (fun _ _ _ => False) := fun _ _ _ _ _ _ _ x => by
  obtain ⟨_, _, _, _, _, _, _, _, _, _, _, _, z⟩ := x
  exact z.elim
/-! ### what is asked of an exception that was kept -/
section
open PySem.W PySem.Calls
variable {prog : Program} {w : World} {A : Around} {E : Value → Shared → Prop} {s : Shared} {K : PySem.W.Frag} {y D : Addr} {oy : Obj} {od : Option Obj}
theorem class_of_exc {Q : Option Value → Shared → Prop} (T : ExcC K D) (kin : K.In s.heap) (I : InstAt s.heap y oy D od) (hod : od.isSome = true) (h : Q (some (.ref D)) { s with toks := s.toks + 1 }) :
    wpAny (model prog w) A (getAttr? (.ref y) "__class__") Q E s := by
  obtain ⟨oo, rfl⟩ := Option.isSome_iff_exists.mp hod
  have ff : findObj K D (some oo) "__class__" = some (.bind (.builtin "getset_descriptor.__get__") (.builtin "object.__class__")) := findObj_data (by obtain ⟨cd, hc, _⟩ := any_some T.hd; rw [hc]; rfl) T.ha T.hn T.ht
  obtain ⟨hp, g, d, t, os⟩ := s
  have T0 := I.type (M := model prog w)
  have T1 := looks_findIn (M := model prog w) kin T.hg
  have T2 := looks_findIn (M := model prog w) kin T.hk
  have T3 := looks_find (M := model prog w) kin I ff
  have inB : Looks (model prog w) hp (isInstance (.ref y) (.type "BaseException")) true := T0.andThen (looks_subIn kin T.hs)
  have b0 : (false && onTheHeap (Value.builtin "BaseException.__getattribute__")) = false := rfl
  have b2 : (Value.builtin "BaseException.__getattribute__" == Value.builtin "object.__getattribute__") = false := by decide +kernel
  have b1 : (onTheHeap (Value.ref D) && Value.builtin "BaseException.__getattribute__" == Value.builtin "object.__getattribute__") = false := by rw [b2]; rfl
  unfold getAttr? getAttrBy? getAttrBy
  refine wpAny_bind (wpAny_mkText (wpAny_bind (wpAny_attempt (wpAny_holding (wpAny_bind (T0.at (wpAny_bind (T1.at ?_))))))))
  show wpAny _ _ (if (onTheHeap (Value.ref D) && Value.builtin "BaseException.__getattribute__" == Value.builtin "object.__getattribute__") = true then _ else _) _ _ ⟨hp, g, d, t + 1, os⟩
  rw [b1, if_neg Bool.false_ne_true]
  unfold getAttrByItsOwn hookBefore
  refine wpAny_bind ?_
  rw [if_pos (show onTheHeap (Value.ref D) = true from rfl)]
  refine T2.at ?_
  refine wpAny_bind (wpAny_attempt (wpAny_holding ?_))
  unfold callGetattribute
  rw [b0, if_neg Bool.false_ne_true]
  unfold boundAndCalled
  rw [PySem.F.excAttr_ValueError.ga.bind (.ref y)]
  refine wpAny_bind (wpAny_pure ?_)
  show wpAny _ _ (call (.builtin "BaseException.__getattribute__") [.ref y, .str "__class__" t]) _ _ _
  refine wpAny_call (codeAny_call_builtin PySem.F.excAttr_ValueError.ga.plain PySem.F.entry_bexc_ga ?_)
  refine @check_slot (model prog w) _ _ ⟨hp, g, d, t + 1, os⟩ "BaseException.__getattribute__" "BaseException" "__getattribute__" (.ref y) [.str "__class__" t] [] _ (by decide +kernel) (by decide +kernel) inB (PySem.F.args_bexc_ga (.ref y) (.str "__class__" t)) ?_
  unfold Builtin.«object.__getattribute__»
  refine wpAny_bind (wpAny_of_eq (a := ((Value.ref y : Value), [Value.str "__class__" t])) (by first | rfl | (simp only [slotArgs]; rfl)) ?_)
  refine wpAny_bind (wpAny_pure (wpAny_bind (T0.at (wpAny_bind (T3.at ?_)))))
  show wpAny _ _ (holding [Value.builtin "object.__class__"] (call (.builtin "getset_descriptor.__get__") [.builtin "object.__class__", .ref y, .ref D]) >>= ret) _ _ ⟨hp, g, d, t + 1, os⟩
  refine wpAny_bind (wpAny_holding (wpAny_call (class_get (s := ⟨hp, g, d, t + 1, os⟩) (ox := oy) (od := some oo) kin I T.hm ?_)))
  refine wpAny_pure ?_
  show wpAny _ _ (handedOut (.ref D)) _ _ ⟨hp, g, d, t + 1, os⟩
  rw [handedOut_of (v := .ref D) rfl]
  first
    | exact wpAny_pure (wpAny_pure h)
    | exact wpAny_pure h
    | exact wpAny_pure (wpAny_bind (wpAny_pure (wpAny_pure h)))
theorem kit_kept (T : ExcC K D) : KitX K (.ref y) (.ref D) (fun h => ∃ oy oo, InstAt h y oy D (some oo)) where
  ty := fun _ _ _ I => by
    obtain ⟨_, _, I⟩ := I
    exact I.type
  it := fun _ _ kin _ => by
    obtain ⟨cd, hc, _⟩ := any_some T.hd
    unfold clsIn at hc
    split at hc
    · rename_i c' d' cd' sl' ho
      intro A' Q' E' s' k q
      unfold isType loadHead
      exact wpAny_bind (wpAny_loadPart (k _ _ (kin _ _ ho)) (wpAny_pure q))
    · cases hc
  ne := fun h tp dd its n sl kin htp => by
    obtain ⟨cd, hc, _⟩ := any_some T.hd
    refine Bool.eq_false_iff.mpr fun q => ?_
    obtain rfl : D = tp := Value.ref.inj (beq_iff_eq.mp q)
    unfold clsIn at hc
    split at hc
    · rename_i c' d' cd' sl' ho
      have z := (kin _ _ ho).symm.trans htp
      cases z
    · cases hc
  ca := fun kin I k => by
    obtain ⟨_, _, I⟩ := I
    exact class_of_exc T kin I rfl k
end
section
variable {X : Cx} {pins : List (Addr × Obj)} {σ : L2.St} {H : Hp} {s : Shared}
theorem kept_inst {a D d : Addr} {fs : List (Str × V)} (I : L2.Inv X pins σ H s) (e : H a = some (exk a (.ref D) (some d))) (ed : H d = some (.xd fs)) : ∃ oy oo, PySem.W.InstAt s.heap a oy D (some oo) ∧ ∃ mA : Str → Option Value, (∀ f, RelO (fs.lookup f) (mA f)) ∧ ∀ n, PySem.W.lookIn n oo = some (mA n) := by
  obtain ⟨oe, vs, h1, h2, h3, h4⟩ := exk_at I.hok e
  obtain ⟨mA, hns, hr⟩ := (show ObjOk X.prog X.w H s.heap d (.xd fs) from I.hok d _ ed)
  obtain ⟨oo, ho, hl⟩ := lookIn_ns hns
  exact ⟨oe, oo, ⟨h1, h2, by unfold PySem.W.notCls; rw [h4] <;> rfl, by rw [h3]; exact ho⟩, mA, hr, hl⟩
end
/-- isinstance(x, c), x an exception that was kept -/
def rIsX (K : PySem.W.Frag) : List V → Hp → VK → Prop := fun xs H Q => ∃ (a D d : Addr) (fs : List (Str × V)) (c : V) (u : Value) (b : Bool), xs = [.ref a, c] ∧ H a = some (exk a (.ref D) (some d)) ∧ H d = some (.xd fs) ∧ ExcC K D ∧ ClsV c u ∧ PySem.W.kitOne K (.ref D) u = some b ∧ Q (.bl b) H
/-- isinstance(x, (c1, ..)) -/
def rIsXT (K : PySem.W.Frag) : List V → Hp → VK → Prop := fun xs H Q => ∃ (a D d : Addr) (fs : List (Str × V)) (tp : Addr) (cs : List V) (us : List Value) (b : Bool), xs = [.ref a, .ref tp] ∧ H a = some (exk a (.ref D) (some d)) ∧ H d = some (.xd fs) ∧ ExcC K D ∧ H tp = some (.tup cs) ∧ Paired ClsV cs us ∧ PySem.W.kitAny K (.ref D) us = some b ∧ Q (.bl b) H
section
variable {X : Cx}
theorem call_isX : CallR X (.builtin "isinstance") (rIsX X.K) := by
  intro pins s σ H xs us Q I r h
  obtain ⟨a, D, d, fs, c, u, b, rfl, ea, ed, T, k, e, q⟩ := h
  obtain ⟨u1, u2, rfl, r1, r2⟩ := vals2 r
  obtain rfl := k.eq r2
  obtain rfl : u1 = Value.ref a := r1
  obtain ⟨oy, oo, J, _⟩ := kept_inst I ea ed
  exact PySem.W.kia_one (kit_kept T) I.kIn ⟨_, _, J⟩ e (fun z => nomatch z) fun tk => ⟨.bl b, H, I.tok tk, rfl, q⟩
theorem call_isXT : CallR X (.builtin "isinstance") (rIsXT X.K) := by
  intro pins s σ H xs us Q I r h
  obtain ⟨a, D, d, fs, tp, cs, ws, b, rfl, ea, ed, T, hT, k, e, q⟩ := h
  obtain ⟨u1, u2, rfl, r1, r2⟩ := vals2 r
  obtain rfl : u1 = Value.ref a := r1
  obtain rfl : u2 = Value.ref tp := r2
  obtain ⟨oy, oo, J, _⟩ := kept_inst I ea ed
  obtain ⟨_, its, rv, o, h1, h2, n, h3⟩ := (show ObjOk X.prog X.w H s.heap tp (.tup cs) from I.hok tp _ hT)
  obtain rfl := ClsV.all k rv
  obtain ⟨oc, odd, dt, sl⟩ := o
  simp only at h2 h3
  subst h2 h3
  exact PySem.W.kia_tup (kit_kept T) I.kIn ⟨_, _, J⟩ h1 e (fun z => nomatch z) fun tk => ⟨.bl b, H, I.tok tk, rfl, q⟩
/-- e.f, e an exception that was kept -/
def tFldX (K : PySem.W.Frag) (f : Str) (te : TE) : TE := fun σ H Q => te σ H fun x H1 => ∃ (a D d : Addr) (fs : List (Str × V)) (v : V), x = .ref a ∧ H1 a = some (exk a (.ref D) (some d)) ∧ H1 d = some (.xd fs) ∧ XfC K D ∧ PySem.W.findIn K (.ref D) f = some none ∧ fs.lookup f = some v ∧ Q v H1
theorem pe_fldX {e : Expr} {te : TE} {pos : Pos} {f : Str} (he : PE X e te) (hb : attributeBase e f X.env (eval e X.env) = eval e X.env := by rfl) : PE X (.Attribute e f pos) (tFldX X.K f te) := by
  refine ⟨fun pins s σ H Q I h => ?_⟩
  refine attr_of hb (thn (he.run pins s σ H _ I h) fun u s1 got => ?_)
  obtain ⟨x, H1, I1, rx, a, D, d, fs, v, rfl, ea, ed, T, hno, l, q⟩ := got
  obtain rfl : u = Value.ref a := rx
  obtain ⟨oy, oo, J, mA, hr, hl⟩ := kept_inst I1 ea ed
  obtain ⟨u, hu, ru⟩ := RelO.some_of (v := v) (o := mA f) (by rw [← l]; exact hr f)
  exact HandSPX.exc_get I1.kIn J T.ga T.gg T.exC (PySem.W.findObj_own T.hdC hno rfl (by rw [hl, hu])) (handed_of ru) ⟨v, H1, I1.tok _, ru, q⟩
end
/-! ### what the written part says of the program's error classes -/
structure BaseT (K : PySem.W.Frag) (B : Addr) : Prop where
  sp : PySem.W.specialIn K (.ref B) "__getattribute__" = some (some (.builtin "type.__getattribute__"))
  ty : PySem.W.typeIn K (.ref B) = some (.type "type")
  rd : PySem.W.readsIn K B (.type "type") = true
  fc : PySem.W.findCls K (.ref B) (.type "type") "__init__" = some (.val (.builtin "ValueError.__init__"))
structure ErrT (K : PySem.W.Frag) (C fI : Addr) (f : Str) (B : Addr) : Prop where
  ox : OexC K C
  xf : XfC K C
  ec : ExcC K C
  no : PySem.W.findIn K (.ref C) f = some none
  iC : PySem.W.findIn K (.ref C) "__init__" = some (some (.ref fI))
  tI : PySem.W.typeIn K (.ref fI) = some (.type "function")
  ex : PySem.W.exmOne K (.ref C) (.ref B) = some true
/-- an error's __init__: the base's, then the field -/
def spErr (K : PySem.W.Frag) (C : Addr) (f : Str) : Sp := fun vs H Q _ => ∃ (a : Addr) (v : V), vs = [.ref a, v] ∧ H a = some (exo a C none) ∧ ∀ dx, H dx = none → dx ≠ a → Q .non (upd (upd H dx (exd dx [(f, v)])) a (exo a C (some dx)))
/-- behind the raise: the error's dict, all else as it was -/
theorem err_end {H : Hp} {a C dx : Addr} {f : Str} {v : V} (na : H a = none) (nd : (upd H a (exo a C none)) dx = none) (ne : dx ≠ a) :
    let H2 := upd (upd (upd H a (exo a C none)) dx (exd dx [(f, v)])) a (exo a C (some dx))
    H2 a = some (exo a C (some dx)) ∧ H2 dx = some (exd dx [(f, v)]) ∧ H dx = none ∧ Same H (upd (del H2 a) dx (.xd [(f, v)])) ∧ (upd (del H2 a) dx (.xd [(f, v)])) dx = some (.xd [(f, v)]) := by
  have hd : H dx = none := by
    rw [upd_ne ne] at nd
    exact nd
  refine ⟨upd_same, by rw [upd_ne ne, upd_same], hd, fun b o z => ?_, upd_same⟩
  have n1 : b ≠ a := ne_of_none z na
  have n2 : b ≠ dx := ne_of_none z hd
  rw [upd_ne n2, del_ne n1, upd_ne n1, upd_ne n2, upd_ne n1]
  exact z
end Ef
set_option maxHeartbeats 4000000
namespace Ef
open PySem PySem.Spec PyProof.Rows L2
open Sem (wp)
/-! ### enumerate(tuple) -/
theorem meets_enumerate_newG {v : Value} {o : Obj} {H : Heap → Prop} (B : Begins v o H) :
    Meets (Builtin.«enumerate.__new__» ⟨[.type "enumerate", v], []⟩) (fun _ R s => H s.heap ∧
      R (.ok (.ret (.ref (s.heap.push o).objs.size))) { s with heap := (s.heap.push o).push { cls := .type "enumerate", data := .fields #[.none, .bool false, .ref s.heap.objs.size, rawInt 0, .none, .none] } }) :=
  .of_wp fun prog w A R s h => by
    obtain ⟨hp, g, d, tk, os⟩ := s; obtain ⟨h1, h⟩ := h
    have hsub := sub_enumerate
    have q1 : ∀ {A' : Around} {E : Value → Shared → Prop} {Q : Value → Shared → Prop}, Q (.ref hp.objs.size) ⟨hp.push o, g, d, tk, os⟩ → wpAny (model prog w) A' (pyIter v) Q E ⟨hp, g, d, tk, os⟩ :=
      fun q => B.iter prog w _ _ ⟨hp, g, d, tk, os⟩ _ h1 q
    wp_walk using q1
    refine wpAny_stack_any fun st => wpAny_pure ?_
    split
    · rename_i c _ _ _ _ _
      cases (c == Value.type "enumerate")
      · wp_walk using q1
        exact ⟨_, rfl, h⟩
      · wp_walk using q1
        exact ⟨_, rfl, h⟩
    · wp_walk using q1
      exact ⟨_, rfl, h⟩
theorem call_enumerate_tup {prog : Program} {w : World} {A : Around} {E : Value → Shared → Prop} {s : Shared} {t : Addr} {items : Array Value} {Q : Value → Shared → Prop} (hT : s.heap.IsTuple t items)
    (h : ∀ h', IsEnum h' (s.heap.objs.size + 1) s.heap.objs.size 0 .none → h'.IsTupleIter s.heap.objs.size t 0 → h'.objs.size = s.heap.objs.size + 2 →
      (∀ b o, s.heap.get? b = some o → h'.get? b = some o) → Q (.ref (s.heap.objs.size + 1)) { s with heap := h' }) :
    wpAny (model prog w) A (call (.type "enumerate") [.ref t]) Q E s := by
  refine callType_new F.called_enumerate (by decide) (F.typeCall_enumerate_1 _) (F.newCall_enumerate_1 _) (fun obj => F.args_object_init_2 obj _) F.entry_enumerate_new
    (meets_enumerate_newG (begins_tuple t items)) ⟨hT, ?_⟩
  have hz : (s.heap.push { cls := .type "tuple_iterator", data := .fields #[.ref t, .int 0 0] }).objs.size = s.heap.objs.size + 1 := Heap.size_push ..
  show _ ∧ _
  rw [hz]
  have he : IsEnum ((s.heap.push { cls := .type "tuple_iterator", data := .fields #[.ref t, .int 0 0] }).push
      { cls := .type "enumerate", data := .fields #[.none, .bool false, .ref s.heap.objs.size, rawInt 0, .none, .none] }) (s.heap.objs.size + 1) s.heap.objs.size 0 .none := by
    have := Heap.get?_push_size (s.heap.push { cls := .type "tuple_iterator", data := .fields #[.ref t, .int 0 0] })
      (o := { cls := .type "enumerate", data := .fields #[.none, .bool false, .ref s.heap.objs.size, rawInt 0, .none, .none] }) rfl
    rw [hz] at this; exact this
  exact ⟨⟨_, he, rfl⟩, h _ he ⟨_, Heap.get?_push_of_some _ (Heap.get?_push_size _ rfl), rfl, rfl⟩ (by rw [Heap.size_push, hz]) fun b o x => Heap.get?_push_of_some _ (Heap.get?_push_of_some _ x)⟩
/-- the tuple at a, each item in a new pair -/
def Itet (K : PySem.W.Frag) (a : Addr) : It :=
  ⟨fun i H => ∃ (xs : List V) (x : V), SqT K H a xs ∧ xs[i]? = some x, fun i H v H' => ∃ T x, v = .ref T ∧ H T = none ∧ H' = upd H T (.tup [.int (i : Nat), x]) ∧ ∀ xs, SqT K H a xs → xs[i]? = some x, fun i H => ∃ xs : List V, SqT K H a xs ∧ xs.length ≤ i⟩
theorem tup_ne_iter {h : Heap} {a it : Addr} {items : Array Value} {i : Nat} (ht : h.IsTuple a items) (hit : h.IsTupleIter it a i) : a ≠ it := by
  rintro rfl
  obtain ⟨o, h1, c1, _⟩ := ht
  obtain ⟨o', h2, c2, _⟩ := hit
  rw [h1] at h2
  obtain rfl := Option.some.inj h2
  rw [c1] at c2
  injection c2 with c3
  exact absurd c3 (by decide)
theorem enum_ne_tup {h : Heap} {a e it : Addr} {items : Array Value} {i : Int} {old : Value} (ht : h.IsTuple a items) (he : IsEnum h e it i old) : e ≠ a := by
  rintro rfl
  obtain ⟨o, h1, c1, _⟩ := ht
  have h2 : h.get? e = _ := he
  rw [h1] at h2
  obtain rfl := Option.some.inj h2
  injection c1 with c3
  exact absurd c3 (by decide)
theorem wpAny_pyNext_enum_endX {prog : Program} {w : World} {A : Around} {E : Value → Shared → Prop} {s : Shared} {e it t : Addr} {i : Nat} {items : Array Value} {old : Value} {Q : Option Value → Shared → Prop} (hh : A.handled = none)
    (he : IsEnum s.heap e it i old) (hit : s.heap.IsTupleIter it t i) (ht : s.heap.IsTuple t items) (hx : items[i]? = none)
    (hQ : ∀ h', Heap.ExtBut it s.heap h' → Q none { s with heap := h' }) : wpAny (model prog w) A (pyNext (.ref e)) Q E s := by
  have hT : s.TypeIs (.ref e) "enumerate" := ⟨_, he, rfl⟩
  unfold pyNext
  refine wpAny_bind (wpAny_attempt (wpAny_callSpecial?_slot (name := Str.ofString "__next__") hT F.slot_enumerate_next
    (wpAny_call_entry F.slot_enumerate_next hT F.entry_enumerate_next ?_ (F.args_enumerate_next_1 _))))
  show wpAny _ _ (field (.ref e) 2 >>= _) _ _ _
  refine wpAny_bind (wpAny_field he rfl (x := .ref it) rfl ?_)
  refine wpAny_bind (wpAny_nextOf_tuple_end (show A.in1.handled = none from hh) hit ht hx fun h' x he' hx' => ?_)
  obtain ⟨o, ho, hc⟩ := hx'
  refine wpAny_bind (wpAny_isInstance (T := "StopIteration") (b := true) ⟨o, ho, hc⟩ isSubtype_stop ?_)
  exact wpAny_pure (hQ _ he')
theorem turn_enumT {P : Program} {w : World} {K : PySem.W.Frag} {elts : List Expr} {kk : Nat} {tpos : Pos} (a e it : Addr) :
    Turn P w K (.Tuple elts kk tpos) (Itet K a) [e, it] e (fun i h => (∃ old, IsEnum h e it ((i : Nat) : Int) old) ∧ h.IsTupleIter it a i ∧ e ≠ it) where
  mem := by simp
  obj := fun i h st b hb => by
    obtain ⟨⟨old, he⟩, ⟨o, ho, hc, hd⟩, _⟩ := st
    have e' : b = e ∨ b = it := by simpa using hb
    rcases e' with z | z
    · rw [z]; exact ⟨_, he, fun v q => nomatch q⟩
    · rw [z]; exact ⟨o, ho, fun v q => by rw [hd] at q; cases q⟩
  keep := fun i h h' st k => let ⟨⟨old, he⟩, hi, hne⟩ := st; ⟨⟨old, k e (by simp) _ he⟩, hi.at fun o q => k it (by simp) o q, hne⟩
  item := by
    intro X hP hw hK hc i pins s σ H E I hf st hg
    subst hP hw hK
    obtain ⟨⟨old, he⟩, hit, hne⟩ := st
    obtain ⟨xs, x, hq, hx⟩ := hg
    obtain ⟨its, rv, p, hz⟩ := I.tuple hq
    obtain ⟨u, hu, ru⟩ := rv.get hx
    have hel : e < s.heap.objs.size := Heap.lt_size he
    have hil : it < s.heap.objs.size := by obtain ⟨_, q, _⟩ := hit; exact Heap.lt_size q
    have pT : s.heap.IsTuple a its.toArray := p
    have hai := tup_ne_iter pT hit
    have hei : i < its.toArray.size := by
      have h9 : i < its.length := by
        rw [← rv.length]
        exact (List.getElem?_eq_some_iff.mp hx).1
      simpa using h9
    refine wpAny_pyNext_enum_itemD (Draws.tuple (show X.A.in1.handled = none from I.ok.hd hc) it a hai its.toArray) he ⟨hit, pT⟩ hei hne (fun z => ?_) fun x2 h' tk hP ho hst' hT hsz hk => ?_
    · rcases List.mem_cons.mp z with z | z
      · exact hne z
      · exact enum_ne_tup pT he (by simpa using z)
    have hP2 : its.toArray[i]? = some x2 := hP
    obtain rfl : u = x2 := by
      have h9 : its[i]? = some x2 := by simpa using hP2
      rw [hu] at h9
      exact Option.some.inj h9
    refine ⟨_, rfl, wpAny_letOwnedTupleGo_enum (s := { s with heap := h', toks := tk + 1 }) ho fun h'' he' sb => ?_⟩
    have hT2 : h''.get? s.heap.objs.size = some { cls := .type "tuple", data := .seq #[.int i tk, u] } := (sb.2 _ (Nat.ne_of_gt hel)).trans hT
    have new : ObjOk X.prog X.w (upd H s.heap.objs.size (.tup [.int (i : Nat), x])) h'' s.heap.objs.size (.tup [.int (i : Nat), x]) :=
      ⟨by show 2 ≤ sizeLine; decide, [.int i tk, u], .cons ⟨_, rfl⟩ (.cons ru .nil), ⟨_, hT2, rfl, _, rfl⟩⟩
    have I1 : Inv X pins σ (upd H s.heap.objs.size (.tup [.int (i : Nat), x])) { s with heap := h'', toks := tk + 1 } :=
      I.turnedNew (ch := [e, it]) (fun b ob hb q => (sb.2 b (fun z => hb (by simp [z]))).trans (hk b ob (fun z => hb (by simp [z])) (fun z => hb (by simp [z])) q)) hf (Nat.le_refl _) new
    refine ⟨.ref s.heap.objs.size, _, I1, rfl, ⟨_, x, rfl, I.hok.fresh (Nat.le_refl _), rfl, fun ys hy => by rw [I.tuple_inj hy hq]; exact hx⟩, ⟨⟨u, ?_⟩, hst'.1.at fun o q => (sb.2 it (Ne.symm hne)).trans q, hne⟩, fun b hb => ?_⟩
    · have e1 : ((i + 1 : Nat) : Int) = (i : Int) + 1 := by omega
      rw [e1]; exact he'
    · have hb' : b < s.heap.objs.size := by
        have e' : b = e ∨ b = it := by simpa using hb
        rcases e' with z | z
        · rw [z]; exact hel
        · rw [z]; exact hil
      rw [upd_ne (Nat.ne_of_lt hb')]
      exact (hf b hb).1
  done := by
    intro X hP hw hK hc i pins s σ H E I hf st hg
    subst hP hw hK
    obtain ⟨⟨old, he⟩, hit, hne⟩ := st
    obtain ⟨xs, hq, hx⟩ := hg
    obtain ⟨its, rv, p, hz⟩ := I.tuple hq
    obtain ⟨f0, f1, f2, f3, f4, f5⟩ := hf it (by simp)
    have pT : s.heap.IsTuple a its.toArray := p
    have hl := rv.length
    refine wpAny_pyNext_enum_endX (I.ok.hd hc) he hit pT (by simp; omega) fun h' eb => ⟨rfl, I.turned (t' := s.toks) (fun b o hb q => eb b o hb q) f0 f1 f3 f4 f5⟩
  self := fun A i s Q E st h => let ⟨⟨_, he⟩, _⟩ := st; wpAny_pyIter_enum he h
def iEnumT (K : PySem.W.Frag) (ta : TA) : TI := fun σ H R => ta σ H fun vs H1 => ∃ a xs, vs = [.ref a] ∧ SqT K H1 a xs ∧ R (Itet K a) H1
theorem pi_enumT {X : Cx} {e : Expr} {ta : TA} {p pos tpos : Pos} {elts : List Expr} {kk : Nat} (hg : Gl X "enumerate") (hm : X.mg "enumerate" = none) (ha : PA X [e] ta) (hs : starEach [e] X.env = [(false, eval e X.env)] := by rfl) :
    PI X (.Tuple elts kk tpos) (.Call (.Name "enumerate" p) [e] [] pos) (iEnumT X.K ta) := by
  refine ⟨fun pins s σ H R I h => ?_⟩
  refine Call_ (ld_blt I hg hm boot_enumerate (PyProof.Rows.callWith_type1 (thn (ha.run pos pins s σ H _ I h) fun us s1 ⟨vs, H1, I1, r1, q1⟩ => ?_) hs rfl))
  obtain ⟨a, xs, ex, hq, q⟩ := q1
  subst ex
  cases r1 with
  | cons r rr =>
    cases rr
    cases r
    obtain ⟨its, rv, p', hz⟩ := I1.tuple hq
    refine call_enumerate_tup (show s1.heap.IsTuple a its.toArray from p') fun h' he hit hsz hk => wpAny_pyIter_enum he ?_
    have I2 : Inv X pins σ H1 { s1 with heap := h' } := I1.kept (t' := s1.toks) hk
    refine ⟨s1.heap.objs.size + 1, [s1.heap.objs.size + 1, s1.heap.objs.size], _, _, H1, rfl, I2, turn_enumT a (s1.heap.objs.size + 1) s1.heap.objs.size, ⟨⟨.none, he⟩, hit, Nat.succ_ne_self _⟩, fun b hb => ?_, q⟩
    have e' : b = s1.heap.objs.size + 1 ∨ b = s1.heap.objs.size := by simpa using hb
    have hle : s1.heap.objs.size ≤ b := by
      rcases e' with z | z
      · rw [z]; exact Nat.le_add_right _ _
      · rw [z]; exact Nat.le_refl _
    exact I1.fpOk hle (I1.hok.fresh hle)
/-! ### sorted(xs) of tuples of ints, also of at most one -/
theorem sort_short {prog : Program} {w : World} {A : Around} {E : Value → Shared → Prop} {s : Shared} {a : Addr} {vs : List Value} {n : Nat} {P : PySem.Fin → Shared → Prop} (ho : s.heap.get? a = some (seqObj "list" vs.toArray n)) (h1 : vs.length < 2)
    (h : ∀ out : Array Value, out.toList.Perm vs → P (.done (.ret .none)) { s with heap := sortedHeap s.heap a vs out }) :
    wpAny (model prog w) A (Builtin.«list.sort» ⟨[.ref a], []⟩) P E s :=
  SK.plain_sort (r := fun _ => 0) ho (by omega) (fun h2 Q hQ => absurd h2 (by omega)) fun ps out e1 e2 e3 => h out (TS.out_rank (r := fun _ => 0) e1 e2 e3).1
theorem sorted_short {prog : Program} {w : World} {A : Around} {E : Value → Shared → Prop} {s : Shared} {l : Addr} {vs : List Value} {Q : Value → Shared → Prop} (hl : s.heap.IsList l vs.toArray) (h1 : vs.length < 2)
    (h : ∀ out : Array Value, out.toList.Perm vs → Q (.ref (s.heap.objs.size + 1)) { s with heap := sortedAll s.heap vs out }) :
    wpAny (model prog w) A (call (.builtin "sorted") [.ref l]) Q E s := by
  refine Calls.call_function_entry kind_sorted plain_sorted entry_sorted (args_sorted1 _) ?_
  unfold Builtin.«sorted»
  refine wpAny_bind (m := checkCount "sorted" 1 1 _) (wpAny_pure ?_)
  refine wpAny_bind (collect_list hl ?_ (by rw [sizeLine_eq]; omega))
  refine wpAny_bind (wpAny_newList ?_ (by rw [sizeLine_eq]; omega))
  have hsz : ((s.heap.push (seqObj "list" #[] 0)).update s.heap.objs.size (Obj.mapSeq (· ++ vs.toArray))).objs.size = s.heap.objs.size + 1 := by
    rw [Heap.size_update, size_push']
  have hoL : (((s.heap.push (seqObj "list" #[] 0)).update s.heap.objs.size (Obj.mapSeq (· ++ vs.toArray))).push (seqObj "list" vs.toArray 0)).get? (s.heap.objs.size + 1) = some (seqObj "list" vs.toArray 0) := by
    rw [← hsz]; exact Heap.get?_push_size _ rfl
  show wpAny _ _ _ _ _ { s with heap := ((s.heap.push (seqObj "list" #[] 0)).update s.heap.objs.size (Obj.mapSeq (· ++ vs.toArray))).push (seqObj "list" vs.toArray 0) }
  rw [hsz]
  refine wpAny_bind (wpAny_holding (wpAny_call_entry slot_list_sort ⟨_, hoL, rfl⟩ entry_list_sort (sort_short hoL h1 fun out a1 => ⟨_, rfl, ?_⟩) (args_list_sort _)))
  exact wpAny_pure ⟨_, rfl, h out a1⟩
def rSortA (K : PySem.W.Frag) (B : Int) : List V → Hp → VK → Prop := fun vs H Q => (∃ d, 1 ≤ d ∧ rSortU K d B vs H Q) ∨
  ∃ (a : Addr) (xs : List V), vs = [V.ref a] ∧ SqL K H a xs ∧ xs.length < 2 ∧ (∀ x ∈ xs, ∃ t, x = .ref t) ∧ ∀ p, H p = none → Q (.ref p) (upd H p (.lst xs))
theorem perm_short {α : Type} {l m : List α} (h : l.Perm m) (h1 : m.length < 2) : l = m := by
  cases m with
  | nil => exact List.perm_nil.mp h
  | cons x r =>
    cases r with
    | nil => exact List.perm_singleton.mp h
    | cons y r => exact absurd h1 (by simp)
theorem cr_sortA {X : Cx} {B : Int} : CallR X (.builtin "sorted") (rSortA X.K B) := by
  intro pins s σ H vs us Q I r h
  rcases h with ⟨d, hd, h⟩ | ⟨a, xs, rfl, hs, h1, hx, q⟩
  · exact cr_sortT hd pins s σ H vs us Q I r h
  · obtain ⟨its, rv, hl, hz⟩ := I.list hs
    rw [Vals.ref1 r]
    obtain ⟨e1, e2⟩ := bkV_refs rv hx
    refine sorted_short hl.isList (by rw [← rv.length]; exact h1) fun out p1 => ?_
    · obtain ⟨ep, he'⟩ := PyProof.Rows.sortedAll_at s.heap its out
      have e9 : out.toList = its := perm_short p1 (by rw [← rv.length]; exact h1)
      refine ⟨.ref _, upd H (s.heap.objs.size + 1) (.lst xs), I.laid (t' := s.toks) (fun _ _ => PyProof.Rows.sortedAll_old) (Nat.le_succ _) ⟨hz, out.toList, ep, by rw [e9]; exact rv, he'⟩, rfl, q _ (I.hok.fresh (Nat.le_succ _))⟩
theorem walk_enumT {K : PySem.W.Frag} {a : Addr} {xs : List V} : Walk (Itet K a) xs.length (fun H => SqT K H a xs) (YPair (fun i => some (.int (i : Nat))) (fun i => xs[i]?)) := by
  refine ⟨fun i _ hi q => ⟨xs, xs[i], q, by simp [hi]⟩, fun _ q => ⟨xs, q, Nat.le_refl _⟩, fun i H v H' _ q y => ?_⟩
  obtain ⟨T, x, h1, h2, h3, h4⟩ := y
  exact ⟨T, .int (i : Nat), x, h1, h2, h3, rfl, h4 xs q⟩
end Ef
set_option maxHeartbeats 4000000
namespace Ef
open PySem PySem.Spec PyProof.Rows L2
/-! ### sorted(t) of a tuple of ints -/
section
variable {prog : Program} {w : World} {A : Around} {E : Value → Shared → Prop} {s : Shared}
theorem collect_tup {l : Addr} {vs : List Value} {Q : List Value → Shared → Prop} (hl : s.heap.IsTuple l vs.toArray) (hn : vs.length ≤ sizeLine)
    (h : Q vs { s with heap := (s.heap.push (seqObj "list" #[] 0)).update s.heap.objs.size (Obj.mapSeq (· ++ vs.toArray)) }) : wpAny (model prog w) A (collect (.ref l)) Q E s := by
  obtain ⟨o, ho, hc, n, hd⟩ := hl
  have h2 : (s.heap.push (seqObj "list" #[] 0)).get? l = some o := Heap.get?_push_of_some _ ho
  have h3 : (s.heap.push (seqObj "list" #[] 0)).get? s.heap.objs.size = some (seqObj "list" #[] 0) := Heap.get?_push_size _ rfl
  have h4 : ((#[] : Array Value) ++ vs.toArray).toList = vs := by simp
  have h5 : (#[] ++ vs.toArray).size ≤ sizeLine + 1 := by
    simp only [Array.size_append, List.size_toArray, List.length_nil]
    omega
  unfold collect
  refine wpAny_bind (wpAny_runValue (codeAny_builtin entry_proto_collect' (show wpAny _ _ (do again (.builtin "list.__iadd__" ⟨[← newList [], .ref l], []⟩)) _ _ s from ?_)))
  refine wpAny_bind (wpAny_newList (wpAny_pure ⟨Code.quiet_builtin _ (by decide +kernel), codeAny_builtin entry_list_iadd' (show wpAny _ _ (Builtin.List.listExtendWith (.ref s.heap.objs.size) (.ref l) (.ref s.heap.objs.size)) _ _ { s with heap := s.heap.push (seqObj "list" #[] 0) } from ?_)⟩))
  unfold Builtin.List.listExtendWith
  refine wpAny_bind (wpAny_typeOf (T := "tuple") ⟨o, h2, hc⟩ ?_)
  rw [if_pos (by rw [show (Value.type "tuple" == Value.type "tuple") = true from rfl]; simp)]
  refine wpAny_bind (listItems_at h2 hd (wpAny_bind (listItems_at (xs := #[]) (n := 0) h3 rfl ?_)))
  rw [if_neg (by simp)]
  refine wpAny_bind (listUpdate_at (xs := #[]) (n := 0) h3 rfl (wpAny_pure ?_) (Nat.zero_le _) h5)
  show wpAny (model prog w) A (do
      let o ← load s.heap.objs.size
      match o.data with
      | .seq ys _ => pure ys.toList
      | _ => unsupported "internal:collect") Q E { s with heap := (s.heap.push (seqObj "list" #[] 0)).update s.heap.objs.size (Obj.mapSeq (· ++ vs.toArray)) }
  refine wpAny_bind (wpAny_load (get?_update_seq h3 _) (show wpAny _ _ (pure ((#[] : Array Value) ++ vs.toArray).toList) Q E _ from ?_))
  rw [h4]
  exact wpAny_pure h
theorem sorted_tup {l : Addr} {vs : List Value} {ns : List Int} {Q : Value → Shared → Prop} (hl : s.heap.IsTuple l vs.toArray) (hI : IntsAre vs ns) (hn : vs.length < 64)
    (h : ∀ (out : Array Value) (ns' : List Int), IntsAre out.toList ns' → ns'.Perm ns → ns'.Pairwise (· ≤ ·) → Q (.ref (s.heap.objs.size + 1)) { s with heap := sortedAll s.heap vs out }) :
    wpAny (model prog w) A (call (.builtin "sorted") [.ref l]) Q E s := by
  refine Calls.call_function_entry kind_sorted plain_sorted entry_sorted (args_sorted1 (.ref l)) ?_
  unfold Builtin.«sorted»
  refine wpAny_bind (m := checkCount "sorted" 1 1 _) (wpAny_pure (wpAny_bind (collect_tup hl (by rw [sizeLine_eq]; omega) (wpAny_bind (wpAny_newList ?_ (by rw [sizeLine_eq]; omega))))))
  have z1 : ((s.heap.push (seqObj "list" #[] 0)).update s.heap.objs.size (Obj.mapSeq (· ++ vs.toArray))).objs.size = s.heap.objs.size + 1 := (Heap.size_update ..).trans (size_push' ..)
  have z2 := Heap.get?_push_size ((s.heap.push (seqObj "list" #[] 0)).update s.heap.objs.size (Obj.mapSeq (· ++ vs.toArray))) (o := seqObj "list" vs.toArray 0) rfl
  rw [z1] at z2
  show wpAny _ _ _ _ _ { s with heap := ((s.heap.push (seqObj "list" #[] 0)).update s.heap.objs.size (Obj.mapSeq (· ++ vs.toArray))).push (seqObj "list" vs.toArray 0) }
  rw [z1]
  refine wpAny_bind (wpAny_holding (wpAny_call_entry slot_list_sort ⟨_, z2, rfl⟩ entry_list_sort (list_sort_tree z2 hI hn fun out ns' a1 a2 a3 => ⟨_, rfl, wpAny_pure ⟨_, rfl, h out ns' a1 a2 a3⟩⟩) (args_list_sort _)))
end
def rSortTI (K : PySem.W.Frag) : List V → Hp → VK → Prop := fun vs H Q => ∃ (a : Addr) (ns : List Int), vs = [V.ref a] ∧ (SqL K H a (ns.map V.int) ∨ SqT K H a (ns.map V.int)) ∧ ns.length < 64 ∧
  ∀ (ns' : List Int) (p : Addr), ns'.Perm ns → ns'.Pairwise (· ≤ ·) → H p = none → Q (.ref p) (upd H p (.lst (ns'.map V.int)))
section
variable {X : Cx} (K : PySem.W.Frag)
theorem cr_sortTI (h : X.K = K := by rfl) : CallR X (.builtin "sorted") (rSortTI K) := by
  subst h
  intro pins s σ H vs us Q I r h
  obtain ⟨a, ns, rfl, hs | hs, h64, q⟩ := h
  · exact cr_sorted pins s σ H _ us Q I r ⟨a, ns, rfl, hs, h64, q⟩
  · obtain ⟨its, rv, hl, hz⟩ := I.tuple hs
    rw [Vals.ref1 r]
    have hi := rv.ints
    refine sorted_tup (show s.heap.IsTuple a its.toArray from hl) hi (by rw [hi.length]; exact h64) fun out ns' h1 h2 h3 => ?_
    obtain ⟨ep, he'⟩ := PyProof.Rows.sortedAll_at s.heap its out
    have hlen : (ns'.map V.int).length ≤ sizeLine := by
      rw [List.length_map, h2.length_eq]
      exact small64 h64
    exact ⟨.ref _, upd H (s.heap.objs.size + 1) (.lst (ns'.map V.int)), I.laid (t' := s.toks) (fun _ _ => PyProof.Rows.sortedAll_old) (Nat.le_succ _) ⟨hlen, out.toList, ep, vals_of_ints h1, he'⟩, rfl, q ns' _ h2 h3 (I.hok.fresh (Nat.le_succ _))⟩
end
end Ef
set_option maxHeartbeats 4000000
namespace Ef
open PySem PySem.Spec PyProof.Rows L2
open AutoSeq1 (wpAny_loadPart')
/-! ### list(reversed(range(..))) -/
section
variable {prog : Program} {w : World} {A : Around} {E : Value → Shared → Prop} {s : Shared} {I : Addr} {a c : Int} {n : Nat}
theorem hint_rit {x y z : Int} {Q : Value → Shared → Prop} (hi : IsRangeIter s.heap I x y z) (hb : 0 ≤ y ∧ y < 2 ^ 24)
    (h : ∀ u tk, s.toks ≤ tk → Q (.int y u) { s with toks := tk }) : wpAny (model prog w) A (call (.builtin "range_iterator.__length_hint__") [.ref I]) Q E s := by
  have hT : s.TypeIs (.ref I) "range_iterator" := ⟨_, hi, rfl⟩
  refine wpAny_call_entry F.slot_range_iterator_length_hint hT F.entry_range_iterator_length_hint ?_ (F.args_range_iterator_length_hint_1 _)
  obtain ⟨hp, g, d, tk, os⟩ := s
  wp_walk using wpAny_loadPart' hi
  exact ⟨_, rfl, h _ _ (Nat.le_succ _)⟩
theorem extend_rit {R : Result → Shared → Prop} (hh : A.handled = none) (hn : n < 2 ^ 24) (hit : IsRangeIter s.heap I (a + ((0 : Nat) : Int) * c) ((n : Int) - ((0 : Nat) : Int)) c) (S : Addr) (c₀ : Nat) (hSI : S ≠ I)
    (hS : s.heap.get? S = some { cls := .type "list", data := .seq #[] c₀ })
    (hR : ∀ h' tk acc' c', (∀ b o, b ≠ S → b ≠ I → s.heap.get? b = some o → h'.get? b = some o) → h'.get? S = some { cls := .type "list", dict := none, data := .seq acc' c', slots := #[] } →
      ItemsOf (fun i v => ∃ t, v = .int (a + i * c) t) acc' n → R (.ok (.ret .none)) { s with heap := h', toks := tk }) :
    wpAny (model prog w) A.in1 (Builtin.List.listExtendWith (.ref S) (.ref I) .none)
      (fun fin s' => match fin with | .done f => R (.ok f) s' | .again c' => c'.quiet = true ∧ codeAny (model prog w) A c' R s') (fun e s' => R (.error e) s') s := by
  have W := (Walks.range (prog := prog) (w := w) (A := A.in1) hh I a c n).toS
  have hSf : S ∉ [I] := fun hm => hSI (List.mem_singleton.mp hm)
  have hT : s.TypeIs (.ref I) "range_iterator" := ⟨_, hit, rfl⟩
  have z1 : Builtin.List.listSameRef (.ref S) (.ref I) = false := by simp [Builtin.List.listSameRef, hSI]
  unfold Builtin.List.listExtendWith
  refine wpAny_bind (wpAny_typeOf hT ?_)
  rw [if_neg (by rw [z1]; decide)]
  refine wpAny_bind (W.self 0 _ _ _ hit (wpAny_bind (wpAny_holding ?_)))
  unfold Builtin.List.listLengthHint
  refine wpAny_bind (wpAny_specialOf hT F.nolen_ra ?_)
  show wpAny _ A.in1 (specialOf (Value.ref I) (Str.ofString "__length_hint__") >>= _) _ _ _
  refine wpAny_bind (wpAny_specialOf hT F.hint_ra ?_)
  generalize hid : ("range_iterator.__length_hint__" : String) = id0
  wp_delta
  rw [show splitId id0 = some ("range_iterator", "__length_hint__") from by subst hid; decide +kernel]
  subst hid
  refine wpAny_bind (wpAny_isInstance (b := true) hT (by rw [isSubtype_type]; kernel_rfl) ?_)
  show wpAny _ A.in1 (call (.builtin "range_iterator.__length_hint__") [.ref I] >>= _) _ _ _
  have e0 : (n : Int) - ((0 : Nat) : Int) = (n : Int) := by omega
  refine wpAny_bind (hint_rit hit (by rw [e0]; omega) fun u tk htk => ?_)
  refine wpAny_bind (m := asInt? (.int _ u)) (wpAny_pure ?_)
  have z2 : Builtin.List.listTooLong (Int.toNat ((n : Int) - ((0 : Nat) : Int))) = false := by
    rw [e0]
    simp [Builtin.List.listTooLong, sizeLine]
    omega
  dsimp only
  rw [if_neg (by rw [z2]; decide)]
  refine wpAny_pure ?_
  rw [if_neg (by decide)]
  refine wpAny_pure ⟨plainId_quiet F.plain_extend_loop _, codeAny_extend_loopS W (by rw [sizeLine_eq]; omega) S hSf .none n 0 _ #[] c₀ rfl (Nat.zero_le _) hit hS (ItemsOf.nil _) fun s' acc' c' hm hS' hacc => ?_⟩
  rw [Moved.eq_with hm]
  refine hR s'.heap s'.toks acc' c' (fun b o hb hb2 e => hm.heap b o (fun hmem => ?_) e) hS' hacc
  rcases List.mem_cons.mp hmem with e' | hmem
  · exact hb e'
  · exact hb2 (List.mem_singleton.mp hmem)
theorem call_list_rit {Q : Value → Shared → Prop} (hh : A.handled = none) (hn : n < 2 ^ 24) (hit : IsRangeIter s.heap I (a + ((0 : Nat) : Int) * c) ((n : Int) - ((0 : Nat) : Int)) c)
    (hQ : ∀ h' tk acc' c', (∀ b o, b ≠ I → s.heap.get? b = some o → h'.get? b = some o) →
      h'.get? s.heap.objs.size = some { cls := .type "list", dict := none, data := .seq acc' c', slots := #[] } → ItemsOf (fun i v => ∃ t, v = .int (a + i * c) t) acc' n → Q (.ref s.heap.objs.size) { s with heap := h', toks := tk }) :
    wpAny (model prog w) A (call (.type "list") [.ref I]) Q E s := by
  have hIl : I < s.heap.objs.size := Heap.lt_size hit
  refine callType_codes (Q₁ := fun obj s₁ => obj = .ref s.heap.objs.size ∧ s₁ = { s with heap := s.heap.push { cls := .type "list", data := .seq #[] } }) F.called_list (F.typeCall_list_1 _) F.entry_list_init
    (code_list_new _ ⟨rfl, rfl⟩) fun obj s₁ h₁ => ?_
  obtain ⟨rfl, rfl⟩ := h₁
  have hS : (s.heap.push { cls := .type "list", data := .seq #[] }).get? s.heap.objs.size = some { cls := .type "list", data := .seq #[] } := Heap.get?_push_size _ rfl
  refine ⟨⟨_, hS, rfl⟩, F.args_list_init_2 _ _, ?_⟩
  show wpAny _ _ (do let old ← Builtin.List.listItems (.ref s.heap.objs.size); Builtin.List.listUpdate (.ref s.heap.objs.size) (fun _ => #[]); letGo old.toList.reverse; Builtin.List.listExtendWith (.ref s.heap.objs.size) (.ref I) .none) _ _ _
  refine wpAny_bind ?_
  unfold Builtin.List.listItems
  refine wpAny_bind (wpAny_seqItems hS rfl (wpAny_pure ?_))
  show wpAny _ _ (updateSeq s.heap.objs.size (fun _ => #[]) >>= fun _ => letGo (#[] : Array Value).toList.reverse >>= fun _ => Builtin.List.listExtendWith (.ref s.heap.objs.size) (.ref I) .none) _ _ _
  refine wpAny_bind (wpAny_updateSeq hS rfl ?_)
  have hS₂ := Heap.get?_update_self (Obj.mapSeq (fun _ => (#[] : Array Value))) hS rfl
  have oth : ∀ b o, b ≠ s.heap.objs.size → (s.heap.push { cls := .type "list", data := .seq #[] }).get? b = some o → ((s.heap.push { cls := .type "list", data := .seq #[] }).update s.heap.objs.size (Obj.mapSeq (fun _ => (#[] : Array Value)))).get? b = some o :=
    fun b o hb e => (Heap.get?_update_other _ _ (Ne.symm hb)).trans e
  refine wpAny_bind (wpAny_letGo ?_)
  refine extend_rit (A := A.in1) hh hn (oth I _ (Nat.ne_of_lt hIl) (Heap.get?_push_of_some _ hit)) s.heap.objs.size _ (Nat.ne_of_gt hIl) hS₂ fun h' tk acc' c' hk hS' hacc => ?_
  exact ⟨rfl, hQ h' tk acc' c' (fun b o hb e => hk b o (Nat.ne_of_lt (Heap.lt_size e)) hb (oth b o (Nat.ne_of_lt (Heap.lt_size e)) (Heap.get?_push_of_some _ e))) hS' hacc⟩
end
def tLstRev (te : L2.St → Hp → (Int → Int → Hp → Prop) → Prop) : TE := fun σ H Q => te σ H fun a b H1 => RgOk a b ∧ (b - a).toNat < 2 ^ 24 ∧ ∀ q, H1 q = none → Q (.ref q) (upd H1 q (.lst (rgV a b).reverse))
theorem rg_rev (a b : Int) : (rgV a b).reverse = (List.range (b - a).toNat).map fun i => V.int (a + (((b - a).toNat : Nat) : Int) - 1 + (i : Nat) * (-1)) := by
  unfold rgV
  refine List.ext_getElem (by simp) fun i h1 h2 => ?_
  rw [List.getElem_reverse, List.getElem_map, List.getElem_map, List.getElem_range, List.getElem_range, List.length_map, List.length_range]
  rw [List.length_map, List.length_range] at h2
  congr 1
  omega
theorem vals_of {f : Nat → Int} {acc : Array Value} {n : Nat} (h : ItemsOf (fun i v => ∃ t, v = .int (f i) t) acc n) : Vals ((List.range n).map fun i => V.int (f i)) acc.toList := by
  have e : acc.toList.length = n := by rw [Array.length_toList]; exact h.1
  rw [← e]
  refine vals_of_get acc.toList _ fun j u hj => ?_
  obtain ⟨t, rfl⟩ := h.2 j u (by rw [← hj, Array.getElem?_toList])
  exact ⟨t, rfl⟩
section
variable {X : Cx} {e : Expr} {te : L2.St → Hp → (Int → Int → Hp → Prop) → Prop}
theorem pe_listRev {p pos p2 pos2 : Pos} (hc : X.calm = true) (hg : Gl X "list") (hm : X.mg "list" = none) (hg2 : Gl X "reversed") (hm2 : X.mg "reversed" = none) (he : PRg X e te)
    (na : starEach [.Call (.Name "reversed" p2) [e] [] pos2] X.env = (false, eval (.Call (.Name "reversed" p2) [e] [] pos2) X.env) :: starEach [] X.env := by rfl) (nb : starEach [e] X.env = (false, eval e X.env) :: starEach [] X.env := by rfl) :
    PE X (.Call (.Name "list" p) [.Call (.Name "reversed" p2) [e] [] pos2] [] pos) (tLstRev te) := by
  refine ⟨fun pins s σ H Q I h => ?_⟩
  refine Call_ (ld_blt I hg hm boot_list (PyProof.Rows.callWith_type1 (args_cons (Call_ (ld_blt I hg2 hm2 PyProof.Rows.boot_reversed (PyProof.Rows.callWith_type1 (args_cons (thn (he pins s σ H _ I h) fun x s1 ⟨r, a, b, t, u, v, H1, ex, hr, I1, ok, hb, q⟩ => args_nil ?_) nb) nb rfl))) na) na))
  subst ex
  obtain ⟨b1, b2, b3, b4, b5⟩ := ok
  have hn : Builtin.Range.rangeSize a b 1 = (((b - a).toNat : Nat) : Int) := rangeSize_nat a b
  refine call_reversed_range hr (smallRev_one b1 b2 b3 b4) (args_nil ?_)
  have hit : IsRangeIter (s1.heap.push (rngRevObj a b 1)) s1.heap.objs.size (a + (((b - a).toNat : Nat) : Int) - 1 + ((0 : Nat) : Int) * (-1)) ((((b - a).toNat : Nat) : Int) - ((0 : Nat) : Int)) (-1) := by
    have e1 : a + (((b - a).toNat : Nat) : Int) - 1 + ((0 : Nat) : Int) * (-1) = a + (Builtin.Range.rangeSize a b 1 - 1) * 1 := by rw [hn]; omega
    have e2 : (((b - a).toNat : Nat) : Int) - ((0 : Nat) : Int) = Builtin.Range.rangeSize a b 1 := by rw [hn]; omega
    rw [e1, e2]
    exact Heap.get?_push_size _ rfl
  have hsz : (s1.heap.push (rngRevObj a b 1)).objs.size = s1.heap.objs.size + 1 := size_push' ..
  refine call_list_rit (I1.ok.hd hc) hb hit fun h' tk acc c' hk e' hi => ?_
  have kp : ∀ x o, s1.heap.get? x = some o → h'.get? x = some o := fun x o z => hk x o (Nat.ne_of_lt (Heap.lt_size z)) (Heap.get?_push_of_some _ z)
  have ei := rg_rev a b
  have hlen : ((rgV a b).reverse).length ≤ sizeLine := by
    rw [List.length_reverse, rgV_length, sizeLine_eq]
    omega
  show EP X pins σ Q (.ref (s1.heap.push (rngRevObj a b 1)).objs.size) _
  rw [hsz] at e' ⊢
  refine ⟨.ref (s1.heap.objs.size + 1), upd H1 (s1.heap.objs.size + 1) (.lst (rgV a b).reverse), I1.laid (t' := tk) kp (Nat.le_succ _) ⟨hlen, acc.toList, c', ?_, ?_⟩, rfl, q _ (I1.hok.fresh (Nat.le_succ _))⟩
  · rw [ei]
    exact vals_of hi
  · rw [Array.toArray_toList]
    exact e'
end
end Ef
set_option maxHeartbeats 4000000
namespace Ef
open PySem PySem.Spec PyProof.Rows L2
/-! ### list(range(i, j, c)) -/
def rgC (i c : Int) (n : Nat) : List V := (List.range n).map fun k => V.int (i + (k : Nat) * c)
def tLstRgC (ta : TA) : TE := fun σ H Q => ta σ H fun vs H1 => ∃ (i j c : Int) (n : Nat), vs = [.int i, .int j, .int c] ∧ RgC i j c n ∧ n ≤ 2 ^ 24 ∧ ∀ q, H1 q = none → Q (.ref q) (upd H1 q (.lst (rgC i c n)))
section
variable {X : Cx}
theorem pe_listRgC {a b c : Expr} {ta : TA} {p pos p2 pos2 : Pos} (hc : X.calm = true) (hg : Gl X "list") (hm : X.mg "list" = none) (hg2 : Gl X "range") (hm2 : X.mg "range" = none) (ha : PA X [a, b, c] ta)
    (n1 : starEach [a, b, c] X.env = (false, eval a X.env) :: starEach [b, c] X.env := by rfl) (n2 : (backTo pos2 (starEach [b, c] X.env)).any (·.1) = false := by rfl)
    (n3 : starEach [.Call (.Name "range" p2) [a, b, c] [] pos2] X.env = (false, eval (.Call (.Name "range" p2) [a, b, c] [] pos2) X.env) :: starEach [] X.env := by rfl) :
    PE X (.Call (.Name "list" p) [.Call (.Name "range" p2) [a, b, c] [] pos2] [] pos) (tLstRgC ta) := by
  refine ⟨fun pins s σ H Q I h => ?_⟩
  refine Call_ (ld_blt I hg hm boot_list (PyProof.Rows.callWith_type1 (args_cons (Call_ (ld_blt I hg2 hm2 boot_range ?_)) n3) n3))
  refine PyProof.Rows.callWith_type1 ?_ n1 n2
  refine thn (ha.run pos2 pins s σ H _ I h) ?_
  rintro us s1 ⟨vs, H1, I1, r1, q1⟩
  obtain ⟨i, j, k, n, ev, ⟨c0, c1, c2, c3⟩, hn, q⟩ := q1
  subst ev
  match us, r1 with
  | [_, _, _], .cons ⟨t1, e1⟩ (.cons ⟨t2, e2⟩ (.cons ⟨t3, e3⟩ .nil)) =>
    subst e1 e2 e3
    refine call_range_3 c0 (args_nil ?_) (.inl (PyProof.noPylong_small c1))
    have I2 : Inv X pins σ H1 { s1 with heap := s1.heap.push { cls := .type "range", data := .fields #[.int i t1, .int j t2, .int k t3] } } := I1.kept (t' := s1.toks) fun _ _ z => Heap.get?_push_of_some _ z
    refine call_list_range (n := n) (I2.ok.hd hc) (IsRange.new ..) c2 c3 hn fun h' tk acc c' hk e' hi => ?_
    refine ⟨.ref _, upd H1 _ (.lst (rgC i k n)), I2.laid hk (Nat.le_refl _) (show ObjOk X.prog X.w _ _ _ (.lst (rgC i k n)) from ⟨?_, acc.toList, c', vals_of hi, ?_⟩), rfl, q _ (I2.hok.fresh (Nat.le_refl _))⟩
    · unfold rgC
      rw [List.length_map, List.length_range, sizeLine_eq]
      omega
    · rw [Array.toArray_toList]
      exact e'
end
/-! ### list(reversed(xs)), xs a list -/
section
variable {prog : Program} {w : World} {A : Around} {E : Value → Shared → Prop} {s : Shared} {I l : Addr} {xs : Array Value}
theorem extend_rev {R : Result → Shared → Prop} (hh : A.handled = none) (hn : xs.size ≤ sizeLine) (hit : s.heap.IsRevIter I l ((xs.size : Int) - 1)) (hl : s.heap.IsList l xs) (hne : l ≠ I) (S : Addr) (c₀ : Nat) (hSI : S ≠ I) (hSl : S ≠ l)
    (hS : s.heap.get? S = some { cls := .type "list", data := .seq #[] c₀ })
    (hR : ∀ h' tk acc' c', (∀ b o, b ≠ S → b ≠ I → s.heap.get? b = some o → h'.get? b = some o) → h'.get? S = some { cls := .type "list", dict := none, data := .seq acc' c', slots := #[] } →
      ItemsOf (fun i v => xs[xs.size - 1 - i]? = some v) acc' xs.size → R (.ok (.ret .none)) { s with heap := h', toks := tk }) :
    wpAny (model prog w) A.in1 (Builtin.List.listExtendWith (.ref S) (.ref I) .none)
      (fun fin s' => match fin with | .done f => R (.ok f) s' | .again c' => c'.quiet = true ∧ codeAny (model prog w) A c' R s') (fun e s' => R (.error e) s') s := by
  have Wk := (Walks.listRev (prog := prog) (w := w) (A := A.in1) hh I l hne xs).toS
  have hSf : S ∉ [I, l] := by
    intro hm
    rcases List.mem_cons.mp hm with z | z
    · exact hSI z
    · exact hSl (List.mem_singleton.mp z)
  have hT : s.TypeIs (.ref I) "list_reverseiterator" := Heap.IsRevIter.typeIs hit
  have z1 : Builtin.List.listSameRef (.ref S) (.ref I) = false := by simp [Builtin.List.listSameRef, hSI]
  unfold Builtin.List.listExtendWith
  refine wpAny_bind (wpAny_typeOf hT ?_)
  rw [if_neg (by rw [z1]; decide)]
  refine wpAny_bind (wpAny_pyIter_revIter hit (wpAny_bind (wpAny_holding ?_)))
  unfold Builtin.List.listLengthHint
  refine wpAny_bind (wpAny_specialOf hT RT.nolen_lri ?_)
  show wpAny _ A.in1 (specialOf (Value.ref I) (Str.ofString "__length_hint__") >>= _) _ _ _
  refine wpAny_bind (wpAny_specialOf hT RT.hint_lri ?_)
  generalize hid : ("list_reverseiterator.__length_hint__" : String) = id1
  wp_delta
  rw [show splitId id1 = some ("list_reverseiterator", "__length_hint__") from by subst hid; decide +kernel]
  subst hid
  refine wpAny_bind (wpAny_isInstance (b := true) hT (by rw [isSubtype_type]; kernel_rfl) ?_)
  refine wpAny_pure ?_
  rw [if_neg (by decide)]
  have z0 : ((xs.size : Nat) : Int) - 1 - ((0 : Nat) : Int) = (xs.size : Int) - 1 := by omega
  refine wpAny_pure ⟨plainId_quiet F.plain_extend_loop _, codeAny_extend_loopS Wk hn S hSf .none xs.size 0 _ #[] c₀ rfl (Nat.zero_le _) ⟨Nat.zero_le _, by rw [z0]; exact hit, hl⟩ hS (ItemsOf.nil _) fun s' acc' c' hm hS' hacc => ?_⟩
  rw [Moved.eq_with hm]
  refine hR s'.heap s'.toks acc' c' (fun b o hb hb2 e => hm.heap b o (fun hmem => ?_) e) hS' hacc
  rcases List.mem_cons.mp hmem with z | hmem
  · exact hb z
  · exact hb2 (List.mem_singleton.mp hmem)
theorem call_list_rev {Q : Value → Shared → Prop} (hh : A.handled = none) (hn : xs.size ≤ sizeLine) (hit : s.heap.IsRevIter I l ((xs.size : Int) - 1)) (hl : s.heap.IsList l xs) (hne : l ≠ I)
    (hQ : ∀ h' tk acc' c', (∀ b o, b ≠ I → s.heap.get? b = some o → h'.get? b = some o) →
      h'.get? s.heap.objs.size = some { cls := .type "list", dict := none, data := .seq acc' c', slots := #[] } → ItemsOf (fun i v => xs[xs.size - 1 - i]? = some v) acc' xs.size → Q (.ref s.heap.objs.size) { s with heap := h', toks := tk }) :
    wpAny (model prog w) A (call (.type "list") [.ref I]) Q E s := by
  obtain ⟨oi, hoi, _⟩ := id hit
  obtain ⟨ol, hol, _⟩ := id hl
  have hIl := Heap.lt_size hoi
  have hll := Heap.lt_size hol
  refine callType_codes (Q₁ := fun obj s₁ => obj = .ref s.heap.objs.size ∧ s₁ = { s with heap := s.heap.push { cls := .type "list", data := .seq #[] } }) F.called_list (F.typeCall_list_1 _) F.entry_list_init
    (code_list_new _ ⟨rfl, rfl⟩) fun obj s₁ h₁ => ?_
  obtain ⟨rfl, rfl⟩ := h₁
  have hS : (s.heap.push { cls := .type "list", data := .seq #[] }).get? s.heap.objs.size = some { cls := .type "list", data := .seq #[] } := Heap.get?_push_size _ rfl
  refine ⟨⟨_, hS, rfl⟩, F.args_list_init_2 _ _, ?_⟩
  show wpAny _ _ (do let old ← Builtin.List.listItems (.ref s.heap.objs.size); Builtin.List.listUpdate (.ref s.heap.objs.size) (fun _ => #[]); letGo old.toList.reverse; Builtin.List.listExtendWith (.ref s.heap.objs.size) (.ref I) .none) _ _ _
  refine wpAny_bind ?_
  unfold Builtin.List.listItems
  refine wpAny_bind (wpAny_seqItems hS rfl (wpAny_pure ?_))
  show wpAny _ _ (updateSeq s.heap.objs.size (fun _ => #[]) >>= fun _ => letGo (#[] : Array Value).toList.reverse >>= fun _ => Builtin.List.listExtendWith (.ref s.heap.objs.size) (.ref I) .none) _ _ _
  refine wpAny_bind (wpAny_updateSeq hS rfl ?_)
  have hS₂ := Heap.get?_update_self (Obj.mapSeq (fun _ => (#[] : Array Value))) hS rfl
  have oth : ∀ b o, b ≠ s.heap.objs.size → (s.heap.push { cls := .type "list", data := .seq #[] }).get? b = some o → ((s.heap.push { cls := .type "list", data := .seq #[] }).update s.heap.objs.size (Obj.mapSeq (fun _ => (#[] : Array Value)))).get? b = some o :=
    fun b o hb e => (Heap.get?_update_other _ _ (Ne.symm hb)).trans e
  refine wpAny_bind (wpAny_letGo ?_)
  have kp : ∀ b o, s.heap.get? b = some o → ((s.heap.push { cls := .type "list", data := .seq #[] }).update s.heap.objs.size (Obj.mapSeq (fun _ => (#[] : Array Value)))).get? b = some o := fun b o e => oth b o (Nat.ne_of_lt (Heap.lt_size e)) (Heap.get?_push_of_some _ e)
  refine extend_rev (A := A.in1) hh hn (hit.at fun o e => kp _ o e) (hl.at fun o e => kp _ o e) hne s.heap.objs.size _ (Nat.ne_of_gt hIl) (Nat.ne_of_gt hll) hS₂ fun h' tk acc' c' hk hS' hacc => ?_
  exact ⟨rfl, hQ h' tk acc' c' (fun b o hb e => hk b o (Nat.ne_of_lt (Heap.lt_size e)) hb (kp b o e)) hS' hacc⟩
end
def tLstRevL (K : PySem.W.Frag) (te : TE) : TE := fun σ H Q => te σ H fun v H1 => ∃ (a : Addr) (xs : List V), v = .ref a ∧ SqL K H1 a xs ∧ ∀ q, H1 q = none → Q (.ref q) (upd H1 q (.lst xs.reverse))
section
variable {X : Cx}
theorem pe_listRevL {e : Expr} {te : TE} {p p2 pos pos2 : Pos} (hc : X.calm = true) (hg : Gl X "list") (hm : X.mg "list" = none) (hg2 : Gl X "reversed") (hm2 : X.mg "reversed" = none) (he : PE X e te)
    (hs : starEach [e] X.env = (false, eval e X.env) :: starEach [] X.env := by rfl)
    (hs2 : starEach [.Call (.Name "reversed" p2) [e] [] pos2] X.env = (false, eval (.Call (.Name "reversed" p2) [e] [] pos2) X.env) :: starEach [] X.env := by rfl) :
    PE X (.Call (.Name "list" p) [.Call (.Name "reversed" p2) [e] [] pos2] [] pos) (tLstRevL X.K te) := by
  refine ⟨fun pins s σ H Q I h => ?_⟩
  refine Call_ (ld_blt I hg hm boot_list (PyProof.Rows.callWith_type1 (args_cons (Call_ (ld_blt I hg2 hm2 PyProof.Rows.boot_reversed (PyProof.Rows.callWith_type1 (args_cons (thn (he.run pins s σ H _ I h) fun u s1 ⟨v, H1, I1, r1, q1⟩ => args_nil ?_) hs) hs rfl))) hs2) hs2 rfl))
  obtain ⟨a, xs, ev, hq, q⟩ := q1
  subst ev
  obtain rfl : u = Value.ref a := r1
  obtain ⟨its, rv, pl, hz⟩ := I1.list hq
  refine call_reversed_list pl.isList (args_nil ?_)
  have I2 : Inv X pins σ H1 { s1 with heap := s1.heap.push (revObj a ((its.toArray.size : Int) - 1)) } := I1.kept (t' := s1.toks) fun b o z => Heap.get?_push_of_some _ z
  obtain ⟨f0, f1, f2, f3, f4, f5⟩ := I1.fpOk (H' := H1) (b := s1.heap.objs.size) (Nat.le_refl _) (I1.hok.fresh (Nat.le_refl _))
  have hl := pl.isList
  obtain ⟨ol, hol, _⟩ := id hl
  have hsz : (s1.heap.push (revObj a ((its.toArray.size : Int) - 1))).objs.size = s1.heap.objs.size + 1 := size_push' ..
  refine call_list_rev (s := { s1 with heap := s1.heap.push (revObj a ((its.toArray.size : Int) - 1)) }) (I1.ok.hd hc) (by rw [List.size_toArray, ← rv.length]; exact hz) ⟨_, Heap.get?_push_size _ rfl, rfl, rfl⟩ (hl.push _) (Nat.ne_of_lt (Heap.lt_size hol)) fun h' tk acc c' hk e' hi => ?_
  have I3 : Inv X pins σ H1 { s1 with heap := h', toks := tk } := I2.turned (t' := tk) (fun b o hb z => hk b o hb z) f0 f1 f3 f4 f5
  have kp : ∀ b o, s1.heap.get? b = some o → h'.get? b = some o := fun b o z => hk b o (Nat.ne_of_lt (Heap.lt_size z)) (Heap.get?_push_of_some _ z)
  show EP X pins σ Q (.ref (s1.heap.push (revObj a ((its.toArray.size : Int) - 1))).objs.size) _
  rw [hsz]
  have e2 : h'.get? (s1.heap.objs.size + 1) = some { cls := .type "list", dict := none, data := .seq acc c', slots := #[] } := by
    rw [← hsz]
    exact e'
  refine ⟨.ref (s1.heap.objs.size + 1), upd H1 (s1.heap.objs.size + 1) (.lst xs.reverse), I1.laid (t' := tk) kp (Nat.le_succ _) ⟨by rw [List.length_reverse]; exact hz, acc.toList, c', RT.vals_rev rv hi, ?_⟩, rfl, q _ (I1.hok.fresh (Nat.le_succ _))⟩
  rw [Array.toArray_toList]
  exact e2
end
end Ef
namespace Ef
open PySem PySem.Spec PyProof.Rows L2
/-! ### repr of a list of one value of any sort -/
section
variable {X : Cx} {es : List Expr} {t : TA} {pos : Pos}
def tLstN (t : TA) : TE := fun σ H Q => t σ H fun xs H1 => xs.length ≤ sizeLine ∧ ∀ p, H1 p = none → p ≠ sysModules → Q (.ref p) (upd H1 p (.lst xs))
theorem far_new {pins : List (Addr × Obj)} {σ : L2.St} {H : Hp} {s : Shared} (I : Inv X pins σ H s) : s.heap.objs.size ≠ sysModules := by
  obtain ⟨mc, h1, _⟩ := I.nolimit
  have h2 : cStatics < s.heap.objs.size := h1.lt
  have h3 : (2 : Nat) < s.heap.objs.size := h2
  show ¬ s.heap.objs.size = 1
  omega
theorem pe_lstN (h : PA X es t) : PE X (.List es pos) (tLstN t) := by
  refine ⟨fun pins s σ H Q I hq => ?_⟩
  refine wpAny_List_spliced (thn (h.run pos pins s σ H _ I hq) fun us s1 ⟨xs, H1, I1, r, z, q⟩ => ⟨by rw [← r.length]; exact z, ?_⟩)
  have hf : H1 s1.heap.objs.size = none := I1.hok.fresh (Nat.le_refl _)
  refine ⟨.ref s1.heap.objs.size, upd H1 s1.heap.objs.size (.lst xs), I1.laid (t' := s1.toks) (fun b u e => Heap.get?_push_of_some _ e) (Nat.le_refl _) ?_, rfl, q _ hf (far_new I1)⟩
  exact ⟨z, us, 0, r, Heap.get?_push_size _ rfl⟩
end
/-- data that is not deep, or an empty dict -/
def ItemS (K : PySem.W.Frag) (H : Hp) (v : V) (d : PyData) : Prop := (Dp K H v d ∧ Sh 50 70000 d) ∨ (d = .dict [] ∧ ∃ p, v = .ref p ∧ H p = some (.dK []))
theorem ItemS.mono {K : PySem.W.Frag} {H H' : Hp} {v : V} {d : PyData} (s : Same H H') (h : ItemS K H v d) : ItemS K H' v d := by
  rcases h with ⟨h, h2⟩ | ⟨e, p, e2, h⟩
  · exact .inl ⟨Dp.mono s h, h2⟩
  · exact .inr ⟨e, p, e2, s _ _ h⟩
def rReprL (K : PySem.W.Frag) : List V → Hp → VK → Prop := fun xs H Q => ∃ l v d, xs = [.ref l] ∧ H l = some (.lst [v]) ∧ l ≠ sysModules ∧ ItemS K H v d ∧ Q (.str (PyData.list [d]).shown) H
section
variable {X : Cx} (K : PySem.W.Frag)
theorem call_reprL (gd : X.A.guards = some []) (hu : X.A.units + 66 < cLine) (h : X.K = K := by rfl) : CallR X (.builtin "repr") (rReprL K) := by
  subst h
  intro pins s σ H xs us Q I r h
  obtain ⟨l, v, d, rfl, hl, hne, hI, q⟩ := h
  rcases hI with ⟨hD, hS⟩ | ⟨rfl, p, rfl, hp⟩
  · refine call_reprD gd hu pins s σ H _ us Q I r ⟨.ref l, .list [d], rfl, .lst (SqL.of hl) (.cons hD .nil), ?_, q⟩
    exact (Sh.lst (ShAll.cons hS (ShAll.nil.mono (Nat.zero_le 50) (Nat.zero_le 0)))).mono (by decide) (by decide)
  · obtain ⟨u, rfl, ru⟩ := vals1 r
    obtain rfl : u = Value.ref l := ru
    obtain ⟨_, hsys, vs, kv, o, es, ep, ho, hx, hd, hk, hpr, hn⟩ := dk_of I.hok hp
    have e1 : vs = [] := by
      cases kv
      rfl
    subst e1
    have e2 : es.toList = [] := by
      generalize es.toList = l at hpr ⊢
      cases hpr
      rfl
    have rd : Reads s.heap (.ref p) (.dict []) (p :: [] ++ []) := by
      refine .dict ho hx.1 hd ?_ ?_
      · rw [e2]
        exact .nil
      · rw [e2]
        exact .nil
    obtain ⟨its, rv, ⟨ol, nl, g1, g2, g3, g4⟩, hz⟩ := I.list (SqL.of hl)
    obtain ⟨u, rfl, ru⟩ := vals1 rv
    obtain rfl : u = Value.ref p := ru
    have dep : PyData.depth (.list [.dict []]) ≤ 3 := by decide
    have rdl : Reads s.heap (.ref l) (.list [.dict []]) (l :: ((p :: [] ++ []) ++ [])) := .list g1 g2 (by first | exact g3 | exact g4) (.cons rd .nil)
    refine repr_of_reads' rdl rfl (fun _ hm => ?_) gd (by omega) (fun _ _ e => e) (fun h' u tk hk => ?_) (by decide +kernel)
    · have e3 : sysModules = l ∨ sysModules = p := by simpa using hm
      rcases e3 with e3 | e3
      · exact hne e3.symm
      · rw [← e3] at hsys
        exact absurd hsys (by simp)
    · exact ⟨.str _, H, I.kept hk, ⟨u, rfl⟩, q⟩
end
section
variable {X : Cx} (K : PySem.W.Frag)
theorem cr_allK (hc : X.calm = true := by rfl) (h : X.K = K := by rfl) : CallR X (.builtin "all") (rAll K) := h ▸ cr_all hc
end
end Ef
namespace Ef
open PySem PySem.Spec PyProof.Rows L2
/-! ### data: equal to itself, shown -/
theorem neD_same {K : PySem.W.Frag} {H : Hp} {x y : V} {d : PyData} {Q : VK} (hx : Dp K H x d) (hy : Dp K H y d) (s : Sh 60 80000 d) (q : Q (.bl false) H) : rNeD K x y H Q := by
  refine ⟨d, d, hx, hy, s.shaped (by decide), s.shaped (by decide), ?_⟩
  rw [SeqAt.eqv_refl d s.can]
  exact q
theorem eqD_same {K : PySem.W.Frag} {H : Hp} {x y : V} {d : PyData} {Q : VK} (hx : Dp K H x d) (hy : Dp K H y d) (s : Sh 60 80000 d) (q : Q (.bl true) H) : rEqD K x y H Q := by
  refine ⟨d, d, hx, hy, s.shaped (by decide), s.shaped (by decide), ?_⟩
  rw [SeqAt.eqv_refl d s.can]
  exact q
/-- numbers as data -/
def natD (ms : List Nat) : List PyData := ms.map fun (m : Nat) => PyData.int (m : Int)
theorem sh_nat {ms : List Nat} {b : Nat} (h0 : 0 < b) (h6 : b ≤ 600) (h : ∀ x ∈ ms, x < 2 ^ b) : ShAll 0 ((b + 1) * ms.length) (natD ms) := by
  have e : natD ms = (ms.map fun (m : Nat) => (m : Int)).map PyData.int := by
    unfold natD
    rw [List.map_map]
    rfl
  rw [e]
  have h1 := ShAll.ints h0 h6 (ns := ms.map fun (m : Nat) => (m : Int)) fun x hx => by
    obtain ⟨m, hm, rfl⟩ := List.mem_map.mp hx
    exact h m hm
  rw [List.length_map] at h1
  exact h1
theorem sh_list {ms : List Nat} (hl : ms.length ≤ 60) (h : ∀ x ∈ ms, x < 60) : Sh 1 500 (.tuple (natD ms)) := by
  have h1 := sh_nat (b := 6) (by decide) (by decide) (ms := ms) fun x hx => by
    have := h x hx
    omega
  exact Sh.tup (h1.mono (by decide) (by omega))
end Ef
set_option maxHeartbeats 4000000
namespace Ef
open PySem PySem.Spec PyProof.Rows L2
/-! ### x in l, l.index(x), l.count(x) where items are data -/
def rCntD (K : PySem.W.Frag) : V → List V → Hp → VK → Prop := fun x xs H Q => ∃ (a : Addr) (y : V) (d : PyData) (ds : List PyData), x = V.ref a ∧ xs = [y] ∧ Dp K H (V.ref a) (.list ds) ∧ Dp K H y d ∧
  SeqAt.shaped (.list ds) = true ∧ SeqAt.shaped d = true ∧ Q (.int (ds.countP (fun z => PyData.eqv z d) : Nat)) H
theorem mt_countD {X : Cx} (hu : X.A.units + 65 < cLine) : MtR X "list.count" (rCntD X.K) := by
  intro pins s σ H x xs v us Q I rx rxs h
  obtain ⟨a, y, d, ds, rfl, rfl, hl, hy, sl, sd, q⟩ := h
  cases rx
  cases rxs with
  | cons ry rt =>
    rename_i uy ut
    cases rt
    obtain ⟨bs, r1⟩ := Dp.reads I d y uy hy ry
    have hxs : PyData.canLayAll0 ds = true := SeqAt.canLay_of_shaped sl
    have hroom : X.A.units + 1 + min (PyData.depthAll ds) d.depth < cLine := room_in_shaped sd hu
    cases hl with
    | lst hs ha =>
      obtain ⟨its, rv, ⟨⟨cls, dd, data, sls⟩, n, ho, hc, hdn, hdt⟩, hlen⟩ := I.list hs
      simp only at hc hdt
      subst hc hdt
      obtain ⟨as, h4⟩ := Dp.readsAll I ds _ its ha rv
      have hmap : its.map (SeqAt.readOf s.heap) = ds := SeqAt.readsAll_map ds its as hxs h4
      refine call_meets PySem.F.slot_list_count ⟨_, ho, rfl⟩ PySem.F.entry_list_count (PySem.F.args_list_count_2 _ _)
        (SeqAt.list_countAt a its.toArray n dd sls uy (fun u => PyData.eqv (SeqAt.readOf s.heap u) d)) ⟨ho, SeqAt.items_eqAt (vs := its.toArray) (show ReadsAll s.heap its.toArray.toList ds as from h4) r1 hxs (SeqAt.canLay_of_shaped sd) hroom, ?_⟩
      refine ⟨.int (ds.countP (fun z => PyData.eqv z d) : Nat), H, I.tok _, ⟨s.toks, ?_⟩, q⟩
      show Value.int ((its.toArray.toList.countP (fun u => PyData.eqv (SeqAt.readOf s.heap u) d) : Nat) : Int) s.toks = _
      rw [← hmap, List.countP_map]
      rfl
theorem op_inDK {X : Cx} (K : PySem.W.Frag) (hu : X.A.units + 65 < cLine) (h : X.K = K := by rfl) : OpR X (compareOp .In) (rInD K) := h ▸ op_inD hu
theorem op_notInDK {X : Cx} (K : PySem.W.Frag) (hu : X.A.units + 65 < cLine) (h : X.K = K := by rfl) : OpR X (compareOp .NotIn) (rNotInD K) := h ▸ op_notInD hu
theorem mt_indexDK {X : Cx} (K : PySem.W.Frag) (hu : X.A.units + 65 < cLine) (h : X.K = K := by rfl) : MtR X "list.index" (rIndexD K) := h ▸ mt_indexD hu
theorem mt_countDK {X : Cx} (K : PySem.W.Frag) (hu : X.A.units + 65 < cLine) (h : X.K = K := by rfl) : MtR X "list.count" (rCntD K) := h ▸ mt_countD hu
/-- two lists of numbers, as data -/
theorem eqv_nats : ∀ (a b : List Nat), PyData.eqvAll (natD a) (natD b) = decide (a = b)
  | [], [] => by simp [natD, PyData.eqvAll]
  | [], b :: s => by simp [natD, PyData.eqvAll]
  | a :: r, [] => by simp [natD, PyData.eqvAll]
  | a :: r, b :: s => by
    have ih := eqv_nats r s
    have e : PyData.eqvAll (natD (a :: r)) (natD (b :: s)) = (((a : Int) == (b : Int)) && PyData.eqvAll (natD r) (natD s)) := by
      show PyData.eqvAll (PyData.int (a : Int) :: natD r) (PyData.int (b : Int) :: natD s) = _
      simp only [PyData.eqvAll, PyData.eqv]
    rw [e, ih]
    by_cases h1 : a = b
    · subst h1
      by_cases h2 : r = s
      · subst h2
        simp
      · simp [h2]
    · have h3 : ((a : Int) == (b : Int)) = false := beq_eq_false_iff_ne.mpr fun z => h1 (by omega)
      rw [h3]
      simp [h1]
theorem eqv_natT (a b : List Nat) : PyData.eqv (.tuple (natD a)) (.tuple (natD b)) = decide (a = b) := by
  simp only [PyData.eqv]
  exact eqv_nats a b
end Ef
set_option maxHeartbeats 4000000
namespace Ef
open PySem PySem.Spec PyProof.Rows L2
open PySem.W (dataLe AllAlike Sortable EachIs sorted_data sortLe_total TotalLe dataLt dataLt_tuple dataLt_ints)
/-! ### sorted of a list of data, any number of them -/
abbrev dLe : V × PyData → V × PyData → Bool := dataLe false (fun b : V × PyData => b.2)
def rSortD (K : PySem.W.Frag) : List V → Hp → VK → Prop := fun vs H Q => ∃ (a : Addr) (bs : List (V × PyData)), vs = [V.ref a] ∧ SqL K H a (bs.map (·.1)) ∧ (∀ b ∈ bs, Dp K H b.1 b.2) ∧ AllAlike (bs.map (·.2)) ∧ Sortable (bs.map (·.2)) ∧ (∀ b ∈ bs, b.2.depth ≤ 20) ∧
  ∀ p : Addr, H p = none → Q (.ref p) (upd H p (.lst ((bs.mergeSort dLe).map (·.1))))
theorem each_vals : ∀ {bs : List (V × PyData)} {us : List Value}, Vals (bs.map (·.1)) us → EachIs (fun u (b : V × PyData) => RelV b.1 u) us bs
  | [], _, .nil => .nil
  | _ :: _, _, .cons r t => .cons r (each_vals t)
theorem vals_each : ∀ {bs : List (V × PyData)} {us : List Value}, EachIs (fun u (b : V × PyData) => RelV b.1 u) us bs → Vals (bs.map (·.1)) us
  | [], _, .nil => .nil
  | _ :: _, _, .cons r t => .cons r (vals_each t)
section
variable {X : Cx} {K : PySem.W.Frag}
theorem each_reads {pins : List (Addr × Obj)} {σ : L2.St} {H : Hp} {s : Shared} (I : Inv X pins σ H s) : ∀ {bs : List (V × PyData)} {us : List Value}, (∀ b ∈ bs, Dp X.K H b.1 b.2) → EachIs (fun u (b : V × PyData) => RelV b.1 u) us bs → EachIs (fun u (b : V × PyData) => ∃ as, Reads s.heap u b.2 as) us bs
  | [], _, _, .nil => .nil
  | b :: _, _, h, .cons r t => .cons (Dp.reads I b.2 b.1 _ (h b List.mem_cons_self) r) (each_reads I (fun c hc => h c (List.mem_cons_of_mem _ hc)) t)
theorem cr_sortD (hu : X.A.units + 64 < cLine) (h : X.K = K := by rfl) : CallR X (.builtin "sorted") (rSortD K) := by
  subst h
  intro pins s σ H vs us Q I r hq
  obtain ⟨a, bs, rfl, hs, hd, hal, hk, hdp, q⟩ := hq
  obtain ⟨its, rv, hl, hz⟩ := I.list hs
  obtain ⟨u, rfl, ru⟩ := vals1 r
  obtain rfl : u = Value.ref a := ru
  have ee := each_vals rv
  have hz2 : bs.length ≤ sizeLine := by
    rw [List.length_map] at hz
    exact hz
  refine sorted_data (β := V × PyData) (bs := bs) (enc := fun b : V × PyData => b.2) (R := fun u (b : V × PyData) => RelV b.1 u) hl.isList ee (each_reads I hd ee) hal hk hz2 (fun b hb => by have := hdp b hb; omega) fun out hlen eo => ?_
  obtain ⟨n, hn⟩ := sortedAll_at s.heap its out.toArray
  refine ⟨.ref _, upd H (s.heap.objs.size + 1) (.lst ((bs.mergeSort dLe).map (·.1))), I.laid (t' := s.toks) (fun _ _ z => sortedAll_old z) (Nat.le_succ _) ⟨?_, out, n, vals_each eo, ?_⟩, rfl, q _ (I.hok.fresh (Nat.le_succ _))⟩
  · rw [List.length_map, List.length_mergeSort]
    exact hz2
  · simpa using hn
end
theorem sl_listK {X : Cx} {K : PySem.W.Frag} (h : X.K = K := by rfl) : SlR X (rSlL K) := h ▸ sl_list
def rDictP (K : PySem.W.Frag) : List V → Hp → VK → Prop := fun xs H Q => ∃ (a : Addr) (ps : List Addr) (kvs : List (Key × V)), xs = [.ref a] ∧ SqL K H a (ps.map V.ref) ∧ Paired (fun p kv => SqT K H p [kV kv.1, kv.2]) ps kvs ∧ ∀ p, H p = none → Q (.ref p) (upd H p (.dK (mergeK [] kvs)))
theorem call_dictPK {X : Cx} {K : PySem.W.Frag} (hc : X.calm = true) (h : X.K = K := by rfl) : CallR X (.type "dict") (rDictP K) := by
  subst h
  exact call_dictP hc
/-! the order -/
theorem dLe_ord : TotalLe dLe := sortLe_total _ false _
theorem dLe_trans (a b c : V × PyData) (h1 : dLe a b = true) (h2 : dLe b c = true) : dLe a c = true := dLe_ord.trans a b c h1 h2
theorem dLe_total (a b : V × PyData) : (dLe a b || dLe b a) = true := (Bool.or_eq_true _ _).mpr (dLe_ord.total a b)
theorem dsort_perm (bs : List (V × PyData)) : (bs.mergeSort dLe).Perm bs := List.mergeSort_perm bs dLe
theorem dsort_asc (bs : List (V × PyData)) : (bs.mergeSort dLe).Pairwise fun a b => dLe a b = true := List.pairwise_mergeSort dLe_trans dLe_total bs
theorem dsort_id {bs : List (V × PyData)} (h : bs.Pairwise fun a b => dLe a b = true) : bs.mergeSort dLe = bs := List.mergeSort_of_pairwise h
theorem dLe_lt (a b : V × PyData) : dLe a b = !dataLt b.2 a.2 := rfl
theorem dLe_ints {u v : V} {xs ys : List Int} : dLe (u, .tuple (xs.map .int)) (v, .tuple (ys.map .int)) = !decide (ys < xs) := by
  rw [dLe_lt]
  show (!dataLt (.tuple (ys.map .int)) (.tuple (xs.map .int))) = _
  rw [dataLt_tuple]
  exact congrArg (!·) (dataLt_ints ys xs)
end Ef
namespace Ef
open PySem PySem.Spec PyProof.Rows L2
/-! ### a comprehension within a comprehension -/
theorem lookup_map (c : Str → NameKind → Bool) (x : Str) : ∀ names : List (Str × NameKind), (names.lookup x = some .cell ∨ names.lookup x = some .free) → ((names.map fun (n, k) => if c n k = true then (n, NameKind.cell) else (n, k)).lookup x = some .cell ∨ (names.map fun (n, k) => if c n k = true then (n, NameKind.cell) else (n, k)).lookup x = some .free)
  | [], h => by simp at h
  | (n, k) :: r, h => by
    rw [List.map_cons]
    by_cases e : x == n
    · rw [List.lookup_cons, e] at h
      by_cases cc : c n k = true
      · simp only [cc, if_true]
        rw [List.lookup_cons, e]
        exact .inl rfl
      · simp only [cc, Bool.false_eq_true, if_false]
        rw [List.lookup_cons, e]
        exact h
    · have e2 : (x == n) = false := by simpa using e
      rw [List.lookup_cons, e2] at h
      have ih := lookup_map c x r h
      by_cases cc : c n k = true
      · simp only [cc, if_true]
        rw [List.lookup_cons, e2]
        exact ih
      · simp only [cc, Bool.false_eq_true, if_false]
        rw [List.lookup_cons, e2]
        exact ih
theorem blkOk_in {N : List Str} {sc scope : Scope} {own : List (Str × Nat)} {env : Env} (h : BlkOk N sc scope own) : BlkOk N (relabel sc env) scope own :=
  ⟨h.kind, h.uniq, h.ix, fun y hy e => lookup_map (fun n k => k == NameKind.free && env.scope.kind == .function && env.kindOf n == some .cell) y.1 sc.names (h.free y hy e), h.own⟩
end Ef
set_option maxHeartbeats 4000000
namespace Ef
open PySem PySem.Spec PyProof.Rows L2
/-! ### set(t) of a tuple of ints with its size, len(s) of a set -/
/-- c is the number of different ones among ns -/
def Diff (ns : List Int) (c : Nat) : Prop := ∃ ks : List Int, ks.Nodup ∧ (∀ k, k ∈ ks ↔ k ∈ ns) ∧ ks.length = c
theorem Diff.nodup {ns : List Int} {c : Nat} (h : Diff ns c) (hn : ns.Nodup) : c = ns.length := by
  obtain ⟨ks, h1, h2, rfl⟩ := h
  exact ((List.perm_ext_iff_of_nodup h1 hn).mpr h2).length_eq
theorem sub_len : ∀ {ks ns : List Int}, ks.Nodup → (∀ k ∈ ks, k ∈ ns) → ks.length ≤ ns.length
  | [], _, _, _ => Nat.zero_le _
  | k :: r, ns, h, hs => by
    have hk := hs k List.mem_cons_self
    have h1 := sub_len (ks := r) (ns := ns.erase k) (List.nodup_cons.mp h).2 fun x hx => (List.mem_erase_of_ne (fun e : x = k => (List.nodup_cons.mp h).1 (e ▸ hx))).mpr (hs x (List.mem_cons_of_mem _ hx))
    have h2 := List.length_erase_of_mem hk
    have h3 := List.length_pos_of_mem hk
    show r.length + 1 ≤ ns.length
    omega
theorem sub_perm : ∀ {ks ns : List Int}, ks.Nodup → (∀ k ∈ ks, k ∈ ns) → ns.length ≤ ks.length → ks.Perm ns
  | [], ns, _, _, h => by
    have : ns = [] := List.length_eq_zero_iff.mp (Nat.le_zero.mp h)
    rw [this]
  | k :: r, ns, h, hs, hl => by
    have hk := hs k List.mem_cons_self
    have h2 := List.length_erase_of_mem hk
    have hl2 : ns.length ≤ r.length + 1 := hl
    have h1 := sub_perm (ks := r) (ns := ns.erase k) (List.nodup_cons.mp h).2 (fun x hx => (List.mem_erase_of_ne (fun e : x = k => (List.nodup_cons.mp h).1 (e ▸ hx))).mpr (hs x (List.mem_cons_of_mem _ hx))) (by omega)
    exact (h1.cons k).trans (List.perm_cons_erase hk).symm
theorem Diff.le {ns : List Int} {c : Nat} (h : Diff ns c) : c ≤ ns.length := by
  obtain ⟨ks, h1, h2, rfl⟩ := h
  exact sub_len h1 fun k hk => (h2 k).mp hk
theorem Diff.not {ns : List Int} {c : Nat} (h : Diff ns c) (hn : ¬ ns.Nodup) : c ≠ ns.length := by
  intro e
  obtain ⟨ks, h1, h2, rfl⟩ := h
  have p : ks.Perm ns := sub_perm h1 (fun k hk => (h2 k).mp hk) (by omega)
  exact hn (p.nodup_iff.mp h1)
section
variable {X : Cx} {K : PySem.W.Frag} {w : World}
theorem setR_diff {h : Heap} {a : Addr} {ns : List Int} {c : Nat} (R : SetR w h a (fun j => decide (j ∈ ns)) c) : Diff ns c := by
  obtain ⟨o, es, ep, t, _, _, _, _, nd, mem, _, _, sz, _⟩ := R
  refine ⟨es.toList.map keyOf, nd, fun k => ?_, ?_⟩
  · rw [← mem k]
    exact decide_eq_true_iff
  · rw [List.length_map, Array.length_toList]
    exact sz
def rSetTn (K : PySem.W.Frag) (w : World) : List V → Hp → VK → Prop := fun xs H Q => ∃ (l : Addr) (ns : List Int), xs = [.ref l] ∧ (SqT K H l (ns.map V.int)) ∧ ns.length ≤ 1000 ∧
    ∀ (p : Addr) (c : Nat), H p = none → Diff ns c → Q (.ref p) (upd H p (SetO w p (fun j => decide (j ∈ ns)) c))
theorem cr_setTn (hc : X.calm = true) (h : X.K = K := by rfl) (hw : X.w = w := by rfl) : CallR X (.type "set") (rSetTn K w) := by
  subst h hw
  intro pins s σ H xs us Q I r h
  obtain ⟨l, ns, rfl, hq, hl, q⟩ := h
  obtain ⟨u, rfl, ru⟩ := vals1 r
  obtain rfl : u = Value.ref l := ru
  obtain ⟨its, rv, pt, hz⟩ := I.tuple hq
  refine call_set_tupI ns (I.ok.hd hc) (show s.heap.IsTuple l its.toArray from pt) (ints_of_vals rv) (by unfold scanBound; omega) fun h' tk c R1 hcn k => ?_
  exact ⟨.ref _, _, I.laid (t' := tk) k (Nat.le_refl _) (setO_new R1), rfl, q _ c (I.hok.fresh (Nat.le_refl _)) (setR_diff R1)⟩
def rLenSet (w : World) : List V → Hp → VK → Prop := fun xs H Q => ∃ (p : Addr) (S : Int → Bool) (c : Nat), xs = [.ref p] ∧ H p = some (SetO w p S c) ∧ Q (.int (c : Int)) H
theorem call_lenSet (hw : X.w = w := by rfl) : CallR X (.builtin "len") (rLenSet w) := by
  subst hw
  intro pins s σ H xs us Q I r h
  obtain ⟨p, S, c, rfl, hp, q⟩ := h
  obtain ⟨u, rfl, ru⟩ := vals1 r
  obtain rfl : u = Value.ref p := ru
  obtain ⟨o, es, ep, t, ho, hex, hd, _, _, _, sb, hf, hn, _⟩ := setO_get I hp
  have b : (es.size : Int) < 2 ^ 63 := by
    have : scanBound ≤ 2 ^ 62 := by unfold scanBound; decide
    omega
  exact call_len_set ho hex hd hf b ⟨.int c, H, I.tok _, ⟨_, by rw [hn]⟩, q⟩
end
end Ef
namespace Ef
/-! ### the lists ascend -/
abbrev intL (ms : List Nat) : List Int := ms.map fun (m : Nat) => (m : Int)
theorem lt_cons {a b : Int} {l m : List Int} : a :: l < b :: m ↔ a < b ∨ a = b ∧ l < m := List.cons_lt_cons_iff
/-- m is not before l -/
def LexLe (l m : List Nat) : Prop := ¬ intL m < intL l
theorem LexLe.cons_lt {a b : Nat} {l m : List Nat} (h : a < b) : LexLe (a :: l) (b :: m) := fun z => by
  have z2 : ((b : Int) :: intL m) < ((a : Int) :: intL l) := z
  rcases lt_cons.mp z2 with z | ⟨z, _⟩ <;> omega
theorem LexLe.cons_eq {a : Nat} {l m : List Nat} (h : LexLe l m) : LexLe (a :: l) (a :: m) := fun z => by
  have z2 : ((a : Int) :: intL m) < ((a : Int) :: intL l) := z
  rcases lt_cons.mp z2 with z | ⟨_, z⟩
  · omega
  · exact h z
theorem asc_lt {L : List Nat} (a : Asc L) {i j x y : Nat} (hi : L[i]? = some x) (hj : L[j]? = some y) (h : i < j) : x < y := by
  obtain ⟨a1, a2⟩ := List.getElem?_eq_some_iff.mp hi
  obtain ⟨b1, b2⟩ := List.getElem?_eq_some_iff.mp hj
  rw [← a2, ← b2]
  exact List.pairwise_iff_getElem.mp a i j a1 b1 h
theorem fol_asc {n c : Nat} : ∀ {ss L : List Nat} {r r' : Nat}, FolOk n c ss L r → FolOk n c ss L r' → Asc L → r ≤ r' → LexLe (fol n c ss L r).1 (fol n c ss L r').1
  | [], _, _, _, _, _, _, _ => fun z => by cases z
  | s :: ss, L, r, r', ⟨w0, h1, g1, o1⟩, ⟨_, h2, g2, o2⟩, a, h => by
    rw [fol_cons, fol_cons]
    have hd : r / wd n c s ≤ r' / wd n c s := Nat.div_le_div_right h
    by_cases e : r / wd n c s = r' / wd n c s
    · have m1 := Nat.div_add_mod r (wd n c s)
      have m2 := Nat.div_add_mod r' (wd n c s)
      rw [← e] at o2 m2 ⊢
      have hm : r % wd n c s ≤ r' % wd n c s := by omega
      exact LexLe.cons_eq (fol_asc o1 o2 (asc_erase a _) (by omega))
    · exact LexLe.cons_lt (asc_lt a (getD_of h1) (getD_of h2) (by omega))
theorem path_asc {n d c k k' : Nat} (h : Std n d c) (hk : k ≤ k') (hk' : k' < c) : LexLe (path n d c k).1 (path n d c k').1 :=
  fol_asc (path_ok h (by omega)) (path_ok h hk') (asc_range' n 0) hk
end Ef
set_option maxHeartbeats 4000000
namespace Ef
open PySem PySem.Spec PyProof.Rows L2
/-! ### dicts whose keys are tuples, nested at will -/
mutual
/-- the value is this key -/
inductive NkAt (K : PySem.W.Frag) (H : Hp) : NestedKey → V → Prop
  | num (i : Int) : NkAt K H (.num i) (.int i)
  | tup {a : Addr} {xs : List V} {ks : List NestedKey} : SqT K H a xs → NkAll K H ks xs → NkAt K H (.tup ks) (.ref a)
inductive NkAll (K : PySem.W.Frag) (H : Hp) : List NestedKey → List V → Prop
  | nil : NkAll K H [] []
  | cons {k : NestedKey} {v : V} {ks : List NestedKey} {vs : List V} : NkAt K H k v → NkAll K H ks vs → NkAll K H (k :: ks) (v :: vs)
end
mutual
theorem NkAt.mono {K : PySem.W.Frag} {H H' : Hp} (m : ∀ a xs, SqT K H a xs → SqT K H' a xs) : ∀ (k : NestedKey) (v : V), NkAt K H k v → NkAt K H' k v
  | .none, _, h => by cases h
  | .num i, _, h => by cases h; exact .num i
  | .text x, _, h => by cases h
  | .tup ks, _, h => by
    cases h with
    | tup h1 h2 => exact .tup (m _ _ h1) (NkAll.mono m ks _ h2)
theorem NkAll.mono {K : PySem.W.Frag} {H H' : Hp} (m : ∀ a xs, SqT K H a xs → SqT K H' a xs) : ∀ (ks : List NestedKey) (vs : List V), NkAll K H ks vs → NkAll K H' ks vs
  | [], _, h => by cases h; exact .nil
  | k :: ks, _, h => by
    cases h with
    | cons h1 h2 => exact .cons (NkAt.mono m k _ h1) (NkAll.mono m ks _ h2)
end
theorem NkAt.same {K : PySem.W.Frag} {H H' : Hp} {k : NestedKey} {v : V} (s : Same H H') (h : NkAt K H k v) : NkAt K H' k v := NkAt.mono (fun _ _ z => Same.seqT s z) k v h
section
variable {X : Cx} {pins : List (Addr × Obj)} {σ : L2.St} {H : Hp} {s : Shared}
mutual
theorem nk_is (I : Inv X pins σ H s) : ∀ (k : NestedKey) (v : V) (u : Value), NkAt X.K H k v → RelV v u → NestedIs s.heap k u
  | .none, _, _, h, _ => by cases h
  | .num i, _, u, h, r => by
    cases h
    obtain ⟨t, rfl⟩ := (show ∃ t, u = Value.int i t from r)
    exact .int i t
  | .text x, _, _, h, _ => by cases h
  | .tup ks, _, u, h, r => by
    cases h with
    | @tup a xs _ h1 h2 =>
      obtain rfl : u = Value.ref a := r
      obtain ⟨its, rv, ⟨o, ho, hc, n, hd⟩, _⟩ := I.tuple h1
      exact .tup ho hc hd (by simpa using nk_all I ks _ _ h2 rv)
theorem nk_all (I : Inv X pins σ H s) : ∀ (ks : List NestedKey) (vs : List V) (us : List Value), NkAll X.K H ks vs → Vals vs us → NestedAll s.heap ks us
  | [], _, _, h, r => by
    cases h
    cases r
    exact .nil
  | k :: ks, _, _, h, r => by
    cases h with
    | cons h1 h2 =>
      cases r with
      | cons r1 r2 => exact .cons (nk_is I k _ _ h1 r1) (nk_all I ks _ _ h2 r2)
end
end
abbrev DRel : List (NestedKey × Addr × V) → List (NestedKey × Addr × Value) → Prop := PySem.Paired fun p q => p.1 = q.1 ∧ p.2.1 = q.2.1 ∧ RelV p.2.2 q.2.2
abbrev KN (xs : List (NestedKey × Addr × V)) : List (NestedKey × V) := xs.map fun x => (x.1, x.2.2)
theorem DRel.val {xs : List (NestedKey × Addr × V)} {ys : List (NestedKey × Addr × Value)} (r : DRel xs ys) (k : NestedKey) : RelO (valV (KN xs) k) ((atKey ys k).map (·.2)) := by
  induction r with
  | nil => exact True.intro
  | @cons p q ps qs h t ih =>
    obtain ⟨h1, _, h2⟩ := h
    by_cases e : p.1 = k
    · have e' : q.1 = k := h1.symm.trans e
      have b : atKey (q :: qs) k = some q.2 := by simp [atKey, List.find?_cons, e']
      rw [b]
      show RelO (valV ((p.1, p.2.2) :: KN ps) k) _
      rw [valV_pos e]
      exact h2
    · have e' : ¬ q.1 = k := fun z => e (h1.trans z)
      have b : atKey (q :: qs) k = atKey qs k := by simp [atKey, List.find?_cons, e']
      rw [b]
      show RelO (valV ((p.1, p.2.2) :: KN ps) k) _
      rw [valV_neg e]
      exact ih
/-- d[k] = v over the pairs with their keys' places -/
def putN (xs : List (NestedKey × Addr × V)) (k : NestedKey) (b : Addr) (v : V) : List (NestedKey × Addr × V) :=
  if (valV (KN xs) k).isSome = true then xs.map (fun x => if x.1 = k then (x.1, x.2.1, v) else x) else xs ++ [(k, b, v)]
theorem DRel.repl {xs : List (NestedKey × Addr × V)} {ys : List (NestedKey × Addr × Value)} (r : DRel xs ys) (k : NestedKey) {y : V} {u : Value} (ry : RelV y u) :
    DRel (xs.map fun x => if x.1 = k then (x.1, x.2.1, y) else x) (ys.map (putAt k u)) := by
  induction r with
  | nil => exact .nil
  | @cons p q ps qs h t ih =>
    rw [List.map_cons, List.map_cons]
    refine .cons ?_ ih
    obtain ⟨h1, h2, h3⟩ := h
    unfold putAt
    by_cases e : p.1 = k
    · rw [if_pos e, if_pos (h1.symm.trans e)]; exact ⟨h1, h2, ry⟩
    · rw [if_neg e, if_neg (fun z => e (h1.trans z))]; exact ⟨h1, h2, h3⟩
theorem DRel.put {xs : List (NestedKey × Addr × V)} {ys : List (NestedKey × Addr × Value)} (r : DRel xs ys) (k : NestedKey) (b : Addr) {y : V} {u : Value} (ry : RelV y u) :
    DRel (putN xs k b y) (storedH ys k b u) := by
  have e : (valV (KN xs) k).isSome = (atKey ys k).isSome := by
    rw [(r.val k).isSome_eq, Option.isSome_map]
  unfold putN storedH
  rw [e]
  by_cases q : (atKey ys k).isSome = true
  · rw [if_pos q, if_pos q]; exact r.repl k ry
  · rw [if_neg q, if_neg q]; exact Paired.snoc r ⟨rfl, rfl, ry⟩
theorem KN_put (xs : List (NestedKey × Addr × V)) (k : NestedKey) (b : Addr) (v : V) : KN (putN xs k b v) = putK (KN xs) k v := by
  unfold putN putK
  rw [valV_any]
  by_cases q : (valV (KN xs) k).isSome = true
  · rw [if_pos q, if_pos q]
    unfold KN
    rw [List.map_map, List.map_map]
    refine List.map_congr_left fun x _ => ?_
    show ((if x.1 = k then (x.1, x.2.1, v) else x).1, (if x.1 = k then (x.1, x.2.1, v) else x).2.2) = if x.1 = k then (x.1, v) else (x.1, x.2.2)
    by_cases e : x.1 = k
    · rw [if_pos e, if_pos e]
    · rw [if_neg e, if_neg e]
  · rw [if_neg q, if_neg q]
    unfold KN
    rw [List.map_append]
    rfl
theorem putN_mem {xs : List (NestedKey × Addr × V)} {k : NestedKey} {b : Addr} {v : V} {x : NestedKey × Addr × V} (h : x ∈ putN xs k b v) : (∃ y ∈ xs, x.1 = y.1 ∧ x.2.1 = y.2.1) ∨ (x.1 = k ∧ x.2.1 = b) := by
  unfold putN at h
  split at h
  · obtain ⟨y, hy, rfl⟩ := List.mem_map.mp h
    refine .inl ⟨y, hy, ?_⟩
    by_cases e : y.1 = k
    · rw [if_pos e]; exact ⟨rfl, rfl⟩
    · rw [if_neg e]; exact ⟨rfl, rfl⟩
  · rcases List.mem_append.mp h with h | h
    · exact .inl ⟨x, h, rfl, rfl⟩
    · rw [List.mem_singleton.mp h]
      exact .inr ⟨rfl, rfl⟩
/-- a dict at a: its keys, where they stand, its values -/
def DN (P : Program) (w : World) (a : Addr) (xs : List (NestedKey × Addr × V)) : HO := .ext fun h => (a == sysModules) = false ∧ xs.length ≤ sizeLine ∧ ∃ ys : List (NestedKey × Addr × Value), DRel xs ys ∧
  ∃ o es ep, h.get? a = some o ∧ o.ExactDict ∧ o.data = .dict es ep ∧ es.toList = ys.map (entryOfKey (nestedKind P w)) ∧ (ys.map (·.1)).Nodup
theorem dn_ok {P : Program} {w : World} {H : Hp} {h : Heap} {a : Addr} {xs : List (NestedKey × Addr × V)} (h1 : (a == sysModules) = false) (h2 : xs.length ≤ sizeLine) {ys : List (NestedKey × Addr × Value)} (r : DRel xs ys) (d : h.DictOfH (nestedKind P w) a ys) :
    ObjOk P w H h a (DN P w a xs) := by
  obtain ⟨o, es, ep, e1, e2, e3, e4, _, e5⟩ := d
  refine ⟨⟨h1, h2, ys, r, o, es, ep, e1, e2, e3, e4, e5⟩, ⟨o, e1⟩, fun g1 g2 ⟨a1, a2, ys', a3, o', es', ep', b1, b2⟩ st => ⟨a1, a2, ys', a3, o', es', ep', st _ b1, b2⟩⟩
/-- the pairs of the dict at d -/
def DAt (P : Program) (w : World) (K : PySem.W.Frag) (H : Hp) (d : Addr) (kvs : List (NestedKey × V)) : Prop := ∃ xs, H d = some (DN P w d xs) ∧ (∀ x ∈ xs, NkAt K H x.1 (.ref x.2.1) ∧ x.1.depth ≤ 8) ∧ kvs = KN xs
theorem DAt.same {P : Program} {w : World} {K : PySem.W.Frag} {H H' : Hp} {d : Addr} {kvs : List (NestedKey × V)} (s : Same H H') (h : DAt P w K H d kvs) : DAt P w K H' d kvs := by
  obtain ⟨xs, h1, h2, h3⟩ := h
  exact ⟨xs, s _ _ h1, fun x hx => ⟨(h2 x hx).1.same s, (h2 x hx).2⟩, h3⟩
theorem SqT_updE {K : PySem.W.Frag} {H : Hp} {a D : Addr} {xs : List V} {φ : Heap → Prop} {o : HO} (h : SqT K H a xs) (hD : H D = some (.ext φ)) : SqT K (upd H D o) a xs := by
  rcases h with (h | ⟨o, h⟩) | h
  · exact .inl (.inl (by rw [upd_ne (fun c => by rw [c, hD] at h; cases h)]; exact h))
  · exact .inl (.inr ⟨o, by rw [upd_ne (fun c => by rw [c, hD] at h; cases h)]; exact h⟩)
  · exact .inr h
theorem DAt.ext {P : Program} {w : World} {K : PySem.W.Frag} {H : Hp} {d : Addr} {kvs : List (NestedKey × V)} (h : DAt P w K H d kvs) : ∃ φ, H d = some (.ext φ) := by
  obtain ⟨xs, h1, _⟩ := h
  exact ⟨_, h1⟩
/-- a list is changed -/
theorem DAt.updL {P : Program} {w : World} {K : PySem.W.Frag} {H : Hp} {d D : Addr} {kvs : List (NestedKey × V)} {ys : List V} {o : HO} (h : DAt P w K H d kvs) (hD : H D = some (.lst ys)) : DAt P w K (upd H D o) d kvs := by
  obtain ⟨xs, h1, h2, h3⟩ := h
  refine ⟨xs, by rw [upd_ne (fun c => by rw [c, hD] at h1; cases h1)]; exact h1, fun x hx => ⟨NkAt.mono (fun a zs h => ?_) _ _ (h2 x hx).1, (h2 x hx).2⟩, h3⟩
  rcases h with (h | ⟨o, h⟩) | h
  · exact .inl (.inl (by rw [upd_ne (fun c => by rw [c, hD] at h; cases h)]; exact h))
  · exact .inl (.inr ⟨o, by rw [upd_ne (fun c => by rw [c, hD] at h; cases h)]; exact h⟩)
  · exact .inr h
section
variable {X : Cx} {pins : List (Addr × Obj)} {σ : L2.St} {H : Hp} {s : Shared}
theorem dat_of {a : Addr} {xs : List (NestedKey × Addr × V)} (I : Inv X pins σ H s) (e : H a = some (DN X.prog X.w a xs)) (hk : ∀ x ∈ xs, NkAt X.K H x.1 (.ref x.2.1) ∧ x.1.depth ≤ 8) :
    (a == sysModules) = false ∧ xs.length ≤ sizeLine ∧ ∃ ys, DRel xs ys ∧ s.heap.DictOfH (nestedKind X.prog X.w) a ys := by
  obtain ⟨h1, h2, ys, r, o, es, ep, e1, e2, e3, e4, e5⟩ := (I.hok a _ e).1
  refine ⟨h1, h2, ys, r, o, es, ep, e1, e2, e3, e4, ?_, e5⟩
  clear h2 e4 e5 e
  induction r with
  | nil => intro x hx; exact absurd hx List.not_mem_nil
  | @cons p q ps qs h t ih =>
    intro x hx
    rcases List.mem_cons.mp hx with rfl | hx
    · obtain ⟨z1, z2⟩ := hk p List.mem_cons_self
      rw [← h.1, ← h.2.1]
      exact ⟨nk_is I _ _ _ z1 rfl, z2⟩
    · exact ih (fun y hy => hk y (List.mem_cons_of_mem _ hy)) x hx
theorem nroom {A : Around} {P : Program} {w : World} (hu : A.units + 9 < cLine) : (nestedKind P w).room A.in1 := by
  show A.in1.units + 8 < cLine
  rw [Around.in1_units]
  omega
end
/-! the rules -/
def tDNewN (P : Program) (w : World) : TE := fun _ H Q => ∀ p, H p = none → Q (.ref p) (upd H p (DN P w p []))
def rGetDN (P : Program) (w : World) (K : PySem.W.Frag) : V → List V → Hp → VK → Prop := fun x args H Q => ∃ (d b : Addr) (z : V) (kvs : List (NestedKey × V)) (k : NestedKey), x = .ref d ∧ args = [.ref b, z] ∧ DAt P w K H d kvs ∧ NkAt K H k (.ref b) ∧ k.depth ≤ 8 ∧ Q ((valV kvs k).getD z) H
def rSetDN (P : Program) (w : World) (K : PySem.W.Frag) : V → V → V → Hp → (Hp → Prop) → Prop := fun o i v H Q => ∃ (d b : Addr) (kvs : List (NestedKey × V)) (k : NestedKey), o = .ref d ∧ i = .ref b ∧ DAt P w K H d kvs ∧ NkAt K H k (.ref b) ∧ k.depth ≤ 8 ∧ kvs.length < sizeLine ∧
  ∀ u, DAt P w K (upd H d u) d (putK kvs k v) → Q (upd H d u)
def rIxDN (P : Program) (w : World) (K : PySem.W.Frag) : R2 := fun x y H Q => ∃ (d b : Addr) (kvs : List (NestedKey × V)) (k : NestedKey) (v : V), x = .ref d ∧ y = .ref b ∧ DAt P w K H d kvs ∧ NkAt K H k (.ref b) ∧ k.depth ≤ 8 ∧ valV kvs k = some v ∧ Q v H
def tBMN (P : Program) (w : World) (r : V → List V → Hp → VK → Prop) (to : TE) (t : TA) : TE := fun σ H Q => to σ H fun x H1 => (∃ a xs, x = .ref a ∧ H1 a = some (DN P w a xs)) ∧ t σ H1 fun xs H2 => r x xs H2 Q
section
variable {X : Cx} {P : Program} {w : World} {K : PySem.W.Frag} {pos : Pos}
theorem pe_dnewN (hp : X.prog = P := by rfl) (hw : X.w = w := by rfl) : PE X (.Dict [] [] pos) (tDNewN P w) := by
  subst hp hw
  exact ⟨fun pins s σ H Q I h => wpAny_Dict_empty ⟨.ref s.heap.objs.size, _, I.laid (a := s.heap.objs.size) (o := DN X.prog X.w s.heap.objs.size []) (t' := s.toks) (fun _ _ q => Heap.get?_push_of_some _ q) (Nat.le_refl _)
    (dn_ok (beq_eq_false_iff_ne.mpr (Ne.symm (Nat.ne_of_lt I.big))) (Nat.zero_le _) .nil (Heap.DictOfH.new s.heap)), rfl, h _ (I.hok.fresh (Nat.le_refl _))⟩⟩
theorem mt_getDN (K : PySem.W.Frag) (hu : X.A.units + 9 < cLine) (hp : X.prog = P := by rfl) (hw : X.w = w := by rfl) (hk : X.K = K := by rfl) : MtR X "dict.get" (rGetDN P w K) := by
  subst hp hw hk
  intro pins s σ H x args v us Q I rx ra h
  obtain ⟨d, b, z, kvs, k, rfl, rfl, ⟨xs, e, hx, rfl⟩, hb, hd8, q⟩ := h
  obtain rfl : v = Value.ref d := rx
  cases ra with
  | cons r1 r2 =>
    cases r2 with
    | cons r2 r3 =>
      cases r3
      rename_i u1 u2
      obtain rfl : u1 = Value.ref b := r1
      obtain ⟨h1, h2, ys, r, dd⟩ := dat_of I e hx
      refine call_meetsIn PySem.F.slot_dict_get dd.typeIs PySem.F.entry_dict_get (PySem.F.args_dict_get_3 _ _ _) (meetsH_dict_get_default (nestedKind X.prog X.w) d b h1 u2) ⟨nroom hu, k, ys, ⟨nk_is I k _ _ hb rfl, hd8⟩, dd, _, H, I.tok _, (r.val k).getD r2, q⟩
theorem set_dN (K : PySem.W.Frag) (hu : X.A.units + 9 < cLine) (hp : X.prog = P := by rfl) (hw : X.w = w := by rfl) (hk : X.K = K := by rfl) : PSet X (rSetDN P w K) := by
  subst hp hw hk
  intro pins s σ H o i v ov iv u Q I ro ri rv h
  obtain ⟨d, b, kvs, k, rfl, rfl, ⟨xs, e, hx, rfl⟩, hb, hd8, hl, q⟩ := h
  obtain rfl : ov = Value.ref d := ro
  obtain rfl : iv = Value.ref b := ri
  obtain ⟨h1, h2, ys, r, dd⟩ := dat_of I e hx
  have hz : ys.length ≤ sizeLine := by rw [← Paired.length r]; exact h2
  refine wpAny_setItem_heap (hsz := hz) (nroom hu) (show (nestedKind X.prog X.w).is s.heap k b from ⟨nk_is I k _ _ hb rfl, hd8⟩) dd fun h' dd' hs => ?_
  have hl2 : (putN xs k b v).length ≤ sizeLine := by
    have l1 := length_putK (KN xs) k v
    rw [← KN_put xs k b v] at l1
    unfold KN at l1 hl
    rw [List.length_map, List.length_map] at l1
    rw [List.length_map] at hl
    omega
  have he : ∃ q, h'.get? d = some q := let ⟨q, _, _, hq, _⟩ := dd'; ⟨q, hq⟩
  refine ⟨upd H d (DN X.prog X.w d (putN xs k b v)), d_write I (by rw [e]; exact True.intro) hs he (dn_ok h1 hl2 (r.put k b rv) dd'), q _ ⟨putN xs k b v, upd_same, fun x hx2 => ?_, (KN_put xs k b v).symm⟩⟩
  have mo : ∀ a zs, SqT X.K H a zs → SqT X.K (upd H d (DN X.prog X.w d (putN xs k b v))) a zs := fun a zs h => SqT_updE h e
  rcases putN_mem hx2 with ⟨y, hy, e1, e2⟩ | ⟨e1, e2⟩
  · rw [e1, e2]
    exact ⟨NkAt.mono mo _ _ (hx y hy).1, (hx y hy).2⟩
  · rw [e1, e2]
    exact ⟨NkAt.mono mo _ _ hb, hd8⟩
theorem ix_dN (K : PySem.W.Frag) (hu : X.A.units + 9 < cLine) (hp : X.prog = P := by rfl) (hw : X.w = w := by rfl) (hk : X.K = K := by rfl) : IxR X (rIxDN P w K) := by
  subst hp hw hk
  intro value slice pins s σ H x y v u Q I rx ry h hs
  obtain ⟨d, b, kvs, k, z, rfl, rfl, ⟨xs, e, hx, rfl⟩, hb, hd8, hv, q⟩ := h
  obtain rfl : v = Value.ref d := rx
  obtain rfl : u = Value.ref b := ry
  obtain ⟨h1, h2, ys, r, dd⟩ := dat_of I e hx
  obtain ⟨w', hw, rw'⟩ := RelO.some_of (v := z) (o := (atKey ys k).map (·.2)) (by rw [← hv]; exact r.val k)
  obtain ⟨p, hp, hp2⟩ := Option.map_eq_some_iff.mp hw
  refine tail_any (ops := [.ref d, .ref b]) dd.typeIs PySem.F.slot_dict_getitem.lookup ?_ hs
  refine wpAny_getItem_heap (nroom hu) (show (nestedKind X.prog X.w).is s.heap k b from ⟨nk_is I k _ _ hb rfl, hd8⟩) dd hp ?_
  rw [hp2]
  exact ⟨z, H, I.tok _, rw', q⟩
theorem pe_bmN {name : Str} {id : String} {r : V → List V → Hp → VK → Prop} {o e : Expr} {es : List Expr} {to : TE} {t : TA} {apos cpos : Pos} (slot : Slot "dict" name id) (hty : typeOf (.builtin id) = pure (.type "method_descriptor")) (hm : MtR X id r) (ho : PE X o to) (ha : PA X (e :: es) t)
    (hp : X.prog = P := by rfl) (hw : X.w = w := by rfl)
    (hbase : attributeBase o name X.env (eval o X.env) = eval o X.env := by rfl)
    (hfew : ((backTo cpos (starEach (e :: es) X.env)).all (fun x => !x.1) && (backToKw cpos (keywordEach [] X.env)).all (fun x => x.1.isSome)
      && decide ((e :: es).length + ([] : List Keyword).length + (if ([] : List Keyword).isEmpty then 0 else 1) < 30)) = true := by rfl)
    (hline : (apos.endLine == cpos.line) = true := by rfl) (hs : starEach (e :: es) X.env = (false, eval e X.env) :: starEach es X.env := by rfl) (hplain : (backTo cpos (starEach es X.env)).any (·.1) = false := by rfl) :
    PE X (.Call (.Attribute o name apos) (e :: es) [] cpos) (tBMN P w r to t) := by
  subst hp hw
  refine ⟨fun pins s σ H Q I h => ?_⟩
  refine wpAny_Call_method_late hbase hfew hline rfl (thn (ho.run pins s σ H _ I h) fun v s1 ⟨x, H1, I1, r1, ⟨a, xs, ex, ea⟩, q1⟩ => ?_)
  subst ex
  obtain rfl : v = Value.ref a := r1
  obtain ⟨_, _, ys, _, oo, _, _, e1, e2, _⟩ := (I1.hok a _ ea).1
  refine ⟨"dict", id, PySem.F.plainAttrs_dict, slot, hty, ⟨oo, e1, e2.1⟩, fun b q => ?_, ?_⟩
  · cases q
    exact ⟨oo, e1, e2.2.1⟩
  have hA := ha.run cpos pins s1 σ H1 _ I1 q1
  rw [hs] at hA ⊢
  refine Calls.callWith_builtin (by show (false || (backTo cpos (starEach es X.env)).any (·.1)) = false; rw [hplain] <;> rfl) (Calls.evalArgs_plain ?_)
  exact thn hA fun us s2 ⟨vs, H2, I2, r2, q2⟩ => hm pins s2 σ H2 (.ref a) vs (.ref a) us Q I2 rfl r2 q2
end
/-! counting -/
def cntV : Option V → Int
  | some (.int i) => i
  | _ => 0
def tallyN (ks : List NestedKey) : List (NestedKey × V) := ks.foldl (fun acc k => putK acc k (.int (cntV (valV acc k) + 1))) []
theorem tally_snoc (ks : List NestedKey) (k : NestedKey) : tallyN (ks ++ [k]) = putK (tallyN ks) k (.int (cntV (valV (tallyN ks) k) + 1)) := by
  unfold tallyN
  rw [List.foldl_append]
  rfl
theorem tally_val : ∀ (n : Nat) (ks : List NestedKey), ks.length = n → ∀ k, valV (tallyN ks) k = if ks.count k = 0 then none else some (.int (ks.count k : Nat))
  | 0, ks, h, k => by
    rw [List.length_eq_zero_iff.mp h]
    rfl
  | n + 1, ks, h, k => by
    obtain ⟨l, x, rfl⟩ : ∃ l x, ks = l ++ [x] := ⟨ks.dropLast, ks.getLast (fun e => by rw [e] at h; cases h), (List.dropLast_concat_getLast _).symm⟩
    have hl : l.length = n := by
      rw [List.length_append] at h
      have : [x].length = 1 := rfl
      omega
    have ih := tally_val n l hl
    rw [tally_snoc]
    have ec : (l ++ [x]).count k = l.count k + if x = k then 1 else 0 := by
      rw [List.count_append, List.count_singleton]
      by_cases e : x = k
      · rw [if_pos e, if_pos (beq_iff_eq.mpr e)]
      · rw [if_neg e, if_neg (fun z => e (beq_iff_eq.mp z))]
    rw [valV_put]
    by_cases e : x = k
    · subst e
      rw [if_pos rfl, ec, if_pos rfl, if_neg (by omega), ih x]
      by_cases c : l.count x = 0
      · rw [if_pos c, c]
        rfl
      · rw [if_neg c]
        rfl
    · rw [if_neg (fun z => e z.symm), ec, if_neg e, Nat.add_zero]
      exact ih k
end Ef
set_option maxHeartbeats 4000000
namespace Ef
open PySem PySem.Spec PyProof.Rows L2
open PySem.W (dataLe AllAlike Sortable EachIs list_sort_data)
/-! ### such a dict, sorted; its values; its size -/
mutual
theorem nk_dp {K : PySem.W.Frag} {H : Hp} : ∀ (k : NestedKey) (v : V), NkAt K H k v → Dp K H v k.data
  | .none, _, h => by cases h
  | .num i, _, h => by
    cases h
    exact .int i
  | .text x, _, h => by cases h
  | .tup ks, _, h => by
    cases h with
    | tup h1 h2 => exact .tup h1 (nk_dpAll ks _ h2)
theorem nk_dpAll {K : PySem.W.Frag} {H : Hp} : ∀ (ks : List NestedKey) (vs : List V), NkAll K H ks vs → DpAll K H vs (NestedKey.datas ks)
  | [], _, h => by
    cases h
    exact .nil
  | k :: ks, _, h => by
    cases h with
    | cons h1 h2 => exact .cons (nk_dp k _ h1) (nk_dpAll ks _ h2)
end
section
variable {X : Cx} {pins : List (Addr × Obj)} {σ : L2.St} {H : Hp} {s : Shared}
mutual
theorem nk_reads (I : Inv X pins σ H s) : ∀ (k : NestedKey) (v : V) (u : Value), NkAt X.K H k v → RelV v u → Reads s.heap u k.data []
  | .none, _, _, h, _ => by cases h
  | .num i, _, u, h, r => by
    cases h
    obtain ⟨t, rfl⟩ := (show ∃ t, u = Value.int i t from r)
    exact .int i t
  | .text x, _, _, h, _ => by cases h
  | .tup ks, _, u, h, r => by
    cases h with
    | @tup a xs _ h1 h2 =>
      obtain rfl : u = Value.ref a := r
      obtain ⟨its, rv, ⟨o, ho, hc, n, hd⟩, _⟩ := I.tuple h1
      exact .tuple ho hc hd (by simpa using nk_readsAll I ks _ _ h2 rv)
theorem nk_readsAll (I : Inv X pins σ H s) : ∀ (ks : List NestedKey) (vs : List V) (us : List Value), NkAll X.K H ks vs → Vals vs us → ReadsAll s.heap us (NestedKey.datas ks) []
  | [], _, _, h, r => by
    cases h
    cases r
    exact .nil
  | k :: ks, _, _, h, r => by
    cases h with
    | cons h1 h2 =>
      cases r with
      | cons r1 r2 => exact .cons (nk_reads I k _ _ h1 r1) (nk_readsAll I ks _ _ h2 r2)
end
end
def nLe : NestedKey → NestedKey → Bool := dataLe false NestedKey.data
def rSortN (P : Program) (w : World) (K : PySem.W.Frag) : List V → Hp → VK → Prop := fun vs H Q => ∃ (d : Addr) (kvs : List (NestedKey × V)), vs = [V.ref d] ∧ DAt P w K H d kvs ∧ AllAlike ((kvs.map (·.1)).map NestedKey.data) ∧ Sortable ((kvs.map (·.1)).map NestedKey.data) ∧ (∀ k ∈ kvs.map (·.1), k.data.depth ≤ 20) ∧
  ∀ p us, H p = none → PySem.Paired (fun v k => NkAt K H k v) us ((kvs.map (·.1)).mergeSort nLe) → Q (.ref p) (upd H p (.lst us))
theorem drel_keys {acc : List Value} {xs : List (NestedKey × Addr × V)} {ys : List (NestedKey × Addr × Value)} (r : DRel xs ys) : ys.map (fun y => Value.ref y.2.1) = xs.map fun x => Value.ref x.2.1 := by
  induction r with
  | nil => rfl
  | cons h _ ih => rw [List.map_cons, List.map_cons, ih, h.2.1]
theorem each_refs {xs : List (NestedKey × Addr × V)} : EachIs (fun u (b : NestedKey × V) => RelV b.2 u) (xs.map fun x => Value.ref x.2.1) (xs.map fun x => (x.1, V.ref x.2.1)) := by
  induction xs with
  | nil => exact .nil
  | cons x r ih => exact .cons rfl ih
theorem each_read {X : Cx} {pins : List (Addr × Obj)} {σ : L2.St} {H : Hp} {s : Shared} {a : Addr} (I : Inv X pins σ H s) : ∀ {xs : List (NestedKey × Addr × V)}, (∀ x ∈ xs, NkAt X.K H x.1 (.ref x.2.1) ∧ x.1.depth ≤ 8) →
    EachIs (fun v (b : NestedKey × V) => ∃ as, Reads s.heap v b.1.data as ∧ a ∉ as) (xs.map fun x => Value.ref x.2.1) (xs.map fun x => (x.1, V.ref x.2.1))
  | [], _ => .nil
  | x :: xs, h => .cons ⟨[], nk_reads I _ _ _ (h x List.mem_cons_self).1 rfl, List.not_mem_nil⟩ (each_read I fun y hy => h y (List.mem_cons_of_mem _ hy))
theorem each_paired {bs : List (NestedKey × V)} {out : List Value} (e : EachIs (fun u (b : NestedKey × V) => RelV b.2 u) out bs) : Vals (bs.map (·.2)) out := by
  induction e with
  | nil => exact .nil
  | cons h _ ih => exact .cons h ih
theorem nk_paired {K : PySem.W.Frag} {H : Hp} : ∀ {bs : List (NestedKey × V)}, (∀ b ∈ bs, NkAt K H b.1 b.2) → PySem.Paired (fun v k => NkAt K H k v) (bs.map (·.2)) (bs.map (·.1))
  | [], _ => .nil
  | b :: r, h => .cons (h b List.mem_cons_self) (nk_paired fun c hc => h c (List.mem_cons_of_mem _ hc))
theorem keys_acc {P : Program} {w : World} {es : Array DictEntry} {ys : List (NestedKey × Addr × Value)} {acc : Array Value} (e4 : es.toList = ys.map (entryOfKey (nestedKind P w))) (h1 : acc.size = es.size) (h2 : ∀ (i : Nat) (v : Value), acc[i]? = some v → ∃ en : DictEntry, es[i]? = some en ∧ v = en.key) :
    acc.toList = ys.map fun x => Value.ref x.2.1 := by
  have l1 : es.size = ys.length := size_of_entries e4
  have hl : acc.toList.length = ys.length := by rw [Array.length_toList, h1]; exact l1
  apply List.ext_getElem?
  intro j
  rw [List.getElem?_map]
  cases hj : acc.toList[j]? with
  | none =>
    have h1 := List.getElem?_eq_none_iff.mp hj
    rw [List.getElem?_eq_none (by omega)]
    all_goals rfl
  | some v =>
    obtain ⟨en, hen, hv⟩ := h2 j v (by rw [← Array.getElem?_toList]; exact hj)
    have qe := entry_at e4 j
    rw [hen] at qe
    cases hb : ys[j]? with
    | none =>
      rw [hb] at qe
      exact nomatch (show some en = none from qe)
    | some b =>
      rw [hb] at qe
      have e2 : en = entryOfKey (nestedKind P w) b := Option.some.inj qe
      rw [hv, e2]
      all_goals rfl
section
variable {X : Cx} {P : Program} {w : World} {K : PySem.W.Frag}
theorem cr_sortN (K : PySem.W.Frag) (hc : X.calm = true) (hu : X.A.units + 64 < cLine) (hp : X.prog = P := by rfl) (hw : X.w = w := by rfl) (hk : X.K = K := by rfl) : CallR X (.builtin "sorted") (rSortN P w K) := by
  subst hp hw hk
  intro pins s σ H vs us Q I r hq
  obtain ⟨d, kvs, rfl, ⟨xs, e, hx, rfl⟩, hal, hso, hdp, q⟩ := hq
  obtain ⟨u, rfl, ru⟩ := vals1 r
  obtain rfl : u = Value.ref d := ru
  obtain ⟨h1, h2, ys, rel, o, es, ep, e1, e2, e3, e4, e5⟩ := (I.hok d _ e).1
  have l1 : es.size = ys.length := size_of_entries e4
  have l2 : xs.length = ys.length := PySem.Paired.length rel
  have ek : (KN xs).map (·.1) = (xs.map fun x => (x.1, V.ref x.2.1)).map (·.1) := by
    rw [List.map_map, List.map_map]
    rfl
  rw [ek] at hal hso hdp q
  refine Calls.call_function_entry PyProof.Rows.kind_sorted PyProof.Rows.plain_sorted PyProof.Rows.entry_sorted (PyProof.Rows.args_sorted1 _) ?_
  unfold Builtin.«sorted»
  refine wpAny_bind (m := checkCount "sorted" 1 1 _) (wpAny_pure ?_)
  refine wpAny_bind (PySem.W.kdu_collect (A := X.A.in1) (kdl_raw h1 e2 e3) (I.ok.hd hc) e1 (by omega) fun h' tk acc hk' hacc => ?_)
  have ea := (keys_acc e4 hacc.1 hacc.2).trans (drel_keys (acc := []) rel)
  have I1 : Inv X pins σ H { s with heap := h', toks := tk } := I.kept hk'
  rw [ea]
  refine wpAny_bind (wpAny_newList ?_ (by rw [List.length_map]; omega))
  have hoL : (h'.push (seqObj "list" (xs.map fun x => Value.ref x.2.1).toArray 0)).get? h'.objs.size = some (seqObj "list" (xs.map fun x => Value.ref x.2.1).toArray 0) := Heap.get?_push_size _ rfl
  show wpAny _ _ _ _ _ { s with heap := h'.push (seqObj "list" (xs.map fun x => Value.ref x.2.1).toArray 0), toks := tk }
  have I2 : Inv X pins σ H { s with heap := h'.push (seqObj "list" (xs.map fun x => Value.ref x.2.1).toArray 0), toks := tk } := I1.kept (t' := tk) fun b u e => Heap.get?_push_of_some _ e
  refine wpAny_bind (wpAny_holding (list_sort_data (s := { s with heap := h'.push (seqObj "list" (xs.map fun x => Value.ref x.2.1).toArray 0), toks := tk }) (β := NestedKey × V) (bs := xs.map fun x => (x.1, V.ref x.2.1)) (enc := fun b : NestedKey × V => b.1.data) (R := fun u (b : NestedKey × V) => RelV b.2 u) hoL each_refs (each_read I2 hx)
    (by rw [List.map_map] at hal; exact hal) (by rw [List.map_map] at hso; exact hso) (by rw [List.length_map]; omega) (fun b hb => ?_) fun out hout eo => ?_))
  · have hb2 : b.1 ∈ (xs.map fun x => (x.1, V.ref x.2.1)).map (·.1) := List.mem_map.mpr ⟨b, hb, rfl⟩
    have := hdp _ hb2
    show X.A.in1.units + 1 + _ < _
    rw [Around.in1_units]
    omega
  · obtain ⟨e', he'⟩ := PyProof.Rows.sortedHeap_at (vs := xs.map fun x => Value.ref x.2.1) (out := out.toArray) hoL
    have hv := each_paired eo
    have hlen : (((xs.map fun x => (x.1, V.ref x.2.1)).mergeSort (dataLe false fun b : NestedKey × V => b.1.data)).map (·.2)).length ≤ sizeLine := by
      rw [List.length_map, List.length_mergeSort, List.length_map]
      omega
    refine wpAny_pure ⟨_, rfl, .ref h'.objs.size, upd H h'.objs.size (.lst (((xs.map fun x => (x.1, V.ref x.2.1)).mergeSort (dataLe false fun b : NestedKey × V => b.1.data)).map (·.2))), I1.laid (t' := tk) (fun b u e => ?_) (Nat.le_refl _)
      (show ObjOk X.prog X.w _ _ _ (.lst _) from ⟨hlen, out, e', hv, he'⟩), rfl, q _ _ (I1.hok.fresh (Nat.le_refl _)) ?_⟩
    · have hb : b < h'.objs.size := Heap.lt_size e
      rw [PyProof.Rows.sortedHeap_old (Nat.ne_of_lt hb) (by rw [size_push']; exact Nat.lt_succ_of_lt hb)]
      exact Heap.get?_push_of_some _ e
    · have em : ((xs.map fun x => (x.1, V.ref x.2.1)).mergeSort (dataLe false fun b : NestedKey × V => b.1.data)).map (·.1) = ((xs.map fun x => (x.1, V.ref x.2.1)).map (·.1)).mergeSort nLe := List.map_mergeSort fun a _ b _ => rfl
      rw [← em]
      have all : ∀ b ∈ (xs.map fun x => (x.1, V.ref x.2.1)).mergeSort (dataLe false fun b : NestedKey × V => b.1.data), NkAt X.K H b.1 b.2 := fun b hb => by
        obtain ⟨x, hx2, rfl⟩ := List.mem_map.mp ((List.mergeSort_perm _ _).mem_iff.mp hb)
        exact (hx x hx2).1
      exact nk_paired all
/-- len(d) -/
def rLenN (P : Program) (w : World) (K : PySem.W.Frag) : List V → Hp → VK → Prop := fun vs H Q => ∃ (d : Addr) (kvs : List (NestedKey × V)), vs = [V.ref d] ∧ DAt P w K H d kvs ∧ Q (.int (kvs.length : Nat)) H
theorem call_lenN (K : PySem.W.Frag) (hp : X.prog = P := by rfl) (hw : X.w = w := by rfl) (hk : X.K = K := by rfl) : CallR X (.builtin "len") (rLenN P w K) := by
  subst hp hw hk
  intro pins s σ H vs us Q I r hq
  obtain ⟨d, kvs, rfl, ⟨xs, e, hx, rfl⟩, q⟩ := hq
  obtain ⟨u, rfl, ru⟩ := vals1 r
  obtain rfl : u = Value.ref d := ru
  obtain ⟨h1, h2, ys, rel, dd⟩ := dat_of I e hx
  have l2 : xs.length = ys.length := PySem.Paired.length rel
  refine call_len_dictH h1 dd (by rw [sizeLine_eq] at h2; omega) ?_
  refine ⟨.int ((KN xs).length : Nat), H, I.tok _, ⟨s.toks + 1, ?_⟩, q⟩
  unfold KN
  rw [List.length_map, l2]
/-- d.values() -/
def tValsN (P : Program) (w : World) (to : TE) : TE := fun σ H Q => to σ H fun x H1 => ∃ a xs, x = .ref a ∧ H1 a = some (DN P w a xs) ∧ ∀ p, H1 p = none → Q (.ref p) (upd H1 p (viewO "dict_values" p a))
theorem pe_valsN {o : Expr} {to : TE} {apos cpos : Pos} (ho : PE X o to) (hp : X.prog = P := by rfl) (hw : X.w = w := by rfl) (hbase : attributeBase o "values" X.env (eval o X.env) = eval o X.env := by rfl) (hline : (apos.endLine == cpos.line) = true := by rfl) :
    PE X (.Call (.Attribute o "values" apos) [] [] cpos) (tValsN P w to) := by
  subst hp hw
  refine ⟨fun pins s σ H Q I h => ?_⟩
  refine wpAny_Call_method0_late hbase hline (thn (ho.run pins s σ H _ I h) fun v s1 ⟨x, H1, I1, r1, a, xs, ex, ea, q1⟩ => ?_)
  subst ex
  obtain rfl : v = Value.ref a := r1
  obtain ⟨h1, _, ys, _, oo, es, ep, e1, e2, e3, _⟩ := (I1.hok a _ ea).1
  refine ⟨"dict", "dict.values", PySem.F.plainAttrs_dict, PySem.F.slot_dict_values, PySem.F.type_dict_values, ⟨oo, e1, e2.1⟩, fun b q => ?_, Calls.callWith_builtin rfl (PySem.evalArgs_none ?_)⟩
  · cases q
    exact ⟨oo, e1, e2.2.1⟩
  refine call_meetsIn PySem.F.slot_dict_values ⟨oo, e1, e2.1⟩ PySem.F.entry_dict_values (PySem.F.args_dict_values_1 _) (meets_dict_values_raw a h1) ⟨⟨es, ep, oo, e1, e2, e3⟩, ?_⟩
  exact ⟨.ref s1.heap.objs.size, _, I1.laid (t' := s1.toks) (fun b o q => Heap.get?_push_of_some _ q) (Nat.le_refl _) (viewO_ok (Heap.get?_push_size _ rfl)), rfl, q1 _ (I1.hok.fresh (Nat.le_refl _))⟩
/-- the values as entries -/
theorem vals_ent {es : Array DictEntry} {ys : List (NestedKey × Addr × Value)} {xs : List (NestedKey × Addr × V)} {ns : List Int} (e4 : es.toList = ys.map (entryOfKey (nestedKind P w))) (rel : DRel xs ys) (hns : (KN xs).map (·.2) = ns.map V.int) : es.size = ns.length ∧ ∀ (i : Nat) (e : DictEntry), es[i]? = some e → ∃ t, e.val = .int (ns.getD i 0) t := by
  have l1 : es.size = ys.length := size_of_entries e4
  have l2 : xs.length = ys.length := PySem.Paired.length rel
  have l3 : xs.length = ns.length := by
    have e := congrArg List.length hns
    rw [List.length_map, List.length_map, List.length_map] at e
    exact e
  refine ⟨by omega, fun i e he => ?_⟩
  have qe := entry_at e4 i
  rw [he] at qe
  cases hb : ys[i]? with
  | none =>
    rw [hb] at qe
    exact nomatch (show some e = none from qe)
  | some b =>
    rw [hb] at qe
    have e2 : e = entryOfKey (nestedKind P w) b := Option.some.inj qe
    have hi : i < ys.length := (List.getElem?_eq_some_iff.mp hb).1
    have hx : xs[i]? = some xs[i] := List.getElem?_eq_getElem (by omega)
    rcases paired_at rel i with ⟨z, _⟩ | ⟨x, y, z1, z2, z3⟩
    · rw [hx] at z
      cases z
    · rw [hb] at z2
      obtain rfl := Option.some.inj z2
      have z4 : ((KN xs).map (·.2))[i]? = some x.2.2 := by
        unfold KN
        rw [List.map_map, List.getElem?_map, z1]
        rfl
      rw [hns, List.getElem?_map] at z4
      obtain ⟨j, hj, ej⟩ := Option.map_eq_some_iff.mp z4
      have r3 := z3.2.2
      rw [← ej] at r3
      obtain ⟨t, et⟩ := (show ∃ t, b.2.2 = Value.int j t from r3)
      refine ⟨t, ?_⟩
      rw [e2]
      show b.2.2 = _
      rw [et, List.getD_eq_getElem?_getD, hj]
      rfl
def rMaxN (P : Program) (w : World) (K : PySem.W.Frag) : List V → Hp → VK → Prop := fun xs H Q => ∃ (p a : Addr) (kvs : List (NestedKey × V)) (ns : List Int), xs = [.ref p] ∧ H p = some (viewO "dict_values" p a) ∧ DAt P w K H a kvs ∧ kvs.map (·.2) = ns.map V.int ∧ 0 < ns.length ∧ ∀ m, m ∈ ns → (∀ y, y ∈ ns → y ≤ m) → Q (.int m) H
def rMinN (P : Program) (w : World) (K : PySem.W.Frag) : List V → Hp → VK → Prop := fun xs H Q => ∃ (p a : Addr) (kvs : List (NestedKey × V)) (ns : List Int), xs = [.ref p] ∧ H p = some (viewO "dict_values" p a) ∧ DAt P w K H a kvs ∧ kvs.map (·.2) = ns.map V.int ∧ 0 < ns.length ∧ ∀ m, m ∈ ns → (∀ y, y ∈ ns → m ≤ y) → Q (.int m) H
def rSumN (P : Program) (w : World) (K : PySem.W.Frag) : List V → Hp → VK → Prop := fun xs H Q => ∃ (p a : Addr) (kvs : List (NestedKey × V)) (ns : List Int), xs = [.ref p] ∧ H p = some (viewO "dict_values" p a) ∧ DAt P w K H a kvs ∧ kvs.map (·.2) = ns.map V.int ∧ Q (.int ns.sum) H
theorem cr_maxN (K : PySem.W.Frag) (hc : X.calm = true) (hp : X.prog = P := by rfl) (hw : X.w = w := by rfl) (hk : X.K = K := by rfl) : CallR X (.builtin "max") (rMaxN P w K) := by
  subst hp hw hk
  intro pins s σ H xs us Q I rx h
  obtain ⟨p, a, kvs, ns, rfl, hpp, ⟨xs, e, hx, rfl⟩, hns, hne, q⟩ := h
  obtain ⟨u, rfl, ru⟩ := vals1 rx
  obtain rfl : u = Value.ref p := ru
  obtain ⟨h1, h2, ys, rel, o, es, ep, e1, e2, e3, e4, e5⟩ := (I.hok a _ e).1
  obtain ⟨hsz, hP⟩ := vals_ent e4 rel hns
  have hv : s.heap.get? p = some (DSub.viewOb "dict_values" a) := (show ObjOk X.prog X.w H s.heap p (viewO "dict_values" p a) from I.hok p _ hpp).1
  refine call_max_walk ?_
  refine DSub.iter_vals hv e1 e3 ?_
  have ha : a < s.heap.objs.size := Heap.lt_size e1
  refine ⟨s.heap.objs.size, [s.heap.objs.size, a], [s.heap.objs.size], es.size, fun i v => ∃ t, v = .int (ns.getD i 0) t, _, fun i j => decide (ns.getD i 0 > ns.getD j 0), rfl, DSub.walksVal (a := a) (show X.A.in1.handled = none from I.ok.hd hc) (Nat.ne_of_lt ha) e3 hP, ⟨Heap.get?_push_size _ rfl, Heap.get?_push_of_some _ e1⟩, fun b hb => ?_, by omega, CmpOf.ints_gt (fun i => ns.getD i 0) (fun i v z => z), fun v h' tk hv' hk => ?_⟩
  · show b < (s.heap.push _).objs.size
    rw [size_push']
    rcases List.mem_cons.mp hb with z | z
    · rw [z]
      exact Nat.lt_succ_self _
    · rw [List.mem_singleton.mp z]
      exact Nat.lt_succ_of_lt ha
  · obtain ⟨t, rfl⟩ := hv'
    obtain ⟨m1', m2'⟩ := argBest_gt (fun i => ns.getD i 0) (es.size - 1)
    have m1 : argBest (fun i j => decide (ns.getD i 0 > ns.getD j 0)) (es.size - 1) ≤ es.size - 1 := m1'
    have m2 : ∀ j, j ≤ es.size - 1 → ns.getD j 0 ≤ ns.getD (argBest (fun i j => decide (ns.getD i 0 > ns.getD j 0)) (es.size - 1)) 0 := m2'
    have hk2 : ∀ b o, s.heap.get? b = some o → h'.get? b = some o := fun b o e => hk b o (fun z => by rw [List.mem_singleton.mp z] at e; exact absurd (Heap.lt_size e) (Nat.lt_irrefl _)) (Heap.get?_push_of_some _ e)
    refine ⟨.int _, H, I.kept (t' := tk) hk2, ⟨t, rfl⟩, q _ (PySem.getD_mem (by omega)) fun y hy => ?_⟩
    obtain ⟨j, hj, e⟩ := List.mem_iff_getElem.mp hy
    have z := m2 j (by omega)
    have e3 : ns.getD j 0 = y := by rw [List.getD_eq_getElem?_getD, List.getElem?_eq_getElem hj, ← e] <;> rfl
    rw [e3] at z
    exact z
theorem cr_minN (K : PySem.W.Frag) (hc : X.calm = true) (hp : X.prog = P := by rfl) (hw : X.w = w := by rfl) (hk : X.K = K := by rfl) : CallR X (.builtin "min") (rMinN P w K) := by
  subst hp hw hk
  intro pins s σ H xs us Q I rx h
  obtain ⟨p, a, kvs, ns, rfl, hpp, ⟨xs, e, hx, rfl⟩, hns, hne, q⟩ := h
  obtain ⟨u, rfl, ru⟩ := vals1 rx
  obtain rfl : u = Value.ref p := ru
  obtain ⟨h1, h2, ys, rel, o, es, ep, e1, e2, e3, e4, e5⟩ := (I.hok a _ e).1
  obtain ⟨hsz, hP⟩ := vals_ent e4 rel hns
  have hv : s.heap.get? p = some (DSub.viewOb "dict_values" a) := (show ObjOk X.prog X.w H s.heap p (viewO "dict_values" p a) from I.hok p _ hpp).1
  refine call_min_walk ?_
  refine DSub.iter_vals hv e1 e3 ?_
  have ha : a < s.heap.objs.size := Heap.lt_size e1
  refine ⟨s.heap.objs.size, [s.heap.objs.size, a], [s.heap.objs.size], es.size, fun i v => ∃ t, v = .int (ns.getD i 0) t, _, fun i j => decide (ns.getD i 0 < ns.getD j 0), rfl, DSub.walksVal (a := a) (show X.A.in1.handled = none from I.ok.hd hc) (Nat.ne_of_lt ha) e3 hP, ⟨Heap.get?_push_size _ rfl, Heap.get?_push_of_some _ e1⟩, fun b hb => ?_, by omega, CmpOf.ints_lt (fun i => ns.getD i 0) (fun i v z => z), fun v h' tk hv' hk => ?_⟩
  · show b < (s.heap.push _).objs.size
    rw [size_push']
    rcases List.mem_cons.mp hb with z | z
    · rw [z]
      exact Nat.lt_succ_self _
    · rw [List.mem_singleton.mp z]
      exact Nat.lt_succ_of_lt ha
  · obtain ⟨t, rfl⟩ := hv'
    obtain ⟨m1', m2'⟩ := argBest_lt (fun i => ns.getD i 0) (es.size - 1)
    have m1 : argBest (fun i j => decide (ns.getD i 0 < ns.getD j 0)) (es.size - 1) ≤ es.size - 1 := m1'
    have m2 : ∀ j, j ≤ es.size - 1 → ns.getD (argBest (fun i j => decide (ns.getD i 0 < ns.getD j 0)) (es.size - 1)) 0 ≤ ns.getD j 0 := m2'
    have hk2 : ∀ b o, s.heap.get? b = some o → h'.get? b = some o := fun b o e => hk b o (fun z => by rw [List.mem_singleton.mp z] at e; exact absurd (Heap.lt_size e) (Nat.lt_irrefl _)) (Heap.get?_push_of_some _ e)
    refine ⟨.int _, H, I.kept (t' := tk) hk2, ⟨t, rfl⟩, q _ (PySem.getD_mem (by omega)) fun y hy => ?_⟩
    obtain ⟨j, hj, e⟩ := List.mem_iff_getElem.mp hy
    have z := m2 j (by omega)
    have e3 : ns.getD j 0 = y := by rw [List.getD_eq_getElem?_getD, List.getElem?_eq_getElem hj, ← e] <;> rfl
    rw [e3] at z
    exact z
theorem pre_sum : ∀ (ns : List Int), preSum (fun i => ns.getD i 0) ns.length = ns.sum
  | [] => rfl
  | n :: ns => by
    show preSum (fun i => (n :: ns).getD i 0) (ns.length + 1) = n + ns.sum
    rw [PySem.W.kdu_shift, ← pre_sum ns]
    rfl
theorem cr_sumN (K : PySem.W.Frag) (hc : X.calm = true) (hp : X.prog = P := by rfl) (hw : X.w = w := by rfl) (hk : X.K = K := by rfl) : CallR X (.builtin "sum") (rSumN P w K) := by
  subst hp hw hk
  intro pins s σ H xs us Q I rx h
  obtain ⟨p, a, kvs, ns, rfl, hpp, ⟨xs, e, hx, rfl⟩, hns, q⟩ := h
  obtain ⟨u, rfl, ru⟩ := vals1 rx
  obtain rfl : u = Value.ref p := ru
  obtain ⟨h1, h2, ys, rel, o, es, ep, e1, e2, e3, e4, e5⟩ := (I.hok a _ e).1
  obtain ⟨hsz, hP⟩ := vals_ent e4 rel hns
  have hv : s.heap.get? p = some (DSub.viewOb "dict_values" a) := (show ObjOk X.prog X.w H s.heap p (viewO "dict_values" p a) from I.hok p _ hpp).1
  refine call_sum_walkAnyS ?_
  refine DSub.iter_vals hv e1 e3 ?_
  have ha : a < s.heap.objs.size := Heap.lt_size e1
  refine ⟨s.heap.objs.size, [s.heap.objs.size, a], [s.heap.objs.size], _, es.size, fun i v => ∃ t, v = .int (ns.getD i 0) t, _, fun i => ns.getD i 0, rfl, (DSub.walksVal (a := a) (show X.A.in1.handled = none from I.ok.hd hc) (Nat.ne_of_lt ha) e3 hP).toS, ⟨Heap.get?_push_size _ rfl, Heap.get?_push_of_some _ e1⟩, fun b hb => ?_, fun i v z => z, fun s' t' hm => ?_⟩
  · show b < (s.heap.push _).objs.size
    rw [size_push']
    rcases List.mem_cons.mp hb with z | z
    · rw [z]
      exact Nat.lt_succ_self _
    · rw [List.mem_singleton.mp z]
      exact Nat.lt_succ_of_lt ha
  · have hk : ∀ b o, s.heap.get? b = some o → s'.heap.get? b = some o := fun b o e =>
      hm.heap b o (fun hI => absurd (Heap.lt_size e) (by rw [List.mem_singleton.mp hI]; exact Nat.lt_irrefl _)) (Heap.get?_push_of_some _ e)
    rw [Moved.eq_with hm]
    refine ⟨.int ns.sum, H, I.kept (h' := s'.heap) (t' := s'.toks) hk, ⟨t', ?_⟩, q⟩
    rw [hsz, pre_sum]
end
end Ef
set_option maxHeartbeats 4000000
namespace Ef
open PySem PySem.Spec PyProof.Rows L2
/-! ### what is counted -/
theorem valV_mem {κ : Type} [DecidableEq κ] : ∀ {kvs : List (κ × V)} {k : κ} {v : V}, (kvs.map (·.1)).Nodup → (k, v) ∈ kvs → valV kvs k = some v
  | [], _, _, _, h => absurd h List.not_mem_nil
  | p :: r, k, v, hn, h => by
    rw [List.map_cons] at hn
    obtain ⟨h1, h2⟩ := List.nodup_cons.mp hn
    by_cases e : p.1 = k
    · rw [valV_pos e]
      rcases List.mem_cons.mp h with z | z
      · rw [← z]
      · exact absurd (List.mem_map.mpr ⟨(k, v), z, rfl⟩) (by rw [← e]; exact h1)
    · rw [valV_neg e]
      rcases List.mem_cons.mp h with z | z
      · exact absurd (by rw [← z]) e
      · exact valV_mem h2 z
theorem valV_some {κ : Type} [DecidableEq κ] : ∀ {kvs : List (κ × V)} {k : κ}, (valV kvs k).isSome = true ↔ k ∈ kvs.map (·.1)
  | [], k => by
    constructor
    · intro h
      cases h
    · intro h
      exact absurd h List.not_mem_nil
  | p :: r, k => by
    rw [List.map_cons, List.mem_cons]
    by_cases e : p.1 = k
    · rw [valV_pos e]
      exact ⟨fun _ => .inl e.symm, fun _ => rfl⟩
    · rw [valV_neg e, valV_some (kvs := r)]
      exact ⟨.inr, fun h => h.resolve_left fun z => e z.symm⟩
theorem putK_keys {κ : Type} [DecidableEq κ] (kvs : List (κ × V)) (k : κ) (v : V) : (putK kvs k v).map (·.1) = if k ∈ kvs.map (·.1) then kvs.map (·.1) else kvs.map (·.1) ++ [k] := by
  unfold putK
  rw [valV_any]
  by_cases c : k ∈ kvs.map (·.1)
  · rw [if_pos c, if_pos (valV_some.mpr c), List.map_map]
    refine List.map_congr_left fun x _ => ?_
    show (if x.1 = k then (x.1, v) else x).1 = x.1
    by_cases e : x.1 = k
    · rw [if_pos e]
    · rw [if_neg e]
  · rw [if_neg c, if_neg (fun z => c (valV_some.mp z)), List.map_append]
    rfl
theorem tally_nodup : ∀ (n : Nat) (ks : List NestedKey), ks.length = n → ((tallyN ks).map (·.1)).Nodup
  | 0, ks, h => by
    rw [List.length_eq_zero_iff.mp h]
    exact List.nodup_nil
  | n + 1, ks, h => by
    obtain ⟨l, x, rfl⟩ : ∃ l x, ks = l ++ [x] := ⟨ks.dropLast, ks.getLast (fun e => by rw [e] at h; cases h), (List.dropLast_concat_getLast _).symm⟩
    have hl : l.length = n := by
      rw [List.length_append] at h
      have : [x].length = 1 := rfl
      omega
    have ih := tally_nodup n l hl
    rw [tally_snoc, putK_keys]
    split
    · exact ih
    · rename_i c
      refine List.nodup_append.mpr ⟨ih, List.nodup_cons.mpr ⟨List.not_mem_nil, List.nodup_nil⟩, fun a ha b hb e => ?_⟩
      rw [List.mem_singleton.mp hb] at e
      exact c (e ▸ ha)
theorem tally_keys (ks : List NestedKey) (k : NestedKey) : k ∈ (tallyN ks).map (·.1) ↔ k ∈ ks := by
  rw [← valV_some, tally_val _ _ rfl]
  by_cases c : ks.count k = 0
  · rw [if_pos c]
    constructor
    · intro h
      cases h
    · intro h
      exact absurd (List.count_pos_iff.mpr h) (by omega)
  · rw [if_neg c]
    exact ⟨fun _ => List.count_pos_iff.mp (by omega), fun _ => rfl⟩
/-- the pairs, by their keys -/
theorem tally_eq (ks : List NestedKey) : tallyN ks = ((tallyN ks).map (·.1)).map fun k => (k, V.int (ks.count k : Nat)) := by
  have hn := tally_nodup _ ks rfl
  have hv := tally_val _ ks rfl
  rw [List.map_map]
  conv => lhs; rw [← List.map_id (tallyN ks)]
  refine List.map_congr_left fun p hp => ?_
  have h1 := valV_mem (k := p.1) (v := p.2) hn hp
  rw [hv] at h1
  split at h1
  · cases h1
  · have h2 := Option.some.inj h1
    show p = (p.1, _)
    rw [h2]
theorem tally_snd (ks : List NestedKey) : (tallyN ks).map (·.2) = (((tallyN ks).map (·.1)).map fun k => ((ks.count k : Nat) : Int)).map V.int := by
  conv => lhs; rw [tally_eq ks]
  rw [List.map_map, List.map_map, List.map_map, List.map_map]
  rfl
theorem sum_oneG {α : Type} [DecidableEq α] {c : α} : ∀ {cs : List α}, cs.Nodup → c ∈ cs → (cs.map fun d => if c = d then 1 else 0).sum = 1
  | [], _, h => absurd h List.not_mem_nil
  | d :: cs, hn, h => by
    obtain ⟨h1, h2⟩ := List.nodup_cons.mp hn
    rw [List.map_cons, List.sum_cons]
    by_cases e : c = d
    · subst e
      have z : ∀ (l : List α), c ∉ l → (l.map fun d => if c = d then 1 else 0).sum = 0 := by
        intro l
        induction l with
        | nil => intro _; rfl
        | cons a l ih =>
          intro hh
          rw [List.map_cons, List.sum_cons, if_neg (fun z : c = a => hh (by rw [z]; exact List.mem_cons_self)), ih fun z => hh (List.mem_cons_of_mem _ z)]
      rw [if_pos rfl, z cs h1]
    · rw [if_neg e, sum_oneG h2 ((List.mem_cons.mp h).resolve_left e)]
theorem sum_addG {α : Type} (f g : α → Nat) : ∀ l : List α, (l.map fun x => f x + g x).sum = (l.map f).sum + (l.map g).sum
  | [] => rfl
  | a :: l => by
    rw [List.map_cons, List.sum_cons, List.map_cons, List.sum_cons, List.map_cons, List.sum_cons, sum_addG f g l]
    omega
theorem sum_countsG {α : Type} [DecidableEq α] {cs : List α} (hn : cs.Nodup) : ∀ {ks : List α}, (∀ k ∈ ks, k ∈ cs) → (cs.map fun c => ks.count c).sum = ks.length
  | [], _ => by
    have : ∀ l : List α, (l.map fun c => ([] : List α).count c).sum = 0 := by
      intro l
      induction l with
      | nil => rfl
      | cons a l ih => rw [List.map_cons, List.sum_cons, ih]; rfl
    exact this cs
  | k :: ks, h => by
    have e : (fun c => (k :: ks).count c) = fun c => ks.count c + if k = c then 1 else 0 := by
      funext c
      rw [List.count_cons]
      congr 1
      by_cases z : k = c
      · rw [if_pos z, if_pos (beq_iff_eq.mpr z)]
      · rw [if_neg z, if_neg (fun y => z (beq_iff_eq.mp y))]
    rw [e, sum_addG, sum_countsG hn fun x hx => h x (List.mem_cons_of_mem _ hx), sum_oneG hn (h k List.mem_cons_self)]
    rfl
theorem sum_ints {α : Type} (f : α → Nat) : ∀ l : List α, (l.map fun k => ((f k : Nat) : Int)).sum = (((l.map f).sum : Nat) : Int)
  | [] => rfl
  | a :: l => by rw [List.map_cons, List.sum_cons, List.map_cons, List.sum_cons, sum_ints f l, Int.natCast_add]
theorem tally_sum (ks : List NestedKey) : (((tallyN ks).map (·.1)).map fun k => ((ks.count k : Nat) : Int)).sum = (ks.length : Int) := by
  rw [sum_ints]
  exact congrArg Int.ofNat (sum_countsG (tally_nodup _ ks rfl) fun k hk => (tally_keys ks k).mpr hk)
/-! of keys that tell what they are made of -/
theorem map_countG {α : Type} [DecidableEq α] (f : α → NestedKey) (inj : ∀ a b, f a = f b → a = b) (ks : List α) (c : α) : (ks.map f).count (f c) = ks.count c := by
  induction ks with
  | nil => rfl
  | cons k r ih =>
    rw [List.map_cons, List.count_cons, List.count_cons, ih]
    congr 1
    by_cases e : k = c
    · rw [e, if_pos (beq_self_eq_true _), if_pos (beq_self_eq_true _)]
    · rw [if_neg (fun z => e (inj _ _ (beq_iff_eq.mp z))), if_neg (fun z => e (beq_iff_eq.mp z))]
theorem tally_getG {α : Type} [DecidableEq α] (f : α → NestedKey) (inj : ∀ a b, f a = f b → a = b) (ks : List α) (c : α) : (valV (tallyN (ks.map f)) (f c)).getD (.int 0) = .int (ks.count c : Nat) := by
  rw [tally_val _ _ rfl, map_countG f inj]
  by_cases e : ks.count c = 0
  · rw [if_pos e, e]
    rfl
  · rw [if_neg e]
    rfl
theorem tally_oneG {α : Type} [DecidableEq α] (f : α → NestedKey) (inj : ∀ a b, f a = f b → a = b) (ks : List α) (c : α) : putK (tallyN (ks.map f)) (f c) (.int ((ks.count c : Nat) + 1)) = tallyN ((ks ++ [c]).map f) := by
  rw [List.map_append]
  show _ = tallyN (ks.map f ++ [f c])
  rw [tally_snoc]
  congr 2
  congr 1
  rw [tally_val _ _ rfl, map_countG f inj]
  by_cases e : ks.count c = 0
  · rw [if_pos e, e]
    rfl
  · rw [if_neg e]
    rfl
theorem tally_lenG (ks : List NestedKey) : (tallyN ks).length ≤ ks.length := by
  unfold tallyN
  have g : ∀ (ks : List NestedKey) (acc : List (NestedKey × V)), (ks.foldl (fun acc k => putK acc k (.int (cntV (valV acc k) + 1))) acc).length ≤ acc.length + ks.length := by
    intro ks
    induction ks with
    | nil => intro acc; exact Nat.le_refl _
    | cons k r ih =>
      intro acc
      rw [List.foldl_cons]
      have h1 := ih (putK acc k (.int (cntV (valV acc k) + 1)))
      have h2 := length_putK acc k (.int (cntV (valV acc k) + 1))
      rw [List.length_cons]
      omega
  have := g ks []
  rw [List.length_nil] at this
  omega
end Ef
set_option maxHeartbeats 4000000
namespace Ef
open PySem PySem.Spec PyProof.Rows L2
/-! ### set(xs) of a list of any length, its different tuples few -/
/-- what stands when i items have been taken: the old objects, and a set of the keys so far -/
def SoFar (P : Program) (w : World) (h0 : Heap) (S : Addr) (ks : List (Addr × List Int)) (i : Nat) (h : Heap) : Prop :=
  (∀ b o, h0.get? b = some o → h.get? b = some o) ∧ ∃ L es ep t, SetTR P w h S L es ep t ∧ Got ks i L
section
variable {P : Program} {w : World} {A : Around} {E : Value → Shared → Prop} {s : Shared} {h0 : Heap} {S : Addr} {ks : List (Addr × List Int)}
theorem SoFar.moved {i : Nat} {h h' : Heap} (hk : ∀ p ∈ ks, IsT P w h0 p.2 p.1) (x : SoFar P w h0 S ks i h) (old : ∀ b o, h0.get? b = some o → h'.get? b = some o) (same : ∀ o, h.get? S = some o → h'.get? S = some o) : SoFar P w h0 S ks i h' := by
  obtain ⟨_, L, es, ep, t, R, g⟩ := x
  exact ⟨old, L, es, ep, t, R.keep same fun p hp => isT_keep (hk p (List.mem_of_mem_take (g.sub p hp))) old, g⟩
/-- few different keys -/
theorem few_keys {ds : List (List Int)} (hds : ∀ p ∈ ks, p.2 ∈ ds) {i : Nat} {h : Heap} {L : List (Addr × List Int)} {es : Array (Int × Value)} {ep : Nat} {t : SetTable} (R : SetTR P w h S L es ep t) (g : Got ks i L) : L.length ≤ ds.length := by
  have h2 := subG_len (ks := L.map (·.2)) (ns := ds) R.nd fun k hk => by
    obtain ⟨p, hp, rfl⟩ := List.mem_map.mp hk
    exact hds p (List.mem_of_mem_take (g.sub p hp))
  rwa [List.length_map] at h2
/-- one more item -/
theorem add_few {ds : List (List Int)} (hds : ∀ p ∈ ks, p.2 ∈ ds) (hd : ds.length < 63) (hk : ∀ p ∈ ks, IsT P w h0 p.2 p.1) (hS0 : h0.get? S = none) (hu : A.units < cLine) {i : Nat} {p : Addr × List Int} (hp : ks[i]? = some p) (x : SoFar P w h0 S ks i s.heap) {Q : Bool → Shared → Prop}
    (hQ : ∀ b h', Heap.SameBut S s.heap h' → SoFar P w h0 S ks (i + 1) h' → Q b { s with heap := h', toks := s.toks + (p.2.length + 1) }) : wpAny (model P w) A (setAdd S (.ref p.1)) Q E s := by
  obtain ⟨old, L, es, ep, t, R, g⟩ := x
  have ht : IsT P w s.heap p.2 p.1 := isT_keep (hk p (List.mem_of_getElem? hp)) old
  have fl := few_keys hds R g
  unfold setAdd
  refine wpAny_holding (wpAny_bind (wpAny_pyHash_tuple hu ht ?_))
  refine add_at (s := { s with toks := s.toks + (p.2.length + 1) }) R ht hu (by omega) fun b h' L' es' ep' t' sb R' c1 c2 => hQ b h' sb ⟨fun b o e => ?_, L', es', ep', t', R', ?_⟩
  · exact (sb.2 b fun z => by rw [z, hS0] at e; cases e).trans (old b o e)
  · by_cases c : p.2 ∈ L.map (·.2)
    · rw [c1 c]
      exact g.same hp c
    · exact g.more hp (c2 c)
/-- the loop takes them all -/
theorem loop_few {I : Addr} {fp wr : List Addr} {G : Array GenState → Array GenState → Prop} {n : Nat} {Pv : Nat → Value → Prop} {St : Nat → Shared → Prop} {R : Result → Shared → Prop} (W : WalksS P w A.in1 I fp wr G n Pv St) (hS : S ∉ fp) (hw0 : ∀ b ∈ wr, h0.get? b = none) (hu : A.in1.units < cLine)
    {ds : List (List Int)} (hds : ∀ p ∈ ks, p.2 ∈ ds) (hd : ds.length < 63) (hk : ∀ p ∈ ks, IsT P w h0 p.2 p.1) (hS0 : h0.get? S = none) (hn : ks.length = n) (hv : ∀ i v, Pv i v → ∃ p, ks[i]? = some p ∧ v = .ref p.1) :
    ∀ (left i : Nat) (s : Shared), i + left = n → St i s → SoFar P w h0 S ks i s.heap → (∀ s', Moved (S :: wr) G s s' → SoFar P w h0 S ks n s'.heap → R (.ok (.ret .none)) s') → codeAny (model P w) A (.builtin "set.update.loop" ⟨[.ref S, .ref I], []⟩) R s := by
  have hSw : S ∉ wr := fun z => hS (W.sub _ z)
  have inS : ∀ b ∈ wr, b ∈ S :: wr := fun b hb => List.mem_cons_of_mem _ hb
  have go : ∀ {i : Nat} {s s' : Shared}, Moved wr G s s' → SoFar P w h0 S ks i s.heap → SoFar P w h0 S ks i s'.heap := fun m x =>
    x.moved hk (fun b o e => m.heap b o (fun z => by rw [hw0 b z] at e; cases e) (x.1 b o e)) fun o e => m.heap S o hSw e
  intro left
  induction left with
  | zero =>
    intro i s hi st x hR
    obtain rfl : i = n := by omega
    refine codeAny_builtin F.entry_set_update_loop ?_
    rw [Around.under_plainId F.plain_set_update_loop _]
    show wpAny _ A.in1 (pyNext (.ref I) >>= _) _ _ s
    refine wpAny_bind (W.done s _ _ st fun s' m => ?_)
    show wpAny _ A.in1 (ret Value.none) _ _ s'
    exact wpAny_pure (hR s' (m.mono inS) (go m x))
  | succ left ih =>
    intro i s hi st x hR
    refine codeAny_builtin F.entry_set_update_loop ?_
    rw [Around.under_plainId F.plain_set_update_loop _]
    show wpAny _ A.in1 (pyNext (.ref I) >>= _) _ _ s
    refine wpAny_bind (W.item i s _ _ (by omega) st fun v s' pv st' m => ?_)
    obtain ⟨p, hp, rfl⟩ := hv i v pv
    show wpAny _ A.in1 (holding [Value.ref p.1] (setAdd S (.ref p.1)) >>= _) _ _ s'
    refine wpAny_bind (wpAny_holding (add_few hds hd hk hS0 hu hp (go m x) fun b h' sb y => ?_))
    have frame : ∀ b o, b ≠ S → s'.heap.get? b = some o → h'.get? b = some o := fun b o nb e => (sb.2 b nb).trans e
    refine wpAny_pure ⟨plainId_quiet F.plain_set_update_loop _, ih (i + 1) _ (by omega) (W.frame _ s' _ _ st' (Nat.le_add_right _ _) fun b hb o e => frame b o (fun z => hS (by rw [← z]; exact hb)) e) y fun s2 m2 y2 => hR s2 ?_ y2⟩
    exact Moved.trans W.gtrans ((m.mono inS).then_heap (Nat.le_add_right _ _) fun b o hb e => frame b o (fun z => hb (by rw [z]; exact List.mem_cons_self)) e) m2
/-- the empty set that is laid first -/
abbrev newSetO (w : World) : Obj := { cls := .type "set", dict := none, data := .set #[] 0 (.fresh 0 0 (!w.params.followText "set-order")) }
theorem free_from (b : Addr) (hb : s.heap.objs.size ≤ b) : s.heap.get? b = none := by
  cases q : s.heap.get? b with
  | none => rfl
  | some o => exact absurd (Nat.lt_of_lt_of_le (Heap.lt_size q) hb) (Nat.lt_irrefl _)
/-- set.__init__ of the new set -/
theorem init_few {l : Addr} {items : Array Value} {ds : List (List Int)} (hds : ∀ p ∈ ks, p.2 ∈ ds) (hd : ds.length < 63) (hh : A.handled = none) (hl : s.heap.IsList l items) (hit : items.toList = ks.map fun p => Value.ref p.1) (hk : ∀ p ∈ ks, IsT P w s.heap p.2 p.1) (hu : A.in1.in1.units < cLine) {Q : Fin → Shared → Prop}
    (h : ∀ (h' : Heap) (tk : Nat), SoFar P w s.heap s.heap.objs.size ks ks.length h' → Q (.done (.ret .none)) { s with heap := h', toks := tk }) :
    wpAny (model P w) A.in1 (Builtin.«set.__init__» ⟨[.ref s.heap.objs.size, .ref l], []⟩) Q E { s with heap := s.heap.push (newSetO w) } := by
  have hS : (s.heap.push (newSetO w)).get? s.heap.objs.size = some (newSetO w) := Heap.get?_push_size _ rfl
  have hT : Shared.TypeIs { s with heap := s.heap.push (newSetO w) } (.ref s.heap.objs.size) "set" := ⟨_, hS, rfl⟩
  obtain ⟨ol, hol, hcl, nl, hdl⟩ := hl
  obtain ⟨ocls, odict, odata, oslots⟩ := ol
  simp only at hcl hdl
  subst hcl hdl
  have hol' := Heap.get?_push_of_some (newSetO w) hol
  have hlT : Shared.TypeIs { s with heap := s.heap.push (newSetO w) } (.ref l) "list" := ⟨_, hol', rfl⟩
  have hsls := F.sub_list_set
  have hslf := F.sub_list_frozenset
  have hne : (Value.type "list" == Value.type "dict") = false := by decide
  have hl1 : (s.heap.push (newSetO w)).IsList l items := ⟨_, hol', rfl, nl, rfl⟩
  unfold Builtin.«set.__init__» noKeywords Builtin.Frozenset.updateFrom
  generalize hPI : pyIter = PI
  wp_walk
  subst hPI
  refine wpAny_pyIter_list hl1 ?_
  refine wpAny_bind (wpAny_runValue ?_)
  have hlS : l < s.heap.objs.size := Heap.lt_size hol
  have sz : (s.heap.push (newSetO w)).objs.size = s.heap.objs.size + 1 := Heap.size_push ..
  have hneI : l ≠ (s.heap.push (newSetO w)).objs.size := by
    rw [sz]
    exact Nat.ne_of_lt (Nat.lt_succ_of_lt hlS)
  have hSf : s.heap.objs.size ∉ [(s.heap.push (newSetO w)).objs.size, l] := by
    rw [sz]
    simp only [List.mem_cons, List.not_mem_nil, or_false, not_or]
    exact ⟨Nat.ne_of_lt (Nat.lt_succ_self _), Nat.ne_of_gt hlS⟩
  have lk : ks.length = items.size := by
    have e := congrArg List.length hit
    rwa [Array.length_toList, List.length_map, eq_comm] at e
  have hv : ∀ (i : Nat) (v : Value), items[i]? = some v → ∃ p, ks[i]? = some p ∧ v = .ref p.1 := fun i v e => by
    have e2 : items.toList[i]? = some v := by rw [Array.getElem?_toList]; exact e
    rw [hit, List.getElem?_map] at e2
    obtain ⟨p, e3, e4⟩ := Option.map_eq_some_iff.mp e2
    exact ⟨p, e3, e4.symm⟩
  refine loop_few ((Walks.list (by simp [hh]) _ l hneI items).toS) hSf (fun b hb => free_from b ?_) hu hds hd hk (free_from _ (Nat.le_refl _)) lk hv items.size 0 _ (Nat.zero_add _) ⟨⟨_, Heap.get?_push_size _ rfl, rfl, rfl⟩, hl1.push _⟩ ⟨fun b o e => Heap.get?_push_of_some _ (Heap.get?_push_of_some _ e), [], #[], 0, _, setTR_fresh (Heap.get?_push_of_some _ hS), Got.zero ks⟩ fun s' m y => ?_
  · rw [List.mem_singleton.mp hb, sz]
    exact Nat.le_succ _
  · obtain ⟨h', g2, d', tk', os'⟩ := s'
    obtain rfl : g2 = s.gens := m.gens
    obtain rfl : d' = s.drawn := m.drawn
    obtain rfl : os' = s.os := m.os
    rw [← lk] at y
    refine wpAny_pure (wpAny_pure ?_)
    exact h h' tk' y
set_option maxHeartbeats 6400000 in
/-- set(xs) -/
theorem call_few {l : Addr} {items : Array Value} {ds : List (List Int)} {Q : Value → Shared → Prop} (hds : ∀ p ∈ ks, p.2 ∈ ds) (hd : ds.length < 63) (hh : A.handled = none) (hl : s.heap.IsList l items) (hit : items.toList = ks.map fun p => Value.ref p.1) (hk : ∀ p ∈ ks, IsT P w s.heap p.2 p.1) (hu : A.units + 4 < cLine)
    (h : ∀ (h' : Heap) (tk : Nat), SoFar P w s.heap s.heap.objs.size ks ks.length h' → Q (.ref s.heap.objs.size) { s with heap := h', toks := tk }) : wpAny (model P w) A (call (.type "set") [.ref l]) Q E s := by
  obtain ⟨c, tl, hmro⟩ := F.called_set.mro
  have hmade := F.called_set.made
  have hsub := F.called_set.sub
  have h1 := F.called_set.notType
  have h2 := F.called_set.canCreate
  have hct := F.typeCall_set_1 (.ref l)
  refine wpAny_call (codeAny_of_tree ?_)
  show wpAny _ _ (callAny (.type "set") _) _ _ _
  refine wpAny_pure ⟨Code.quiet_builtin _ (by decide +kernel), codeAny_builtin F.entry_type_call ?_⟩
  rw [Around.under_plain (weight_type_call_type "set" [.ref l] []) rfl]
  repeat (any_goals (first | assumption | wp_step))
  refine codeAny_mono (code_set_led1 (.ref l) (E := E) (Q₁ := fun obj s₁ => obj = .ref s.heap.objs.size ∧ s₁ = { s with heap := s.heap.push (newSetO w) }) ⟨rfl, rfl⟩) fun r s₁ hr => ?_
  match r, hr with
  | .error e, hr => exact hr
  | .ok (.ret obj), hr =>
    obtain ⟨rfl, rfl⟩ := hr
    have hS : (s.heap.push (newSetO w)).get? s.heap.objs.size = some (newSetO w) := Heap.get?_push_size _ rfl
    have hT : Shared.TypeIs { s with heap := s.heap.push (newSetO w) } (.ref s.heap.objs.size) "set" := ⟨_, hS, rfl⟩
    have hli := F.called_set.init.lookup
    have hbi := F.called_set.init.bind (.ref s.heap.objs.size)
    repeat (any_goals (first | assumption | wp_step))
    refine codeAny_mono (codeAny_call_builtin (R := wants (fun r s₂ => r = .none ∧ ∃ h' tk, s₂ = { s with heap := h', toks := tk } ∧ SoFar P w s.heap s.heap.objs.size ks ks.length h') E) F.called_set.init.plain F.entry_set_init (check_set_init_1 hT ?_)) fun r₂ s₂ hr₂ => ?_
    · exact init_few hds hd (by simp [hh]) hl hit hk (by simp; omega) fun h' tk y => ⟨rfl, h', tk, rfl, y⟩
    · match r₂, hr₂ with
      | .error e, hr₂ => exact hr₂
      | .ok (.ret r), hr₂ =>
        obtain ⟨rfl, h', tk, rfl, y⟩ := hr₂
        repeat (any_goals (first | assumption | wp_step))
        exact h h' tk y
end
/-- set(xs), xs a list of tuples of ints, the different ones fewer than 63 -/
def rSetFew (K : PySem.W.Frag) (P : Program) (w : World) : List V → Hp → VK → Prop := fun xs H Q => ∃ (l : Addr) (ks : List (Addr × List Int)) (ds : List (List Int)), xs = [V.ref l] ∧ SqL K H l (ks.map fun p => V.ref p.1) ∧ (∀ p ∈ ks, SqT K H p.1 (p.2.map V.int)) ∧ (∀ p ∈ ks, p.2 ∈ ds) ∧ ds.length < 63 ∧
  ∀ a L, H a = none → (∀ p ∈ L, p ∈ ks) → (∀ p ∈ ks, p.2 ∈ L.map (·.2)) → Q (.ref a) (upd H a (SetTO P w a L))
section
variable {X : Cx} {P : Program} {w : World}
theorem cr_setFew (K : PySem.W.Frag) (hc : X.calm = true) (hu : X.A.units + 64 < cLine) (hk : X.K = K := by rfl) (hp : X.prog = P := by rfl) (hw : X.w = w := by rfl) : CallR X (.type "set") (rSetFew K P w) := by
  subst hk hp hw
  intro pins s σ H xs us Q I r h
  obtain ⟨l, ks, ds, rfl, hl, hk, hds, hd, q⟩ := h
  rw [Vals.ref1 r]
  obtain ⟨its, rv, pl, hz⟩ := I.list hl
  have hn : H s.heap.objs.size = none := I.hok.fresh (Nat.le_refl _)
  refine call_few (P := X.prog) (w := X.w) (ks := ks) hds hd (I.ok.hd hc) pl.isList (by simpa using refs_of_vals rv) (fun p hp => I.isT (hk p hp)) (by omega) fun h' tk y => ?_
  obtain ⟨old, L, es, ep, t, R, g⟩ := y
  refine ⟨.ref s.heap.objs.size, _, I.laid (t' := tk) old (Nat.le_refl _) (setTO_new R.t0), rfl, q _ L hn (fun p hp => ?_) fun p hp => ?_⟩
  · exact List.mem_of_mem_take (g.sub p hp)
  · exact g.all p (by rw [List.take_length]; exact hp)
end
end Ef
namespace Ef
/-! ### levels that are equal, and what follows for the live servers -/
def edgE (s : Nat) (r : List Nat) : List Nat × Nat := (srt (r.take s), r.getD s 0)
def cE (es : List (List Nat × Nat)) (e : List Nat × Nat) : Nat := es.countP fun a => decide (a = e)
theorem cE_app (a b : List (List Nat × Nat)) (e : List Nat × Nat) : cE (a ++ b) e = cE a e + cE b e := List.countP_append
theorem cE_perm {a b : List (List Nat × Nat)} (h : a.Perm b) (e : List Nat × Nat) : cE a e = cE b e := h.countP_eq _
theorem cE_map {α : Type} (f : α → List Nat × Nat) (e : List Nat × Nat) (l : List α) : cE (l.map f) e = l.countP fun a => decide (f a = e) := by
  unfold cE
  rw [List.countP_map]
  rfl
/-- all level numbers of the level are w -/
def Lev (n s w : Nat) (rows : List (List Nat)) : Prop := ∀ e ∈ allE n s, cE (rows.map (edgE s)) e = w
/-- rows of a table -/
def Tab (n d : Nat) (rows : List (List Nat)) : Prop := ∀ r ∈ rows, r.length = d ∧ r.Nodup ∧ ∀ x ∈ r, x < n
theorem srt_eq {a b : List Nat} (h : a.Perm b) : srt a = srt b := srt_of ((srt_perm a).trans h) (srt_le a)
theorem srt_self {a : List Nat} (h : Asc a) : srt a = a := (srt_of (List.Perm.refl a) (h.imp fun z => Nat.le_of_lt z)).symm
theorem perm_of_srt {a b : List Nat} (h : srt a = srt b) : a.Perm b := (srt_perm a).symm.trans (h ▸ srt_perm b)
theorem edgE_mem {n d s : Nat} {rows : List (List Nat)} (G : Tab n d rows) (hs : s < d) : ∀ e ∈ rows.map (edgE s), e ∈ allE n s := fun e he => by
  obtain ⟨r, hr, rfl⟩ := List.mem_map.mp he
  obtain ⟨h1, h2, h3⟩ := G r hr
  have pm := srt_perm (r.take s)
  have hlt : s < r.length := by omega
  have hx : r.getD s 0 = r[s] := by
    rw [List.getD_eq_getElem?_getD, List.getElem?_eq_getElem hlt]
    rfl
  have nd : (r.take s).Nodup := h2.sublist (List.take_sublist _ _)
  refine allE_mem ?_ ?_ (srt_asc nd) fun y hy => ?_
  · rw [hx]
    exact h3 _ (List.getElem_mem _)
  · rw [pm.length_eq, List.length_take]
    omega
  · have hy2 := pm.mem_iff.mp hy
    refine ⟨h3 y (List.mem_of_mem_take hy2), fun e => ?_⟩
    obtain ⟨i, hi⟩ := List.getElem?_of_mem hy2
    rw [List.getElem?_take] at hi
    split at hi
    · rename_i hlt2
      have h4 : r[s]? = some y := by
        rw [List.getElem?_eq_getElem hlt, e, hx]
      have := (List.getElem?_inj (show i < r.length by omega) h2).mp (hi.trans h4.symm)
      omega
    · cases hi
theorem allE_nodup (n s : Nat) : (allE n s).Nodup := by
  unfold allE
  have key : ∀ l : List Nat, l.Nodup → (l.flatMap fun x => (combs (without n x) s).map fun c => (c, x)).Nodup := by
    intro l
    induction l with
    | nil => intro _; exact List.nodup_nil
    | cons x l ih =>
      intro h
      obtain ⟨h1, h2⟩ := List.nodup_cons.mp h
      rw [List.flatMap_cons]
      refine List.nodup_append.mpr ⟨List.Pairwise.map _ (fun a b hab z => hab (congrArg Prod.fst z)) (combsNodup _ _ (asc_nodup (without_asc n x))), ih h2, fun a ha b hb e => ?_⟩
      obtain ⟨c, _, rfl⟩ := List.mem_map.mp ha
      obtain ⟨y, hy, hb⟩ := List.mem_flatMap.mp hb
      obtain ⟨c', _, rfl⟩ := List.mem_map.mp hb
      have : x = y := congrArg Prod.snd e
      exact h1 (this ▸ hy)
  exact key _ List.nodup_range
theorem sum_one' {α : Type} [DecidableEq α] {c : α} : ∀ {cs : List α}, cs.Nodup → c ∈ cs → (cs.map fun d => if c = d then 1 else 0).sum = 1
  | [], _, h => absurd h List.not_mem_nil
  | d :: cs, hn, h => by
    obtain ⟨h1, h2⟩ := List.nodup_cons.mp hn
    rw [List.map_cons, List.sum_cons]
    by_cases e : c = d
    · subst e
      have z : ∀ (l : List α), c ∉ l → (l.map fun d => if c = d then 1 else 0).sum = 0 := by
        intro l
        induction l with
        | nil => intro _; rfl
        | cons a l ih =>
          intro hh
          rw [List.map_cons, List.sum_cons, if_neg (fun z : c = a => hh (by rw [z]; exact List.mem_cons_self)), ih fun z => hh (List.mem_cons_of_mem _ z)]
      rw [if_pos rfl, z cs h1]
    · rw [if_neg e, sum_one' h2 ((List.mem_cons.mp h).resolve_left e)]
theorem sum_add' {α : Type} (f g : α → Nat) : ∀ l : List α, (l.map fun x => f x + g x).sum = (l.map f).sum + (l.map g).sum
  | [] => rfl
  | a :: l => by
    rw [List.map_cons, List.sum_cons, List.map_cons, List.sum_cons, List.map_cons, List.sum_cons, sum_add' f g l]
    omega
theorem sum_zero' {α : Type} {f : α → Nat} : ∀ {l : List α}, (∀ a ∈ l, f a = 0) → (l.map f).sum = 0
  | [], _ => rfl
  | a :: l, h => by rw [List.map_cons, List.sum_cons, h a List.mem_cons_self, sum_zero' fun b hb => h b (List.mem_cons_of_mem _ hb)]
theorem sum_congr' {α : Type} {f g : α → Nat} {l : List α} (h : ∀ a ∈ l, f a = g a) : (l.map f).sum = (l.map g).sum := by rw [List.map_congr_left h]
theorem sum_cE {cs : List (List Nat × Nat)} (hn : cs.Nodup) : ∀ {ks : List (List Nat × Nat)}, (∀ k ∈ ks, k ∈ cs) → (cs.map fun c => cE ks c).sum = ks.length
  | [], _ => sum_zero' fun _ _ => rfl
  | k :: ks, h => by
    have e : (fun c => cE (k :: ks) c) = fun c => cE ks c + if k = c then 1 else 0 := by
      funext c
      unfold cE
      rw [List.countP_cons]
      congr 1
      by_cases z : k = c
      · rw [if_pos z, if_pos (decide_eq_true z)]
      · rw [if_neg z, if_neg (fun y => z (of_decide_eq_true y))]
    rw [e, sum_add', sum_cE hn fun x hx => h x (List.mem_cons_of_mem _ hx), sum_one' hn (h k List.mem_cons_self)]
    rfl
theorem all_tight {α : Type} {f : α → Nat} {w : Nat} : ∀ {l : List α}, (∀ a ∈ l, w ≤ f a) → (l.map f).sum = l.length * w → ∀ a ∈ l, f a = w
  | [], _, _, a, ha => absurd ha List.not_mem_nil
  | b :: l, h1, h2, a, ha => by
    have hb := h1 b List.mem_cons_self
    have ge : ∀ l : List α, (∀ a ∈ l, w ≤ f a) → l.length * w ≤ (l.map f).sum := by
      intro l
      induction l with
      | nil => intro _; simp
      | cons c l ih =>
        intro h
        rw [List.map_cons, List.sum_cons, List.length_cons, Nat.succ_mul]
        have := ih fun x hx => h x (List.mem_cons_of_mem _ hx)
        have := h c List.mem_cons_self
        omega
    have hl := ge l fun x hx => h1 x (List.mem_cons_of_mem _ hx)
    rw [List.map_cons, List.sum_cons, List.length_cons, Nat.succ_mul] at h2
    rcases List.mem_cons.mp ha with rfl | ha
    · omega
    · exact all_tight (fun x hx => h1 x (List.mem_cons_of_mem _ hx)) (by omega) a ha
/-- the level's number is what it must be -/
theorem Lev.eq {n d s w : Nat} {rows : List (List Nat)} (G : Tab n d rows) (hs : s < d) (h : Lev n s w rows) : n * C (n - 1) s * w = rows.length := by
  have h1 := sum_cE (allE_nodup n s) (edgE_mem G hs)
  rw [List.length_map, sum_congr' (g := fun _ => w) fun e he => h e he] at h1
  rw [← h1, ← allE_len, List.map_const', List.sum_replicate_nat]
/-! the standard tables -/
theorem path_edge {n c d k s : Nat} (hs : s < d) : edgE s (path n d c k).1 = (srt (path n s c k).1, (folL n c (List.range' 0 s) (List.range' 0 n) k).getD ((path n s c k).2 / wd n c s) 0) := by
  unfold edgE path
  have h1 : d = s + (d - s) := by omega
  have e1 := fol_take n c k s (d - s)
  have e2 := fol_take n c k (s + 1) (d - (s + 1))
  rw [← h1] at e1
  rw [show s + 1 + (d - (s + 1)) = d by omega, range'_end, fol_snoc] at e2
  rw [e1]
  congr 1
  have l := fol_len n c (List.range' 0 s) (List.range' 0 n) k
  rw [List.length_range'] at l
  have e3 : (fol n c (List.range' 0 d) (List.range' 0 n) k).1[s]? = some ((folL n c (List.range' 0 s) (List.range' 0 n) k).getD ((fol n c (List.range' 0 s) (List.range' 0 n) k).2 / wd n c s) 0) := by
    have e4 : ((fol n c (List.range' 0 d) (List.range' 0 n) k).1.take (s + 1))[s]? = (fol n c (List.range' 0 d) (List.range' 0 n) k).1[s]? := by
      rw [List.getElem?_take, if_pos (by omega)]
    rw [← e4, e2]
    show (_ ++ [_])[s]? = _
    rw [List.getElem?_append_right (by omega), l, Nat.sub_self]
    rfl
  rw [List.getD_eq_getElem?_getD, e3]
  rfl
theorem std_lev {n d c : Nat} (st : Std n d c) {s : Nat} (hs : s < d) : Lev n s (wd n c s) ((List.range c).map fun k => (path n d c k).1) := by
  have dv := st.dvd s hs
  have w0 := wd_pos dv st.c0
  have dn := st.dn
  have G : Tab n d ((List.range c).map fun k => (path n d c k).1) := fun r hr => by
    obtain ⟨k, hk, rfl⟩ := List.mem_map.mp hr
    exact ⟨path_len n d c k, path_nodup st (List.mem_range.mp hk), path_lt st (List.mem_range.mp hk)⟩
  refine all_tight (f := fun e => cE (((List.range c).map fun k => (path n d c k).1).map (edgE s)) e) (fun e he => ?_) ?_
  · -- at least so many
    obtain ⟨x, hx, he⟩ := List.mem_flatMap.mp he
    obtain ⟨S, hS, rfl⟩ := List.mem_map.mp he
    obtain ⟨g1, g2⟩ := combs_good _ _ _ hS
    have ascS : Asc S := (without_asc n x).sublist g2
    have memS : ∀ y ∈ S, y < n ∧ y ≠ x := fun y hy => by
      have := List.mem_filter.mp (g2.subset hy)
      exact ⟨List.mem_range.mp this.1, by simpa using this.2⟩
    have hxn := List.mem_range.mp hx
    -- the servers outside
    have hL0 : Compl n S ((List.range' 0 n).filter fun y => !decide (y ∈ S)) := ⟨ascS, (asc_range' n 0).filter _, fun y hy => (memS y hy).1, fun y => by
      rw [List.mem_filter, mem_range0]
      simp⟩
    have hxL : x ∈ (List.range' 0 n).filter fun y => !decide (y ∈ S) := (hL0.mem x).mpr ⟨hxn, fun z => (memS x z).2 rfl⟩
    obtain ⟨i, hi⟩ := List.getElem?_of_mem hxL
    have lenL : ((List.range' 0 n).filter fun y => !decide (y ∈ S)).length = n - s := by
      have p : (S ++ (List.range' 0 n).filter fun y => !decide (y ∈ S)).Perm (List.range' 0 n) := by
        refine (List.perm_ext_iff_of_nodup ?_ (asc_nodup (asc_range' n 0))).mpr fun y => ?_
        · refine List.nodup_append.mpr ⟨asc_nodup ascS, (asc_nodup (asc_range' n 0)).filter _, fun a ha b hb e => ?_⟩
          subst e
          exact ((hL0.mem a).mp hb).2 ha
        · rw [List.mem_append, hL0.mem, mem_range0]
          constructor
          · rintro (h | h)
            · exact (memS y h).1
            · exact h.1
          · intro h
            by_cases c : y ∈ S
            · exact .inl c
            · exact .inr ⟨h, c⟩
      have := p.length_eq
      rw [List.length_append, List.length_range', g1] at this
      omega
    have hi2 : i < n - s := by
      rw [← lenL]
      exact (List.getElem?_eq_some_iff.mp hi).1
    have wo : c / C n s = wd n c s * (n - s) := by
      have e := wd_out dv (show s < n by omega)
      have p := C_pos n s (by omega)
      conv => lhs; rw [← e]
      exact Nat.mul_div_cancel _ p
    rw [List.map_map, cE_map, List.countP_eq_length_filter]
    have hd : ∀ k, k < s → n * C (n - 1) k ∣ c := fun k hk => st.dvd k (by omega)
    have hpl : ∀ r, r < wd n c s → Place n c s S (wd n c s * i + r) := fun r hr => ⟨ascS, fun y hy => (memS y hy).1, g1, by
      rw [wo]
      have : wd n c s * (i + 1) ≤ wd n c s * (n - s) := Nat.mul_le_mul_left _ (by omega)
      rw [Nat.mul_add, Nat.mul_one] at this
      omega⟩
    have hlen : ((List.range (wd n c s)).map fun r => (fol n c (List.range' 0 s).reverse S (wd n c s * i + r)).2).length = wd n c s := by
      rw [List.length_map, List.length_range]
    rw [← hlen]
    refine subG_len ?_ fun k hk => ?_
    · rw [List.nodup_iff_pairwise_ne]
      refine List.pairwise_map.mpr ?_
      refine List.Pairwise.imp_of_mem (R := fun a b => a ≠ b) (fun {a b} ha hb hab e => hab ?_) (List.nodup_iff_pairwise_ne.mp List.nodup_range)
      have h1 := (back_fwd st.c0 s S _ (by omega) hd (hpl a (List.mem_range.mp ha))).2.2.1
      have h2 := (back_fwd st.c0 s S _ (by omega) hd (hpl b (List.mem_range.mp hb))).2.2.1
      rw [e] at h1
      rw [h1] at h2
      omega
    · obtain ⟨r, hr, rfl⟩ := List.mem_map.mp hk
      have hr2 := List.mem_range.mp hr
      obtain ⟨b1, b2, b3, b4⟩ := back_fwd st.c0 s S _ (by omega) hd (hpl r hr2)
      refine List.mem_filter.mpr ⟨List.mem_range.mpr b1, decide_eq_true ?_⟩
      show edgE s (path n d c _).1 = _
      rw [path_edge hs]
      unfold path
      rw [b3]
      have ed : (wd n c s * i + r) / wd n c s = i := by
        rw [Nat.mul_add_div w0, Nat.div_eq_of_lt hr2, Nat.add_zero]
      rw [ed, ← b4.free, List.getD_eq_getElem?_getD, hi]
      congr 1
      exact (srt_eq b2).trans (srt_self ascS)
  · rw [sum_cE (allE_nodup n s) (edgE_mem G hs), List.length_map, List.length_map, List.length_range, allE_len, Nat.mul_comm]
    exact (wd_eq dv).symm
end Ef
namespace Ef
/-! ### equal levels share the lists evenly among the live servers -/
def lvL (L r : List Nat) : List Nat := r.filter fun x => decide (x ∈ L)
def ddL (L r : List Nat) : List Nat := r.filter fun x => !decide (x ∈ L)
theorem lvL_app (L a b : List Nat) : lvL L (a ++ b) = lvL L a ++ lvL L b := List.filter_append ..
theorem lvL_perm {L a b : List Nat} (h : a.Perm b) : (lvL L a).Perm (lvL L b) := h.filter _
theorem ddL_perm {L a b : List Nat} (h : a.Perm b) : (ddL L a).Perm (ddL L b) := h.filter _
theorem lv_dd (L : List Nat) : ∀ r : List Nat, (lvL L r ++ ddL L r).Perm r
  | [] => List.Perm.refl _
  | x :: r => by
    unfold lvL ddL
    by_cases c : x ∈ L
    · rw [List.filter_cons_of_pos (by simpa using c), List.filter_cons_of_neg (by simpa using c)]
      exact (lv_dd L r).cons x
    · rw [List.filter_cons_of_neg (by simpa using c), List.filter_cons_of_pos (by simpa using c)]
      exact List.perm_middle.trans ((lv_dd L r).cons x)
/-- where the live server with this number stands -/
theorem at_live (L : List Nat) : ∀ (r : List Nat) (q : Nat), q + 1 ≤ (lvL L r).length → ∃ s x, r[s]? = some x ∧ x ∈ L ∧ (lvL L (r.take s)).length = q ∧ (lvL L r).take (q + 1) = lvL L (r.take s) ++ [x]
  | [], q, h => by
    have : (lvL L []).length = 0 := rfl
    omega
  | y :: r, q, h => by
    by_cases c : y ∈ L
    · have e : lvL L (y :: r) = y :: lvL L r := List.filter_cons_of_pos (by simpa using c)
      cases q with
      | zero =>
        refine ⟨0, y, rfl, c, rfl, ?_⟩
        rw [e]
        rfl
      | succ q =>
        rw [e, List.length_cons] at h
        obtain ⟨s, x, h1, h2, h3, h4⟩ := at_live L r q (by omega)
        have e2 : lvL L (y :: r.take s) = y :: lvL L (r.take s) := List.filter_cons_of_pos (by simpa using c)
        refine ⟨s + 1, x, h1, h2, ?_, ?_⟩
        · rw [List.take_succ_cons, e2, List.length_cons, h3]
        · rw [List.take_succ_cons, e2, e, List.take_succ_cons, h4]
          rfl
    · have e : lvL L (y :: r) = lvL L r := List.filter_cons_of_neg (by simpa using c)
      rw [e] at h
      obtain ⟨s, x, h1, h2, h3, h4⟩ := at_live L r q h
      have e2 : lvL L (y :: r.take s) = lvL L (r.take s) := List.filter_cons_of_neg (by simpa using c)
      refine ⟨s + 1, x, h1, h2, ?_, ?_⟩
      · rw [List.take_succ_cons, e2, h3]
      · rw [List.take_succ_cons, e2, e, h4]
theorem take_one {r : List Nat} {s x : Nat} (h : r[s]? = some x) : r.take (s + 1) = r.take s ++ [x] := by
  rw [List.take_add_one, h]
  rfl
theorem live_uniq {L r : List Nat} {q s s' x x' : Nat} (h1 : r[s]? = some x) (h2 : x ∈ L) (h3 : (lvL L (r.take s)).length = q) (k1 : r[s']? = some x') (k2 : x' ∈ L) (k3 : (lvL L (r.take s')).length = q) : s = s' := by
  have key : ∀ {a b y : Nat}, r[a]? = some y → y ∈ L → (lvL L (r.take a)).length = q → (lvL L (r.take b)).length = q → ¬ a < b := by
    intro a b y g1 g2 g3 g4 hlt
    have e : r.take b = r.take (a + 1) ++ (r.take b).drop (a + 1) := by
      have := List.take_append_drop (a + 1) (r.take b)
      rw [List.take_take, Nat.min_eq_left (by omega)] at this
      exact this.symm
    rw [e, take_one g1, lvL_app, lvL_app, List.length_append, List.length_append] at g4
    have : (lvL L [y]).length = 1 := by
      unfold lvL
      rw [List.filter_cons_of_pos (by simpa using g2)]
      rfl
    omega
  have a := key h1 h2 h3 k3
  have b := key k1 k2 k3 h3
  omega
/-- all sublists -/
def subsA : List Nat → List (List Nat)
  | [] => [[]]
  | x :: r => (subsA r).map (x :: ·) ++ subsA r
theorem subsA_mem : ∀ {l c : List Nat}, c.Sublist l → c ∈ subsA l
  | [], c, h => by
    rw [List.sublist_nil.mp h]
    exact List.mem_singleton.mpr rfl
  | x :: r, c, h => by
    cases h with
    | cons _ h => exact List.mem_append_right _ (subsA_mem h)
    | cons_cons _ h => exact List.mem_append_left _ (List.mem_map.mpr ⟨_, subsA_mem h, rfl⟩)
theorem subsA_good : ∀ {l c : List Nat}, c ∈ subsA l → c.Sublist l
  | [], c, h => by
    rw [List.mem_singleton.mp h]
    exact List.Sublist.refl _
  | x :: r, c, h => by
    rcases List.mem_append.mp h with h | h
    · obtain ⟨d, hd, rfl⟩ := List.mem_map.mp h
      exact (subsA_good hd).cons_cons x
    · exact (subsA_good h).cons x
theorem subsA_nodup : ∀ {l : List Nat}, l.Nodup → (subsA l).Nodup
  | [], _ => List.nodup_cons.mpr ⟨List.not_mem_nil, List.nodup_nil⟩
  | x :: r, h => by
    obtain ⟨h1, h2⟩ := List.nodup_cons.mp h
    refine List.nodup_append.mpr ⟨List.Pairwise.map _ (fun a b hab z => hab (List.cons.inj z).2) (subsA_nodup h2), subsA_nodup h2, fun a ha b hb e => ?_⟩
    obtain ⟨c, _, rfl⟩ := List.mem_map.mp ha
    have := subsA_good hb
    rw [← e] at this
    exact h1 (this.subset List.mem_cons_self)
/-- a row and a pair: the row begins with T but x, and D, and goes on to x -/
def mtB (T : List Nat) (q : Nat) (p : List Nat × Nat) (r : List Nat) : Bool := decide (edgE (q + p.1.length) r = (srt (T.erase p.2 ++ p.1), p.2))
theorem lv_all {L a : List Nat} (h : ∀ x ∈ a, x ∈ L) : lvL L a = a := List.filter_eq_self.mpr fun x hx => by simpa using h x hx
theorem lv_none {L a : List Nat} (h : ∀ x ∈ a, x ∉ L) : lvL L a = [] := List.filter_eq_nil_iff.mpr fun x hx => by simpa using h x hx
theorem dd_all {L a : List Nat} (h : ∀ x ∈ a, x ∉ L) : ddL L a = a := List.filter_eq_self.mpr fun x hx => by simpa using h x hx
theorem dd_none {L a : List Nat} (h : ∀ x ∈ a, x ∈ L) : ddL L a = [] := List.filter_eq_nil_iff.mpr fun x hx => by simpa using h x hx
theorem ddL_app (L a b : List Nat) : ddL L (a ++ b) = ddL L a ++ ddL L b := List.filter_append ..
theorem mt_iff {L T D r : List Nat} {q x : Nat} (hT : Asc T) (hTl : T.length = q + 1) (hTL : ∀ y ∈ T, y ∈ L) (hx : x ∈ T) (hD : Asc D) (hDL : ∀ y ∈ D, y ∉ L) (hs : q + D.length < r.length) :
    mtB T q (D, x) r = true ↔ ∃ s, r[s]? = some x ∧ (lvL L (r.take s)).length = q ∧ srt (lvL L (r.take s) ++ [x]) = T ∧ srt (ddL L (r.take s)) = D := by
  have te : (T.erase x).Perm (T.erase x) := List.Perm.refl _
  have tp : (T.erase x ++ [x]).Perm T := (List.perm_append_singleton x _).trans (List.perm_cons_erase hx).symm
  have tl : (T.erase x).length = q := by
    rw [List.length_erase_of_mem hx]
    omega
  have eL : ∀ y ∈ T.erase x, y ∈ L := fun y hy => hTL y (List.mem_of_mem_erase hy)
  unfold mtB
  rw [decide_eq_true_iff]
  constructor
  · intro h
    have h1 : srt (r.take (q + D.length)) = srt (T.erase x ++ D) := congrArg Prod.fst h
    have h2 : r.getD (q + D.length) 0 = x := congrArg Prod.snd h
    have pm := perm_of_srt h1
    have hxs : r[q + D.length]? = some x := by
      rw [List.getD_eq_getElem?_getD, List.getElem?_eq_getElem hs] at h2
      rw [List.getElem?_eq_getElem hs]
      exact congrArg some h2
    have pl : (lvL L (r.take (q + D.length))).Perm (T.erase x) := by
      have := lvL_perm (L := L) pm
      rw [lvL_app, lv_all eL, lv_none hDL, List.append_nil] at this
      exact this
    have pd : (ddL L (r.take (q + D.length))).Perm D := by
      have := ddL_perm (L := L) pm
      rw [ddL_app, dd_none eL, dd_all hDL, List.nil_append] at this
      exact this
    exact ⟨q + D.length, hxs, by rw [pl.length_eq, tl], (srt_eq ((pl.append_right [x]).trans tp)).trans (srt_self hT), (srt_eq pd).trans (srt_self hD)⟩
  · rintro ⟨s, h1, h2, h3, h4⟩
    have hsl : s < r.length := (List.getElem?_eq_some_iff.mp h1).1
    have pl : (lvL L (r.take s)).Perm (T.erase x) := by
      have p1 : (lvL L (r.take s) ++ [x]).Perm T := (srt_perm _).symm.trans (h3 ▸ List.Perm.refl _)
      have p2 := p1.trans tp.symm
      exact (List.perm_append_right_iff _).mp p2
    have pd : (ddL L (r.take s)).Perm D := (srt_perm _).symm.trans (h4 ▸ List.Perm.refl _)
    have pr : (r.take s).Perm (T.erase x ++ D) := (lv_dd L _).symm.trans (pl.append pd)
    have es : s = q + D.length := by
      have := pr.length_eq
      rw [List.length_take, List.length_append, tl] at this
      omega
    subst es
    unfold edgE
    show (srt (r.take (q + D.length)), r.getD (q + D.length) 0) = _
    rw [srt_eq pr, List.getD_eq_getElem?_getD, h1]
    rfl
/-- the pairs of T -/
def prL (dead T : List Nat) : List (List Nat × Nat) := (subsA dead).flatMap fun D => T.map fun x => (D, x)
theorem prL_nodup {dead T : List Nat} (hd : dead.Nodup) (hT : T.Nodup) : (prL dead T).Nodup := by
  unfold prL
  have key : ∀ l : List (List Nat), l.Nodup → (l.flatMap fun D => T.map fun x => (D, x)).Nodup := by
    intro l
    induction l with
    | nil => intro _; exact List.nodup_nil
    | cons D l ih =>
      intro h
      obtain ⟨h1, h2⟩ := List.nodup_cons.mp h
      rw [List.flatMap_cons]
      refine List.nodup_append.mpr ⟨List.Pairwise.map _ (fun a b hab z => hab (congrArg Prod.snd z)) hT, ih h2, fun a ha b hb e => ?_⟩
      obtain ⟨c, _, rfl⟩ := List.mem_map.mp ha
      obtain ⟨D', hD', hb⟩ := List.mem_flatMap.mp hb
      obtain ⟨c', _, rfl⟩ := List.mem_map.mp hb
      have ed : D = D' := congrArg Prod.fst e
      exact h1 (by rw [ed]; exact hD')
  exact key _ (subsA_nodup hd)
theorem countP_one {α : Type} {p : α → Bool} {a : α} : ∀ {l : List α}, l.Nodup → a ∈ l → (∀ b ∈ l, (p b = true ↔ b = a)) → l.countP p = 1
  | [], _, h, _ => absurd h List.not_mem_nil
  | b :: l, hn, h, hp => by
    obtain ⟨h1, h2⟩ := List.nodup_cons.mp hn
    rw [List.countP_cons]
    by_cases e : b = a
    · subst e
      have z : l.countP p = 0 := List.countP_eq_zero.mpr fun c hc hpc => h1 (((hp c (List.mem_cons_of_mem _ hc)).mp hpc) ▸ hc)
      rw [z, if_pos ((hp b List.mem_cons_self).mpr rfl)]
    · rw [if_neg (fun z => e ((hp b List.mem_cons_self).mp z)), countP_one h2 ((List.mem_cons.mp h).resolve_left fun z => e z.symm) fun c hc => hp c (List.mem_cons_of_mem _ hc)]
theorem swap_sum {α β : Type} (m : α → β → Bool) (rows : List β) : ∀ l : List α, (l.map fun a => rows.countP (m a)).sum = (rows.map fun r => l.countP fun a => m a r).sum
  | [] => (sum_zero' fun _ _ => rfl).symm
  | a :: l => by
    rw [List.map_cons, List.sum_cons, swap_sum m rows l]
    have e : (rows.map fun r => (a :: l).countP fun a => m a r) = rows.map fun r => (l.countP fun a => m a r) + if m a r = true then 1 else 0 := List.map_congr_left fun r _ => List.countP_cons ..
    rw [e, sum_add', Nat.add_comm]
    congr 1
    induction rows with
    | nil => rfl
    | cons r rows ih =>
      rw [List.countP_cons, List.map_cons, List.sum_cons, ih (List.map_congr_left fun r _ => List.countP_cons ..)]
      omega
theorem sum_ind {β : Type} (p : β → Bool) : ∀ rows : List β, (rows.map fun r => if p r = true then 1 else 0).sum = rows.countP p
  | [] => rfl
  | r :: rows => by
    rw [List.map_cons, List.sum_cons, sum_ind p rows, List.countP_cons, Nat.add_comm]
/-- how many rows have this set of first live servers -/
def heldN (L : List Nat) (q : Nat) (rows : List (List Nat)) (T : List Nat) : Nat := rows.countP fun r => decide (srt ((lvL L r).take q) = T)
theorem held_pairs {n d q : Nat} {L dead T : List Nat} {rows : List (List Nat)} (G : Tab n d rows) (hT : Asc T) (hTl : T.length = q + 1) (hTL : ∀ y ∈ T, y ∈ L) (hdead : Asc dead) (hmem : ∀ y, y ∈ dead ↔ y < n ∧ y ∉ L)
    (hd : q + dead.length < d) (hlive : ∀ r ∈ rows, q + 1 ≤ (lvL L r).length) :
    heldN L (q + 1) rows T = ((prL dead T).map fun p => cE (rows.map (edgE (q + p.1.length))) (srt (T.erase p.2 ++ p.1), p.2)).sum := by
  have e1 : ((prL dead T).map fun p => cE (rows.map (edgE (q + p.1.length))) (srt (T.erase p.2 ++ p.1), p.2)) = (prL dead T).map fun p => rows.countP (mtB T q p) := List.map_congr_left fun p _ => cE_map _ _ _
  rw [e1, swap_sum]
  unfold heldN
  rw [← sum_ind]
  refine sum_congr' fun r hr => ?_
  obtain ⟨g1, g2, g3⟩ := G r hr
  obtain ⟨s, x, a1, a2, a3, a4⟩ := at_live L r q (hlive r hr)
  have ndT : T.Nodup := asc_nodup hT
  -- what a pair that fits is
  have fit : ∀ p ∈ prL dead T, (mtB T q p r = true ↔ srt ((lvL L r).take (q + 1)) = T ∧ p = (srt (ddL L (r.take s)), x)) := fun p hp => by
    obtain ⟨D, hD, hp⟩ := List.mem_flatMap.mp hp
    obtain ⟨y, hy, rfl⟩ := List.mem_map.mp hp
    have sD := subsA_good hD
    have ascD : Asc D := hdead.sublist sD
    have hDL : ∀ z ∈ D, z ∉ L := fun z hz => ((hmem z).mp (sD.subset hz)).2
    have hDl := sD.length_le
    rw [mt_iff hT hTl hTL hy ascD hDL (by omega), a4]
    constructor
    · rintro ⟨s', b1, b2, b3, b4⟩
      obtain rfl := live_uniq a1 a2 a3 b1 (hTL y hy) b2
      rw [a1] at b1
      obtain rfl := Option.some.inj b1
      exact ⟨b3, by rw [b4]⟩
    · rintro ⟨b1, b2⟩
      have c1 : D = srt (ddL L (r.take s)) := congrArg Prod.fst b2
      have c2 : y = x := congrArg Prod.snd b2
      subst c2
      exact ⟨s, a1, a3, b1, c1.symm⟩
  by_cases c : srt ((lvL L r).take (q + 1)) = T
  · rw [if_pos (decide_eq_true c)]
    refine (countP_one (prL_nodup (asc_nodup hdead) ndT) (a := (srt (ddL L (r.take s)), x)) ?_ fun p hp => ?_).symm
    · have hxT : x ∈ T := by
        rw [← c, a4]
        exact (srt_perm _).mem_iff.mpr (List.mem_append_right _ (List.mem_singleton.mpr rfl))
      have nd : (ddL L (r.take s)).Nodup := (g2.sublist (List.take_sublist _ _)).filter _
      have sub : (srt (ddL L (r.take s))).Sublist dead := ascSub (srt_asc nd) hdead fun y hy => by
        have h1 := List.mem_filter.mp ((srt_perm _).mem_iff.mp hy)
        exact (hmem y).mpr ⟨g3 y (List.mem_of_mem_take h1.1), by simpa using h1.2⟩
      exact List.mem_flatMap.mpr ⟨_, subsA_mem sub, List.mem_map.mpr ⟨x, hxT, rfl⟩⟩
    · rw [fit p hp]
      exact ⟨fun h => h.2, fun h => ⟨c, h⟩⟩
  · rw [if_neg (fun z => c (of_decide_eq_true z))]
    exact (List.countP_eq_zero.mpr fun p hp h => c ((fit p hp).mp h).1).symm
theorem sum_const {α : Type} (k : Nat) : ∀ l : List α, (l.map fun _ => k).sum = l.length * k
  | [] => by simp
  | a :: l => by rw [List.map_cons, List.sum_cons, sum_const k l, List.length_cons, Nat.succ_mul, Nat.add_comm]
/-- by equal levels every set of live servers holds as many lists -/
theorem held_even {n d q : Nat} {L dead T : List Nat} {rows : List (List Nat)} {w : Nat → Nat} (G : Tab n d rows) (hT : Asc T) (hTl : T.length = q + 1) (hTL : ∀ y ∈ T, y ∈ L) (hLn : ∀ y ∈ L, y < n) (hdead : Asc dead) (hmem : ∀ y, y ∈ dead ↔ y < n ∧ y ∉ L)
    (hd : q + dead.length < d) (hlive : ∀ r ∈ rows, q + 1 ≤ (lvL L r).length) (lev : ∀ s, s ≤ q + dead.length → Lev n s (w s) rows) :
    heldN L (q + 1) rows T = ((subsA dead).map fun D => (q + 1) * w (q + D.length)).sum := by
  rw [held_pairs G hT hTl hTL hdead hmem hd hlive]
  have e1 : ((prL dead T).map fun p => cE (rows.map (edgE (q + p.1.length))) (srt (T.erase p.2 ++ p.1), p.2)) = (prL dead T).map fun p => w (q + p.1.length) := List.map_congr_left fun p hp => by
    obtain ⟨D, hD, hp⟩ := List.mem_flatMap.mp hp
    obtain ⟨y, hy, rfl⟩ := List.mem_map.mp hp
    have sD := subsA_good hD
    have hDl := sD.length_le
    have pm := srt_perm (T.erase y ++ D)
    have ndT := asc_nodup hT
    have hyE : y ∉ T.erase y := fun z => (List.Nodup.mem_erase_iff ndT).mp z |>.1 rfl
    have nd : (T.erase y ++ D).Nodup := List.nodup_append.mpr ⟨ndT.sublist (List.erase_sublist), asc_nodup (hdead.sublist sD), fun a ha b hb e => by
      subst e
      exact ((hmem a).mp (sD.subset hb)).2 (hTL a (List.mem_of_mem_erase ha))⟩
    refine lev (q + D.length) (by omega) _ (allE_mem (hLn y (hTL y hy)) ?_ (srt_asc nd) fun z hz => ?_)
    · rw [pm.length_eq, List.length_append, List.length_erase_of_mem hy]
      omega
    · rcases List.mem_append.mp (pm.mem_iff.mp hz) with hz | hz
      · exact ⟨hLn z (hTL z (List.mem_of_mem_erase hz)), fun e => hyE (by rw [show y = z from e.symm]; rw [show y = z from e.symm] at hz; exact hz)⟩
      · have := (hmem z).mp (sD.subset hz)
        exact ⟨this.1, fun e => this.2 (by rw [show z = y from e]; exact hTL y hy)⟩
  rw [e1]
  unfold prL
  have key : ∀ l : List (List Nat), ((l.flatMap fun D => T.map fun x => (D, x)).map fun p => w (q + p.1.length)).sum = (l.map fun D => (q + 1) * w (q + D.length)).sum := by
    intro l
    induction l with
    | nil => rfl
    | cons D l ih =>
      rw [List.flatMap_cons, List.map_append, List.sum_append, List.map_cons, List.sum_cons, ih, List.map_map]
      congr 1
      show (T.map fun _ => w (q + D.length)).sum = _
      rw [sum_const, hTl]
  exact key _
end Ef
namespace Ef
/-! ### the shares of sets and of servers -/
theorem combs_one {cs : List (List Nat)} {k : List Nat} (hn : cs.Nodup) (h : k ∈ cs) : cs.countP (fun T => decide (k = T)) = 1 :=
  countP_one hn h fun b _ => by
    rw [decide_eq_true_iff]
    exact ⟨fun e => e.symm, fun e => e.symm⟩
/-- the set of the first live servers is one of the sets -/
theorem first_mem {n d q : Nat} {L : List Nat} {rows : List (List Nat)} (G : Tab n d rows) (aL : Asc L) (hlive : ∀ r ∈ rows, q ≤ (lvL L r).length) : ∀ r ∈ rows, srt ((lvL L r).take q) ∈ combs L q := fun r hr => by
  obtain ⟨_, g2, _⟩ := G r hr
  have nd : ((lvL L r).take q).Nodup := (g2.filter _).sublist (List.take_sublist _ _)
  have pm := srt_perm ((lvL L r).take q)
  have hl : (srt ((lvL L r).take q)).length = q := by
    rw [pm.length_eq, List.length_take]
    have := hlive r hr
    omega
  have := combs_mem L _ (ascSub (srt_asc nd) aL fun y hy => by
    have h1 := List.mem_filter.mp (List.mem_of_mem_take (pm.mem_iff.mp hy))
    exact of_decide_eq_true h1.2)
  rw [hl] at this
  exact this
theorem held_total {n d q : Nat} {L : List Nat} {rows : List (List Nat)} (G : Tab n d rows) (aL : Asc L) (hlive : ∀ r ∈ rows, q ≤ (lvL L r).length) : ((combs L q).map fun T => heldN L q rows T).sum = rows.length := by
  have e : ((combs L q).map fun T => heldN L q rows T) = (combs L q).map fun T => rows.countP ((fun T r => decide (srt ((lvL L r).take q) = T)) T) := rfl
  rw [e, swap_sum, sum_congr' (g := fun _ => 1) fun r hr => combs_one (combsNodup L q (asc_nodup aL)) (first_mem G aL hlive r hr), sum_const, Nat.mul_one]
/-- what there is to know of a live set and a factor -/
structure Live (n d q : Nat) (L : List Nat) (rows : List (List Nat)) : Prop where
  tab : Tab n d rows
  asc : Asc L
  lt : ∀ y ∈ L, y < n
  q1 : 1 ≤ q
  qL : q ≤ L.length
  fit : q + (n - L.length) ≤ d
  lev : ∀ s, s < q + (n - L.length) → ∃ w, Lev n s w rows
def deadL (n : Nat) (L : List Nat) : List Nat := (List.range' 0 n).filter fun y => !decide (y ∈ L)
theorem dead_mem {n : Nat} {L : List Nat} (y : Nat) : y ∈ deadL n L ↔ y < n ∧ y ∉ L := by
  unfold deadL
  rw [List.mem_filter, mem_range0]
  simp
theorem dead_asc (n : Nat) (L : List Nat) : Asc (deadL n L) := (asc_range' n 0).filter _
theorem live_dead {n : Nat} {L : List Nat} (aL : Asc L) (hL : ∀ y ∈ L, y < n) : L.length + (deadL n L).length = n := by
  have p : (L ++ deadL n L).Perm (List.range' 0 n) := by
    refine (List.perm_ext_iff_of_nodup ?_ (asc_nodup (asc_range' n 0))).mpr fun y => ?_
    · refine List.nodup_append.mpr ⟨asc_nodup aL, asc_nodup (dead_asc n L), fun a ha b hb e => ?_⟩
      subst e
      exact ((dead_mem a).mp hb).2 ha
    · rw [List.mem_append, dead_mem, mem_range0]
      constructor
      · rintro (h | h)
        · exact hL y h
        · exact h.1
      · intro h
        by_cases c : y ∈ L
        · exact .inl c
        · exact .inr ⟨h, c⟩
  have := p.length_eq
  rw [List.length_append, List.length_range'] at this
  exact this
/-- every list has enough live servers -/
theorem enough {n d : Nat} {L : List Nat} {rows : List (List Nat)} (G : Tab n d rows) (aL : Asc L) (hL : ∀ y ∈ L, y < n) {q : Nat} (h : q + (n - L.length) ≤ d) : ∀ r ∈ rows, q ≤ (lvL L r).length := fun r hr => by
  obtain ⟨g1, g2, g3⟩ := G r hr
  have p := (lv_dd L r).length_eq
  rw [List.length_append, g1] at p
  have h2 : (ddL L r).length ≤ (deadL n L).length := subG_len (g2.filter _) fun y hy => by
    have h1 := List.mem_filter.mp hy
    exact (dead_mem y).mpr ⟨g3 y h1.1, by simpa using h1.2⟩
  have := live_dead aL hL
  omega
theorem Live.enough {n d q : Nat} {L : List Nat} {rows : List (List Nat)} (h : Live n d q L rows) : ∀ r ∈ rows, q ≤ (lvL L r).length := Ef.enough h.tab h.asc h.lt h.fit
theorem Live.const {n d q : Nat} {L : List Nat} {rows : List (List Nat)} (h : Live n d q L rows) : ∃ F, ∀ T ∈ combs L q, heldN L q rows T = F := by
  obtain ⟨p, rfl⟩ : ∃ p, q = p + 1 := ⟨q - 1, by have := h.q1; omega⟩
  have ld := live_dead h.asc h.lt
  have hf := h.fit
  have hq := h.qL
  let w : Nat → Nat := fun s => if hs : s < p + 1 + (n - L.length) then (h.lev s hs).choose else 0
  refine ⟨((subsA (deadL n L)).map fun D => (p + 1) * w (p + D.length)).sum, fun T hT => ?_⟩
  obtain ⟨g1, g2⟩ := combs_good L (p + 1) T hT
  refine held_even h.tab (h.asc.sublist g2) g1 (fun y hy => g2.subset hy) h.lt (dead_asc n L) dead_mem (by omega) h.enough fun s hs => ?_
  have hs2 : s < p + 1 + (n - L.length) := by omega
  have e : w s = (h.lev s hs2).choose := dif_pos hs2
  rw [e]
  exact (h.lev s hs2).choose_spec
/-- every set's share -/
theorem Live.held {n d q : Nat} {L : List Nat} {rows : List (List Nat)} (h : Live n d q L rows) : ∀ T ∈ combs L q, heldN L q rows T * C L.length q = rows.length := by
  obtain ⟨F, hF⟩ := h.const
  have t := held_total h.tab h.asc h.enough
  rw [sum_congr' (g := fun _ => F) hF, sum_const, combsLen] at t
  intro T hT
  rw [hF T hT, Nat.mul_comm]
  exact t
/-- how many lists have a server among the first live ones -/
def ldN (L : List Nat) (q : Nat) (rows : List (List Nat)) (y : Nat) : Nat := rows.countP fun r => decide (y ∈ (lvL L r).take q)
theorem combs_with : ∀ (l : List Nat) (k y : Nat), l.Nodup → y ∈ l → (combs l (k + 1)).countP (fun T => decide (y ∈ T)) = C (l.length - 1) k
  | [], k, y, _, h => absurd h List.not_mem_nil
  | x :: r, k, y, hn, h => by
    obtain ⟨h1, h2⟩ := List.nodup_cons.mp hn
    show ((combs r k).map (x :: ·) ++ combs r (k + 1)).countP _ = C (r.length + 1 - 1) k
    rw [List.countP_append, List.countP_map, Nat.add_sub_cancel]
    by_cases e : y = x
    · subst e
      have a1 : (combs r k).countP ((fun T => decide (y ∈ T)) ∘ fun T => y :: T) = (combs r k).length := List.countP_eq_length.mpr fun T _ => by simp
      have a2 : (combs r (k + 1)).countP (fun T => decide (y ∈ T)) = 0 := List.countP_eq_zero.mpr fun T hT z => h1 ((combs_good r (k + 1) T hT).2.subset (of_decide_eq_true z))
      rw [a1, a2, combsLen]
      rfl
    · have hy : y ∈ r := (List.mem_cons.mp h).resolve_left e
      have rp := List.length_pos_of_mem hy
      have a1 : (combs r k).countP ((fun T => decide (y ∈ T)) ∘ fun T => x :: T) = (combs r k).countP fun T => decide (y ∈ T) := List.countP_congr fun T _ => by simp [e]
      rw [a1, combs_with r k y h2 hy]
      cases k with
      | zero =>
        rw [combs_zero]
        show 0 + C (r.length - 1) 0 = C r.length 0
        rw [C_zero, C_zero]
      | succ k =>
        rw [combs_with r k y h2 hy]
        obtain ⟨m, em⟩ : ∃ m, r.length = m + 1 := ⟨r.length - 1, by omega⟩
        rw [em]
        rfl
theorem Live.load {n d q : Nat} {L : List Nat} {rows : List (List Nat)} (h : Live n d q L rows) : ∀ y ∈ L, ldN L q rows y * L.length = rows.length * q := fun y hy => by
  obtain ⟨p, rfl⟩ : ∃ p, q = p + 1 := ⟨q - 1, by have := h.q1; omega⟩
  obtain ⟨F, hF⟩ := h.const
  have hq := h.qL
  have t := held_total h.tab h.asc h.enough
  rw [sum_congr' (g := fun _ => F) hF, sum_const, combsLen] at t
  -- the sets with this server
  have e1 : ldN L (p + 1) rows y = (((combs L (p + 1)).filter fun T => decide (y ∈ T)).map fun T => heldN L (p + 1) rows T).sum := by
    have e2 : (((combs L (p + 1)).filter fun T => decide (y ∈ T)).map fun T => heldN L (p + 1) rows T) = ((combs L (p + 1)).filter fun T => decide (y ∈ T)).map fun T => rows.countP ((fun T r => decide (srt ((lvL L r).take (p + 1)) = T)) T) := rfl
    rw [e2, swap_sum]
    unfold ldN
    rw [← sum_ind]
    refine sum_congr' fun r hr => ?_
    have hm := first_mem h.tab h.asc h.enough r hr
    have nd := (combsNodup L (p + 1) (asc_nodup h.asc)).filter fun T => decide (y ∈ T)
    have pm := srt_perm ((lvL L r).take (p + 1))
    by_cases c : y ∈ (lvL L r).take (p + 1)
    · rw [if_pos (decide_eq_true c)]
      exact (combs_one nd (List.mem_filter.mpr ⟨hm, decide_eq_true (pm.mem_iff.mpr c)⟩)).symm
    · rw [if_neg (fun z => c (of_decide_eq_true z))]
      refine (List.countP_eq_zero.mpr fun T hT z => c ?_).symm
      have hT2 := of_decide_eq_true (List.mem_filter.mp hT).2
      rw [← of_decide_eq_true z] at hT2
      exact pm.mem_iff.mp hT2
  have e3 : ((combs L (p + 1)).filter fun T => decide (y ∈ T)).length = C (L.length - 1) p := by
    rw [← List.countP_eq_length_filter]
    exact combs_with L p y (asc_nodup h.asc) hy
  rw [e1, sum_congr' (g := fun _ => F) fun T hT => hF T (List.mem_filter.mp hT).1, sum_const, e3, ← t]
  have e4 := edge_alt2 (n := L.length) (i := p) (by omega)
  rw [Nat.mul_right_comm, Nat.mul_comm (C (L.length - 1) p) L.length, ← e4, Nat.mul_right_comm]
/-! what the levels do not tell: the order of the rows, the names of the servers -/
theorem Lev.perm {n s w : Nat} {rows rows' : List (List Nat)} (p : rows'.Perm rows) (h : Lev n s w rows) : Lev n s w rows' := fun e he => (cE_perm (p.map _) e).trans (h e he)
theorem Tab.perm {n d : Nat} {rows rows' : List (List Nat)} (p : rows'.Perm rows) (h : Tab n d rows) : Tab n d rows' := fun r hr => h r (p.mem_iff.mp hr)
/-- servers renamed -/
structure Names (n : Nat) (f g : Nat → Nat) : Prop where
  fn : ∀ x, x < n → f x < n
  gn : ∀ x, x < n → g x < n
  gf : ∀ x, x < n → g (f x) = x
  fg : ∀ x, x < n → f (g x) = x
theorem names_of {n : Nat} {ns : List Nat} (p : ns.Perm (List.range' 0 n)) : Names n (fun x => ns.getD x 0) (fun y => ns.idxOf y) := by
  have hl : ns.length = n := by
    rw [p.length_eq, List.length_range']
  have nd : ns.Nodup := p.nodup_iff.mpr (asc_nodup (asc_range' n 0))
  have at_ : ∀ x, x < n → ns[x]? = some (ns.getD x 0) := fun x hx => getD_of (by omega)
  have mem : ∀ y, y < n → y ∈ ns := fun y hy => p.mem_iff.mpr (mem_range0.mpr hy)
  refine ⟨fun x hx => mem_range0.mp (p.mem_iff.mp (List.mem_of_getElem? (at_ x hx))), fun x hx => ?_, fun x hx => ?_, fun x hx => ?_⟩
  · have := List.idxOf_lt_length_of_mem (mem x hx)
    omega
  · have h1 := at_ x hx
    have h2 := idx_at (List.mem_of_getElem? h1)
    exact nodup_inj nd h2 h1
  · show ns.getD (ns.idxOf x) 0 = x
    rw [List.getD_eq_getElem?_getD, idx_at (mem x hx)]
    rfl
theorem Names.inj {n : Nat} {f g : Nat → Nat} (N : Names n f g) {a b : Nat} (ha : a < n) (hb : b < n) (e : f a = f b) : a = b := by
  rw [← N.gf a ha, ← N.gf b hb, e]
theorem Names.tab {n d : Nat} {f g : Nat → Nat} {rows : List (List Nat)} (N : Names n f g) (h : Tab n d rows) : Tab n d (rows.map fun r => r.map f) := fun r hr => by
  obtain ⟨r0, hr0, rfl⟩ := List.mem_map.mp hr
  obtain ⟨h1, h2, h3⟩ := h r0 hr0
  refine ⟨by rw [List.length_map]; exact h1, ?_, fun x hx => ?_⟩
  · refine List.pairwise_map.mpr (List.Pairwise.imp_of_mem (fun {a b} ha hb hab e => hab (N.inj (h3 a ha) (h3 b hb) e)) h2)
  · obtain ⟨y, hy, rfl⟩ := List.mem_map.mp hx
    exact N.fn y (h3 y hy)
theorem map_back {n : Nat} {f g : Nat → Nat} {l : List Nat} (hl : ∀ x ∈ l, x < n) (h : ∀ x, x < n → g (f x) = x) : (l.map f).map g = l := by
  rw [List.map_map]
  conv => rhs; rw [← List.map_id l]
  exact List.map_congr_left fun x hx => h x (hl x hx)
theorem Names.lev {n d s w : Nat} {f g : Nat → Nat} {rows : List (List Nat)} (N : Names n f g) (G : Tab n d rows) (hs : s < d) (h : Lev n s w rows) : Lev n s w (rows.map fun r => r.map f) := fun e he => by
  obtain ⟨x, hx, he⟩ := List.mem_flatMap.mp he
  obtain ⟨S, hS, rfl⟩ := List.mem_map.mp he
  obtain ⟨g1, g2⟩ := combs_good _ _ _ hS
  have hxn := List.mem_range.mp hx
  have memS : ∀ y ∈ S, y < n ∧ y ≠ x := fun y hy => by
    have := List.mem_filter.mp (g2.subset hy)
    exact ⟨List.mem_range.mp this.1, by simpa using this.2⟩
  have ascS : Asc S := (without_asc n x).sublist g2
  have hin : (srt (S.map g), g x) ∈ allE n s := by
    have pm := srt_perm (S.map g)
    have nd : (S.map g).Nodup := List.pairwise_map.mpr (List.Pairwise.imp_of_mem (fun {a b} ha hb hab e => hab (by rw [← N.fg a (memS a ha).1, ← N.fg b (memS b hb).1, e])) (asc_nodup ascS))
    refine allE_mem (N.gn x hxn) (by rw [pm.length_eq, List.length_map, g1]) (srt_asc nd) fun y hy => ?_
    obtain ⟨z, hz, rfl⟩ := List.mem_map.mp (pm.mem_iff.mp hy)
    exact ⟨N.gn z (memS z hz).1, fun e => (memS z hz).2 (by rw [← N.fg z (memS z hz).1, ← N.fg x hxn, e])⟩
  rw [← h _ hin, List.map_map, cE_map, cE_map]
  refine List.countP_congr fun r hr => ?_
  obtain ⟨h1, h2, h3⟩ := G r hr
  have hlt : s < r.length := by omega
  rw [decide_eq_true_iff, decide_eq_true_iff]
  have ex : (r.map f).getD s 0 = f (r.getD s 0) := by
    rw [List.getD_eq_getElem?_getD, List.getD_eq_getElem?_getD, List.getElem?_map, List.getElem?_eq_getElem hlt]
    rfl
  have hrs : r.getD s 0 < n := by
    rw [List.getD_eq_getElem?_getD, List.getElem?_eq_getElem hlt]
    exact h3 _ (List.getElem_mem _)
  have ht : ∀ y ∈ r.take s, y < n := fun y hy => h3 y (List.mem_of_mem_take hy)
  show edgE s (r.map f) = (S, x) ↔ edgE s r = (srt (S.map g), g x)
  unfold edgE
  rw [ex, ← List.map_take]
  constructor
  · intro e
    have e1 : srt ((r.take s).map f) = S := congrArg Prod.fst e
    have e2 : f (r.getD s 0) = x := congrArg Prod.snd e
    have p1 : ((r.take s).map f).Perm S := (srt_perm _).symm.trans (e1 ▸ List.Perm.refl _)
    have p2 := p1.map g
    rw [map_back ht N.gf] at p2
    rw [srt_eq p2, ← e2, N.gf _ hrs]
  · intro e
    have e1 : srt (r.take s) = srt (S.map g) := congrArg Prod.fst e
    have e2 : r.getD s 0 = g x := congrArg Prod.snd e
    have p2 := (perm_of_srt e1).map f
    rw [map_back (fun y hy => (memS y hy).1) N.fg] at p2
    rw [srt_eq p2, srt_self ascS, e2, N.fg x hxn]
end Ef
namespace Ef
/-! ### the edges of a level in order -/
def dueE (n s : Nat) : List (List Nat × Nat) := (combs (List.range' 0 n) s).flatMap fun c => ((List.range' 0 n).filter fun x => !decide (x ∈ c)).map fun x => (c, x)
theorem combs_lex : ∀ (l : List Nat) (k : Nat), Asc l → (combs l k).Pairwise LexLe
  | l, 0, _ => by
    rw [combs_zero]
    exact List.pairwise_singleton _ _
  | [], k + 1, _ => List.Pairwise.nil
  | x :: r, k + 1, h => by
    obtain ⟨h1, h2⟩ := List.pairwise_cons.mp h
    show ((combs r k).map (x :: ·) ++ combs r (k + 1)).Pairwise LexLe
    refine List.pairwise_append.mpr ⟨List.pairwise_map.mpr ((combs_lex r k h2).imp fun z => z.cons_eq), combs_lex r (k + 1) h2, fun a ha b hb => ?_⟩
    obtain ⟨c, _, rfl⟩ := List.mem_map.mp ha
    obtain ⟨g1, g2⟩ := combs_good r (k + 1) b hb
    cases b with
    | nil => cases g1
    | cons y b => exact LexLe.cons_lt (h1 y (g2.subset List.mem_cons_self))
/-- e is not behind e' -/
def ELe (e e' : List Nat × Nat) : Prop := (e.1 = e'.1 ∧ e.2 ≤ e'.2) ∨ (e.1 ≠ e'.1 ∧ LexLe e.1 e'.1)
theorem dueE_asc (n s : Nat) : (dueE n s).Pairwise ELe := by
  unfold dueE
  have key : ∀ l : List (List Nat), l.Pairwise LexLe → l.Nodup → (l.flatMap fun c => ((List.range' 0 n).filter fun x => !decide (x ∈ c)).map fun x => (c, x)).Pairwise ELe := by
    intro l
    induction l with
    | nil => intro _ _; exact List.Pairwise.nil
    | cons c l ih =>
      intro h hn
      obtain ⟨h1, h2⟩ := List.pairwise_cons.mp h
      obtain ⟨n1, n2⟩ := List.nodup_cons.mp hn
      rw [List.flatMap_cons]
      refine List.pairwise_append.mpr ⟨List.pairwise_map.mpr (((asc_range' n 0).filter _).imp fun z => .inl ⟨rfl, Nat.le_of_lt z⟩), ih h2 n2, fun a ha b hb => ?_⟩
      obtain ⟨x, _, rfl⟩ := List.mem_map.mp ha
      obtain ⟨c', hc', hb⟩ := List.mem_flatMap.mp hb
      obtain ⟨y, _, rfl⟩ := List.mem_map.mp hb
      exact .inr ⟨fun e => n1 (by rw [show c = c' from e]; exact hc'), h1 c' hc'⟩
  exact key _ (combs_lex _ s (asc_range' n 0)) (combsNodup _ s (asc_nodup (asc_range' n 0)))
theorem dueE_nodup (n s : Nat) : (dueE n s).Nodup := by
  unfold dueE
  have key : ∀ l : List (List Nat), l.Nodup → (l.flatMap fun c => ((List.range' 0 n).filter fun x => !decide (x ∈ c)).map fun x => (c, x)).Nodup := by
    intro l
    induction l with
    | nil => intro _; exact List.nodup_nil
    | cons c l ih =>
      intro hn
      obtain ⟨n1, n2⟩ := List.nodup_cons.mp hn
      rw [List.flatMap_cons]
      refine List.nodup_append.mpr ⟨List.Pairwise.map _ (fun a b hab z => hab (congrArg Prod.snd z)) ((asc_nodup (asc_range' n 0)).filter _), ih n2, fun a ha b hb e => ?_⟩
      obtain ⟨x, _, rfl⟩ := List.mem_map.mp ha
      obtain ⟨c', hc', hb⟩ := List.mem_flatMap.mp hb
      obtain ⟨y, _, rfl⟩ := List.mem_map.mp hb
      have : c = c' := congrArg Prod.fst e
      exact n1 (by rw [this]; exact hc')
  exact key _ (combsNodup _ s (asc_nodup (asc_range' n 0)))
theorem dueE_mem {n s : Nat} {e : List Nat × Nat} : e ∈ dueE n s ↔ e ∈ allE n s := by
  obtain ⟨c, x⟩ := e
  unfold dueE
  constructor
  · intro h
    obtain ⟨c', hc, h⟩ := List.mem_flatMap.mp h
    obtain ⟨y, hy, e⟩ := List.mem_map.mp h
    obtain ⟨h1, h2⟩ := List.mem_filter.mp hy
    obtain ⟨g1, g2⟩ := combs_good _ _ c' hc
    obtain ⟨rfl, rfl⟩ := Prod.mk.inj e
    have h2' : y ∉ c' := by simpa using h2
    exact allE_mem (mem_range0.mp h1) g1 ((asc_range' n 0).sublist g2) fun z hz => ⟨mem_range0.mp (g2.subset hz), fun e => h2' (e ▸ hz)⟩
  · intro h
    have h := h
    unfold allE at h
    obtain ⟨y, hy, h⟩ := List.mem_flatMap.mp h
    obtain ⟨c', hc, e⟩ := List.mem_map.mp h
    obtain ⟨rfl, rfl⟩ := Prod.mk.inj e
    obtain ⟨g1, g2⟩ := combs_good _ _ c' hc
    have mem : ∀ z ∈ c', z < n ∧ z ≠ y := fun z hz => by
      have := g2.subset hz
      unfold without at this
      obtain ⟨a1, a2⟩ := List.mem_filter.mp this
      exact ⟨List.mem_range.mp a1, by simpa using a2⟩
    have sub := ascSub ((without_asc n y).sublist g2) (asc_range' n 0) fun z hz => mem_range0.mpr (mem z hz).1
    have hc2 := combs_mem _ _ sub
    rw [g1] at hc2
    refine List.mem_flatMap.mpr ⟨c', hc2, List.mem_map.mpr ⟨y, List.mem_filter.mpr ⟨mem_range0.mpr (List.mem_range.mp hy), ?_⟩, rfl⟩⟩
    have : y ∉ c' := fun z => (mem y z).2 rfl
    simpa using this
theorem LexLe.anti {a b : List Nat} (h : LexLe a b) (g : LexLe b a) : a = b := by
  have h1 : intL a ≤ intL b := List.not_lt.mp h
  have h2 : intL b ≤ intL a := List.not_lt.mp g
  have e := List.le_antisymm h1 h2
  clear h g h1 h2
  induction a generalizing b with
  | nil =>
    cases b with
    | nil => rfl
    | cons y s => cases e
  | cons x r ih =>
    cases b with
    | nil => cases e
    | cons y s =>
      have e2 : (x : Int) :: intL r = (y : Int) :: intL s := e
      injection e2 with e3 e4
      rw [ih e4, show x = y by omega]
end Ef
set_option maxHeartbeats 4000000
namespace Ef
open PySem PySem.Spec PyProof.Rows L2
/-! ### the places of a size and the numbers, one to one -/
abbrev Pl := List Nat × Nat
def placeF (n d c k : Nat) : Pl := (srt (path n d c k).1, (path n d c k).2)
def backP (n c : Nat) (e : Pl) : Nat := back n c e.1 e.2
/-- all places, in order -/
def plL (n d c : Nat) : List Pl := (combs (List.range' 0 n) d).flatMap fun ms => (List.range (c / C n d)).map fun r => (ms, r)
theorem flat_lenP {α β : Type} {m : Nat} (f : α → List β) : ∀ l : List α, (∀ x ∈ l, (f x).length = m) → (l.flatMap f).length = l.length * m
  | [], _ => by simp
  | x :: r, h => by
    rw [List.flatMap_cons, List.length_append, h x List.mem_cons_self, flat_lenP f r fun y hy => h y (List.mem_cons_of_mem _ hy), List.length_cons, Nat.succ_mul, Nat.add_comm]
theorem sizes_mul {n d c : Nat} (st : Std n d c) (hd : 1 ≤ d) : C n d * (c / C n d) = c := by
  obtain ⟨b, rfl⟩ : ∃ b, d = b + 1 := ⟨d - 1, by omega⟩
  have dn := st.dn
  have e1 := wd_back (st.dvd b (by omega)) (show b < n by omega)
  have e2 := wd_out (st.dvd b (by omega)) (show b < n by omega)
  rw [e1]
  conv => rhs; rw [← e2]
  have e3 : C n (b + 1) * (b + 1) = C n b * (n - b) := C_step n b (by omega)
  calc C n (b + 1) * (wd n c b * (b + 1)) = wd n c b * (C n (b + 1) * (b + 1)) := by rw [Nat.mul_left_comm]
    _ = wd n c b * (C n b * (n - b)) := by rw [e3]
    _ = wd n c b * (n - b) * C n b := by rw [Nat.mul_comm (C n b), Nat.mul_assoc]
theorem plL_len {n d c : Nat} (st : Std n d c) (hd : 1 ≤ d) : (plL n d c).length = c := by
  unfold plL
  rw [flat_lenP (m := c / C n d) _ _ (fun x _ => by rw [List.length_map, List.length_range]), combsLen, List.length_range', sizes_mul st hd]
theorem plL_mem {n d c : Nat} {e : Pl} : e ∈ plL n d c → Place n c d e.1 e.2 := fun h => by
  obtain ⟨ms, h1, h2⟩ := List.mem_flatMap.mp h
  obtain ⟨r, h3, rfl⟩ := List.mem_map.mp h2
  obtain ⟨g1, g2⟩ := combs_good _ _ ms h1
  exact ⟨(asc_range' n 0).sublist g2, fun x hx => mem_range0.mp (g2.subset hx), g1, List.mem_range.mp h3⟩
theorem plL_nodup (n d c : Nat) : (plL n d c).Nodup := by
  unfold plL
  have key : ∀ l : List (List Nat), l.Nodup → (l.flatMap fun ms => (List.range (c / C n d)).map fun r => (ms, r)).Nodup := by
    intro l
    induction l with
    | nil => intro _; exact List.nodup_nil
    | cons a r ih =>
      intro h
      obtain ⟨h1, h2⟩ := List.nodup_cons.mp h
      rw [List.flatMap_cons]
      refine List.nodup_append.mpr ⟨List.pairwise_map.mpr (List.Pairwise.imp (fun z e => z (by injection e)) List.nodup_range), ih h2, fun x hx y hy e => ?_⟩
      obtain ⟨i, _, rfl⟩ := List.mem_map.mp hx
      obtain ⟨ms, hm, hy⟩ := List.mem_flatMap.mp hy
      obtain ⟨j, _, rfl⟩ := List.mem_map.mp hy
      injection e with e1 _
      exact h1 (e1 ▸ hm)
  exact key _ (combsNodup _ _ (asc_nodup (asc_range' n 0)))
theorem back_place {n d c : Nat} (st : Std n d c) {e : Pl} (h : Place n c d e.1 e.2) : backP n c e < c ∧ placeF n d c (backP n c e) = e := by
  obtain ⟨i1, i2, i3, _⟩ := back_fwd st.c0 d e.1 e.2 st.dn (fun k hk => st.dvd k hk) h
  have hb : backP n c e = (fol n c (List.range' 0 d).reverse e.1 e.2).2 := by
    unfold backP back
    rw [h.len]
  rw [hb]
  refine ⟨i1, ?_⟩
  unfold placeF path
  rw [i3, srt_eq i2, srt_self h.asc]
theorem perm_of_sub {α : Type} [DecidableEq α] {ks ns : List α} (nk : ks.Nodup) (nn : ns.Nodup) (sub : ∀ k ∈ ks, k ∈ ns) (hl : ns.length ≤ ks.length) : ks.Perm ns := by
  refine (List.perm_ext_iff_of_nodup nk nn).mpr fun a => ⟨sub a, fun ha => ?_⟩
  refine Classical.byContradiction fun hna => ?_
  have h2 := subG_len (ks := ks) (ns := ns.erase a) nk fun k hk => (List.mem_erase_of_ne (fun z : k = a => hna (z ▸ hk))).mpr (sub k hk)
  rw [List.length_erase_of_mem ha] at h2
  have := List.length_pos_of_mem ha
  omega
theorem back_perm {n d c : Nat} (st : Std n d c) (hd : 1 ≤ d) : ((plL n d c).map (backP n c)).Perm (List.range c) := by
  refine perm_of_sub ?_ List.nodup_range (fun k hk => ?_) (by rw [List.length_map, plL_len st hd, List.length_range]; exact Nat.le_refl _)
  · refine List.pairwise_map.mpr (List.Pairwise.imp_of_mem (fun {a b} ha hb ne e => ne ?_) (plL_nodup n d c))
    rw [← (back_place st (plL_mem ha)).2, ← (back_place st (plL_mem hb)).2, e]
  · obtain ⟨e, he, rfl⟩ := List.mem_map.mp hk
    exact List.mem_range.mpr (back_place st (plL_mem he)).1
theorem place_perm {n d c : Nat} (st : Std n d c) (hd : 1 ≤ d) : ((List.range c).map (placeF n d c)).Perm (plL n d c) := by
  have h := (back_perm st hd).map (placeF n d c)
  rw [List.map_map] at h
  have e : (plL n d c).map (placeF n d c ∘ backP n c) = plL n d c := by
    conv => rhs; rw [← List.map_id (plL n d c)]
    exact List.map_congr_left fun e he => (back_place st (plL_mem he)).2
  rw [e] at h
  exact h.symm
theorem place_back {n d c k : Nat} (st : Std n d c) (hd : 1 ≤ d) (hk : k < c) : backP n c (placeF n d c k) = k ∧ Place n c d (placeF n d c k).1 (placeF n d c k).2 := by
  obtain ⟨e, he, rfl⟩ := List.mem_map.mp ((back_perm st hd).mem_iff.mpr (List.mem_range.mpr hk))
  rw [(back_place st (plL_mem he)).2]
  exact ⟨rfl, plL_mem he⟩
/-! ### in order -/
def plD (e : Pl) : PyData := .tuple [.tuple (natD e.1), .int (e.2 : Nat)]
theorem natD_intsP (ms : List Nat) : natD ms = (intL ms).map PyData.int := by
  unfold natD intL
  rw [List.map_map]
  rfl
theorem natD_lt (a b : List Nat) : PySem.W.dataLt (.tuple (natD a)) (.tuple (natD b)) = decide (intL a < intL b) := by
  have h := dLe_ints (u := .non) (v := .non) (xs := intL b) (ys := intL a)
  rw [dLe_lt] at h
  rw [natD_intsP, natD_intsP]
  have h2 : ∀ x y : Bool, (!x) = !y → x = y := by decide
  exact h2 _ _ h
theorem natD_alike : ∀ a b : List Nat, PySem.W.alikeAll (natD a) (natD b) = true
  | [], [] => rfl
  | [], _ :: _ => rfl
  | _ :: _, [] => rfl
  | x :: r, y :: q => by
    show (PySem.W.alike (.int (x : Int)) (.int (y : Int)) && PySem.W.alikeAll (natD r) (natD q)) = true
    rw [natD_alike r q]
    simp [PySem.W.alike]
theorem plD_lt (e f : Pl) : PySem.W.dataLt (plD e) (plD f) = decide (intL e.1 < intL f.1 ∨ (e.1 = f.1 ∧ e.2 < f.2)) := by
  unfold plD
  rw [PySem.W.dataLt_pair (by simp only [PySem.W.alike]; exact natD_alike _ _) (by simp [PySem.W.alike]), eqv_natT, PySem.W.dataLt_int, natD_lt]
  by_cases h : e.1 = f.1
  · rw [if_pos (decide_eq_true h), h]
    have irr : ¬ intL f.1 < intL f.1 := List.lt_irrefl _
    by_cases h2 : e.2 = f.2
    · simp [PyData.eqv, h2, irr]
    · have h3 : ¬ ((e.2 : Int) = (f.2 : Int)) := by omega
      simp [PyData.eqv, h3, irr]
  · rw [if_neg (by rw [decide_eq_false h]; exact Bool.false_ne_true)]
    simp [h]
theorem plD_anti {e f : Pl} (h1 : PySem.W.dataLt (plD e) (plD f) = false) (h2 : PySem.W.dataLt (plD f) (plD e) = false) : e = f := by
  rw [plD_lt, decide_eq_false_iff_not] at h1 h2
  have a : e.1 = f.1 := LexLe.anti (fun z => h2 (.inl z)) (fun z => h1 (.inl z))
  refine Prod.ext a ?_
  have b1 : ¬ e.2 < f.2 := fun z => h1 (.inr ⟨a, z⟩)
  have b2 : ¬ f.2 < e.2 := fun z => h2 (.inr ⟨a.symm, z⟩)
  omega
theorem plL_asc (n d c : Nat) : (plL n d c).Pairwise fun e f => PySem.W.dataLt (plD f) (plD e) = false := by
  unfold plL
  have key : ∀ l : List (List Nat), l.Nodup → l.Pairwise LexLe → (l.flatMap fun ms => (List.range (c / C n d)).map fun r => (ms, r)).Pairwise fun e f => PySem.W.dataLt (plD f) (plD e) = false := by
    intro l
    induction l with
    | nil => intro _ _; exact List.Pairwise.nil
    | cons a r ih =>
      intro h hl
      obtain ⟨h1, h2⟩ := List.nodup_cons.mp h
      obtain ⟨g1, g2⟩ := List.pairwise_cons.mp hl
      rw [List.flatMap_cons]
      refine List.pairwise_append.mpr ⟨List.pairwise_map.mpr (List.Pairwise.imp (fun {i j} z => ?_) List.pairwise_lt_range), ih h2 g2, fun x hx y hy => ?_⟩
      · rw [plD_lt, decide_eq_false_iff_not]
        rintro (z2 | ⟨_, z2⟩)
        · exact List.lt_irrefl _ z2
        · have z3 : j < i := z2
          omega
      · obtain ⟨i, _, rfl⟩ := List.mem_map.mp hx
        obtain ⟨ms, hm, hy⟩ := List.mem_flatMap.mp hy
        obtain ⟨j, _, rfl⟩ := List.mem_map.mp hy
        rw [plD_lt, decide_eq_false_iff_not]
        rintro (z2 | ⟨z2, _⟩)
        · exact g1 ms hm z2
        · have z3 : ms = a := z2
          exact h1 (z3 ▸ hm)
  exact key _ (combsNodup _ _ (asc_nodup (asc_range' n 0))) (combs_lex _ _ (asc_range' n 0))
theorem pl_sorted {n d c : Nat} {bs : List (V × PyData)} (h : (bs.map (·.2)).Perm ((plL n d c).map plD)) : (bs.mergeSort dLe).map (·.2) = (plL n d c).map plD := by
  have pm := ((dsort_perm bs).map (·.2)).trans h
  refine List.Perm.eq_of_pairwise (le := fun a b => PySem.W.dataLt b a = false) (fun a b ha hb h1 h2 => ?_) ?_ ?_ pm
  · obtain ⟨e, he, rfl⟩ := List.mem_map.mp (pm.mem_iff.mp ha)
    obtain ⟨f, hf, rfl⟩ := List.mem_map.mp hb
    rw [plD_anti h2 h1]
  · refine List.pairwise_map.mpr ((dsort_asc bs).imp fun {a b} z => ?_)
    rw [dLe_lt] at z
    simpa using z
  · exact List.pairwise_map.mpr (plL_asc n d c)
theorem code_less {B : Int} : ∀ {a b : List Int}, a.length = b.length → TS.Bd B a → TS.Bd B b → b < a → TS.code B b < TS.code B a
  | [], [], _, _, _, h => absurd h (List.lt_irrefl _)
  | x :: r, y :: q, hl, ha, hb, h => by
    have hl2 : r.length = q.length := by simpa using hl
    rcases lt_cons.mp h with z | ⟨rfl, z⟩
    · exact TS.code_lt hl2.symm hb.tail ha.tail z
    · exact (TS.code_same hl2.symm).mpr (code_less hl2 ha.tail hb.tail z)
  | [], _ :: _, hl, _, _, _ => by simp at hl
  | _ :: _, [], hl, _, _, _ => by simp at hl
/-- the sorted sets -/
theorem sets_sorted {n d : Nat} (hn : n ≤ 60) {L : List (Addr × List Int)} (nd : (L.map (·.2)).Nodup) (srtd : L.Pairwise fun q r => TS.code 64 q.2 ≤ TS.code 64 r.2) (mem : ∀ k, k ∈ L.map (·.2) ↔ ∃ ms ∈ combs (List.range' 0 n) d, k = intL ms) : L.map (·.2) = (combs (List.range' 0 n) d).map intL := by
  have bd : ∀ ms ∈ combs (List.range' 0 n) d, (intL ms).length = d ∧ TS.Bd 64 (intL ms) := fun ms hm => by
    obtain ⟨g1, g2⟩ := combs_good _ _ ms hm
    refine ⟨by rw [List.length_map, g1], fun m hm => ?_⟩
    obtain ⟨x, hx, rfl⟩ := List.mem_map.mp hm
    have := mem_range0.mp (g2.subset hx)
    omega
  have inj : ∀ {a b : List Nat}, intL a = intL b → a = b := fun {a b} h => LexLe.anti (fun z => List.lt_irrefl _ (h ▸ z)) (fun z => List.lt_irrefl _ (h ▸ z))
  have n2 : ((combs (List.range' 0 n) d).map intL).Nodup := List.pairwise_map.mpr ((combsNodup _ _ (asc_nodup (asc_range' n 0))).imp fun z e => z (inj e))
  have pm : (L.map (·.2)).Perm ((combs (List.range' 0 n) d).map intL) := (List.perm_ext_iff_of_nodup nd n2).mpr fun k => by
    rw [mem k, List.mem_map]
    exact ⟨fun ⟨ms, h1, h2⟩ => ⟨ms, h1, h2.symm⟩, fun ⟨ms, h1, h2⟩ => ⟨ms, h1, h2.symm⟩⟩
  refine List.Perm.eq_of_pairwise (le := fun a b : List Int => ¬ b < a) (fun a b ha hb h1 h2 => ?_) ?_ ?_ pm
  · obtain ⟨x, hx, rfl⟩ := (mem a).mp ha
    obtain ⟨y, hy, rfl⟩ := List.mem_map.mp hb
    exact congrArg intL (LexLe.anti h1 h2)
  · refine List.pairwise_map.mpr (List.Pairwise.imp_of_mem (fun {a b} ha hb z z2 => ?_) srtd)
    obtain ⟨x, hx, ex⟩ := (mem a.2).mp (List.mem_map.mpr ⟨a, ha, rfl⟩)
    obtain ⟨y, hy, ey⟩ := (mem b.2).mp (List.mem_map.mpr ⟨b, hb, rfl⟩)
    obtain ⟨l1, b1⟩ := bd x hx
    obtain ⟨l2, b2⟩ := bd y hy
    rw [ex, ey] at z z2
    have := code_less (by rw [l1, l2]) b1 b2 z2
    omega
  · exact List.pairwise_map.mpr (combs_lex _ _ (asc_range' n 0))
end Ef
namespace Ef
open PySem PySem.Spec PyProof.Rows L2
def topS (i : Nat) : Stmt := PySem.Challenge.pw_evenfailover_k08_places_and_numbers.main.body.getD i (.Pass ⟨0, 0, 0, 0⟩)
abbrev sPlain : Stmt := topS 5
abbrev NPlain : List Str := ["thing"]
theorem scPlain : FnScope ["thing"] ["thing"] (defScope sPlain) := ⟨rfl, rfl, rfl, by decide +kernel, rfl, by decide +kernel, by decide +kernel⟩
abbrev sBin : Stmt := topS 6
abbrev NBin : List Str := ["n", "k", "result", "step"]
theorem scBin : FnScope ["n", "k", "result", "step"] ["n", "k"] (defScope sBin) := ⟨rfl, rfl, rfl, by decide +kernel, rfl, by decide +kernel, by decide +kernel⟩
abbrev sParts : Stmt := topS 7
abbrev NParts : List Str := ["n", "depth"]
theorem scParts : FnScope ["n", "depth"] ["n", "depth"] (defScope sParts) := ⟨rfl, rfl, rfl, by decide +kernel, rfl, by decide +kernel, by decide +kernel⟩
abbrev sPoss : Stmt := topS 8
abbrev NPoss : List Str := ["n", "depth", "count", "part"]
theorem scPoss : FnScope ["n", "depth", "count", "part"] ["n", "depth", "count"] (defScope sPoss) := ⟨rfl, rfl, rfl, by decide +kernel, rfl, by decide +kernel, by decide +kernel⟩
abbrev sChkP : Stmt := topS 9
abbrev NChkP : List Str := ["n", "depth", "count"]
theorem scChkP : FnScope ["n", "depth", "count"] ["n", "depth", "count"] (defScope sChkP) := ⟨rfl, rfl, rfl, by decide +kernel, rfl, by decide +kernel, by decide +kernel⟩
abbrev sChkN : Stmt := topS 10
abbrev NChkN : List Str := ["value", "many"]
theorem scChkN : FnScope ["value", "many"] ["value", "many"] (defScope sChkN) := ⟨rfl, rfl, rfl, by decide +kernel, rfl, by decide +kernel, by decide +kernel⟩
abbrev sWid : Stmt := topS 12
abbrev NWid : List Str := ["n", "depth", "count", "widths", "edges", "size"]
theorem scWid : FnScope ["n", "depth", "count", "widths", "edges", "size"] ["n", "depth", "count"] (defScope sWid) := ⟨rfl, rfl, rfl, by decide +kernel, rfl, by decide +kernel, by decide +kernel⟩
abbrev sFollow : Stmt := topS 13
abbrev NFollow : List Str := ["widths", "servers", "rest", "left", "taken", "width", "index", "server"]
theorem scFollow : FnScope ["widths", "servers", "rest", "left", "taken", "width", "index", "server"] ["widths", "servers", "rest"] (defScope sFollow) := ⟨rfl, rfl, rfl, by decide +kernel, rfl, by decide +kernel, by decide +kernel⟩
abbrev sPath : Stmt := topS 14
abbrev NPath : List Str := ["n", "depth", "count", "number"]
theorem scPath : FnScope ["n", "depth", "count", "number"] ["n", "depth", "count", "number"] (defScope sPath) := ⟨rfl, rfl, rfl, by decide +kernel, rfl, by decide +kernel, by decide +kernel⟩
abbrev sPlaceAt : Stmt := topS 15
abbrev NPlaceAt : List Str := ["n", "depth", "count", "number", "order", "rest"]
theorem scPlaceAt : FnScope ["n", "depth", "count", "number", "order", "rest"] ["n", "depth", "count", "number"] (defScope sPlaceAt) := ⟨rfl, rfl, rfl, by decide +kernel, rfl, by decide +kernel, by decide +kernel⟩
abbrev sNumAt : Stmt := topS 16
abbrev NNumAt : List Str := ["n", "count", "members", "rest", "size", "widths", "taken", "number"]
theorem scNumAt : FnScope ["n", "count", "members", "rest", "size", "widths", "taken", "number"] ["n", "count", "members", "rest"] (defScope sNumAt) := ⟨rfl, rfl, rfl, by decide +kernel, rfl, by decide +kernel, by decide +kernel⟩
abbrev sPot : Stmt := topS 18
abbrev NPot : List Str := ["_law_script", "_law_spot", "_law_cell", "_law_own"]
theorem scPot : FnScope ["_law_script", "_law_spot", "_law_cell", "_law_own"] ["_law_script", "_law_spot"] (defScope sPot) := ⟨rfl, rfl, rfl, by decide +kernel, rfl, by decide +kernel, by decide +kernel⟩
abbrev sTake : Stmt := topS 19
abbrev NTake : List Str := ["_law_pot_here", "_law_upto", "_law_digit", "_law_prime", "_law_drawn"]
theorem scTake : FnScope ["_law_pot_here", "_law_upto", "_law_digit", "_law_prime", "_law_drawn"] ["_law_pot_here", "_law_upto"] (defScope sTake) := ⟨rfl, rfl, rfl, by decide +kernel, rfl, by decide +kernel, by decide +kernel⟩
abbrev sOf : Stmt := topS 20
abbrev NOf : List Str := ["_law_pot_here", "_law_some"]
theorem scOf : FnScope ["_law_pot_here", "_law_some"] ["_law_pot_here", "_law_some"] (defScope sOf) := ⟨rfl, rfl, rfl, by decide +kernel, rfl, by decide +kernel, by decide +kernel⟩
abbrev sRows : Stmt := topS 21
abbrev NRows : List Str := ["_law_rows_here", "_law_last", "_law_at"]
theorem scRows : FnScope ["_law_rows_here", "_law_last", "_law_at"] [] (defScope sRows) := ⟨rfl, rfl, rfl, by decide +kernel, rfl, by decide +kernel, by decide +kernel⟩
abbrev sCommon : Stmt := topS 22
abbrev NCommon : List Str := ["_law_one", "_law_other"]
theorem scCommon : FnScope ["_law_one", "_law_other"] ["_law_one", "_law_other"] (defScope sCommon) := ⟨rfl, rfl, rfl, by decide +kernel, rfl, by decide +kernel, by decide +kernel⟩
abbrev sLeast : Stmt := topS 23
abbrev NLeast : List Str := ["_law_rows_here", "_law_wide", "_law_tall", "_law_found", "_law_level", "_law_edges"]
theorem scLeast : FnScope ["_law_rows_here", "_law_wide", "_law_tall", "_law_found", "_law_level", "_law_edges"] ["_law_rows_here", "_law_wide", "_law_tall"] (defScope sLeast) := ⟨rfl, rfl, rfl, by decide +kernel, rfl, by decide +kernel, by decide +kernel⟩
abbrev sWalk : Stmt := topS 24
abbrev NWalk : List Str := ["_law_rows_here", "_law_wide", "_law_tall", "_law_total", "_law_spot", "_law_first", "_law_inside", "_law_left", "_law_level", "_law_width", "_law_free", "_law_one"]
theorem scWalk : FnScope ["_law_rows_here", "_law_wide", "_law_tall", "_law_total", "_law_spot", "_law_first", "_law_inside", "_law_left", "_law_level", "_law_width", "_law_free", "_law_one"] ["_law_rows_here", "_law_wide", "_law_tall", "_law_total", "_law_spot"] (defScope sWalk) := ⟨rfl, rfl, rfl, by decide +kernel, rfl, by decide +kernel, by decide +kernel⟩
abbrev sSmall : Stmt := topS 25
abbrev NSmall : List Str := ["_law_rows_here", "_law_wide", "_law_tall", "_law_total", "_law_places", "_law_at", "_law_inside", "_law_left", "_law_sizes", "_law_due", "_law_one"]
theorem scSmall : FnScope ["_law_rows_here", "_law_wide", "_law_tall", "_law_total", "_law_places", "_law_at", "_law_inside", "_law_left", "_law_sizes", "_law_due", "_law_one"] ["_law_rows_here", "_law_wide", "_law_tall", "_law_total"] (defScope sSmall) := ⟨rfl, rfl, rfl, by decide +kernel, rfl, by decide +kernel, by decide +kernel⟩
abbrev sGreat : Stmt := topS 26
abbrev NGreat : List Str := ["_law_pot_here", "_law_rows_here", "_law_wide", "_law_tall", "_law_total", "_law_free", "_law_some", "_law_turn", "_law_inside", "_law_left", "_law_at"]
theorem scGreat : FnScope ["_law_pot_here", "_law_rows_here", "_law_wide", "_law_tall", "_law_total", "_law_free", "_law_some", "_law_turn", "_law_inside", "_law_left", "_law_at"] ["_law_pot_here", "_law_rows_here"] (defScope sGreat) := ⟨rfl, rfl, rfl, by decide +kernel, rfl, by decide +kernel, by decide +kernel⟩
abbrev sLaw : Stmt := topS 27
abbrev NLaw : List Str := ["_law_script", "_law_rows_here", "_law_wide", "_law_tall", "_law_least_here", "_law_often", "_law_spot", "_law_pot_here", "_law_turn"]
theorem scLaw : FnScope ["_law_script", "_law_rows_here", "_law_wide", "_law_tall", "_law_least_here", "_law_often", "_law_spot", "_law_pot_here", "_law_turn"] ["_law_script"] (defScope sLaw) := ⟨rfl, rfl, rfl, by decide +kernel, rfl, by decide +kernel, by decide +kernel⟩
abbrev sNoN : Stmt := inClass (topS 2) 0
theorem scNoN : FnScope ["self", "value"] ["self", "value"] (defScope sNoN) := ⟨rfl, rfl, rfl, by decide +kernel, rfl, by decide +kernel, by decide +kernel⟩
abbrev sNotP : Stmt := inClass (topS 3) 0
theorem scNotP : FnScope ["self", "count"] ["self", "count"] (defScope sNotP) := ⟨rfl, rfl, rfl, by decide +kernel, rfl, by decide +kernel, by decide +kernel⟩
/-- what stands behind the top: each def, how it binds, and that the built-ins' names are free -/
structure Txt (K : PySem.W.Frag) (mg : Str → Option Value) where
  fPlain : Addr
  fdPlain : FuncData
  FPlain : Fun K "is_plain_int" "is_plain_int" sPlain fPlain fdPlain
  bPlain : Binds K fdPlain ["thing"] []
  gPlain : mg "is_plain_int" = some (.ref fPlain)
  fBin : Addr
  fdBin : FuncData
  FBin : Fun K "binomial" "binomial" sBin fBin fdBin
  bBin : Binds K fdBin ["n", "k"] []
  gBin : mg "binomial" = some (.ref fBin)
  fParts : Addr
  fdParts : FuncData
  FParts : Fun K "level_parts" "level_parts" sParts fParts fdParts
  bParts : Binds K fdParts ["n", "depth"] []
  gParts : mg "level_parts" = some (.ref fParts)
  fPoss : Addr
  fdPoss : FuncData
  FPoss : Fun K "is_possible" "is_possible" sPoss fPoss fdPoss
  bPoss : Binds K fdPoss ["n", "depth", "count"] []
  gPoss : mg "is_possible" = some (.ref fPoss)
  fChkP : Addr
  fdChkP : FuncData
  FChkP : Fun K "check_possible" "check_possible" sChkP fChkP fdChkP
  bChkP : Binds K fdChkP ["n", "depth", "count"] []
  gChkP : mg "check_possible" = some (.ref fChkP)
  fChkN : Addr
  fdChkN : FuncData
  FChkN : Fun K "check_number" "check_number" sChkN fChkN fdChkN
  bChkN : Binds K fdChkN ["value", "many"] []
  gChkN : mg "check_number" = some (.ref fChkN)
  fWid : Addr
  fdWid : FuncData
  FWid : Fun K "level_widths" "level_widths" sWid fWid fdWid
  bWid : Binds K fdWid ["n", "depth", "count"] []
  gWid : mg "level_widths" = some (.ref fWid)
  fFollow : Addr
  fdFollow : FuncData
  FFollow : Fun K "follow" "follow" sFollow fFollow fdFollow
  bFollow : Binds K fdFollow ["widths", "servers", "rest"] []
  gFollow : mg "follow" = some (.ref fFollow)
  fPath : Addr
  fdPath : FuncData
  FPath : Fun K "path" "path" sPath fPath fdPath
  bPath : Binds K fdPath ["n", "depth", "count", "number"] []
  gPath : mg "path" = some (.ref fPath)
  fPlaceAt : Addr
  fdPlaceAt : FuncData
  FPlaceAt : Fun K "place_at" "place_at" sPlaceAt fPlaceAt fdPlaceAt
  bPlaceAt : Binds K fdPlaceAt ["n", "depth", "count", "number"] []
  gPlaceAt : mg "place_at" = some (.ref fPlaceAt)
  fNumAt : Addr
  fdNumAt : FuncData
  FNumAt : Fun K "number_at" "number_at" sNumAt fNumAt fdNumAt
  bNumAt : Binds K fdNumAt ["n", "count", "members", "rest"] []
  gNumAt : mg "number_at" = some (.ref fNumAt)
  fPot : Addr
  fdPot : FuncData
  FPot : Fun K "_law_pot" "_law_pot" sPot fPot fdPot
  bPot : Binds K fdPot ["_law_script", "_law_spot"] []
  gPot : mg "_law_pot" = some (.ref fPot)
  fTake : Addr
  fdTake : FuncData
  FTake : Fun K "_law_take" "_law_take" sTake fTake fdTake
  bTake : Binds K fdTake ["_law_pot_here", "_law_upto"] []
  gTake : mg "_law_take" = some (.ref fTake)
  fOf : Addr
  fdOf : FuncData
  FOf : Fun K "_law_of" "_law_of" sOf fOf fdOf
  bOf : Binds K fdOf ["_law_pot_here", "_law_some"] []
  gOf : mg "_law_of" = some (.ref fOf)
  fRows : Addr
  fdRows : FuncData
  FRows : Fun K "_law_rows" "_law_rows" sRows fRows fdRows
  bRows : Binds K fdRows [] []
  gRows : mg "_law_rows" = some (.ref fRows)
  fCommon : Addr
  fdCommon : FuncData
  FCommon : Fun K "_law_common" "_law_common" sCommon fCommon fdCommon
  bCommon : Binds K fdCommon ["_law_one", "_law_other"] []
  gCommon : mg "_law_common" = some (.ref fCommon)
  fLeast : Addr
  fdLeast : FuncData
  FLeast : Fun K "_law_least" "_law_least" sLeast fLeast fdLeast
  bLeast : Binds K fdLeast ["_law_rows_here", "_law_wide", "_law_tall"] []
  gLeast : mg "_law_least" = some (.ref fLeast)
  fWalk : Addr
  fdWalk : FuncData
  FWalk : Fun K "_law_walk" "_law_walk" sWalk fWalk fdWalk
  bWalk : Binds K fdWalk ["_law_rows_here", "_law_wide", "_law_tall", "_law_total", "_law_spot"] []
  gWalk : mg "_law_walk" = some (.ref fWalk)
  fSmall : Addr
  fdSmall : FuncData
  FSmall : Fun K "_law_small_right" "_law_small_right" sSmall fSmall fdSmall
  bSmall : Binds K fdSmall ["_law_rows_here", "_law_wide", "_law_tall", "_law_total"] []
  gSmall : mg "_law_small_right" = some (.ref fSmall)
  fGreat : Addr
  fdGreat : FuncData
  FGreat : Fun K "_law_great_right" "_law_great_right" sGreat fGreat fdGreat
  bGreat : Binds K fdGreat ["_law_pot_here", "_law_rows_here"] []
  gGreat : mg "_law_great_right" = some (.ref fGreat)
  kNumAt_rest_members_count_n : KBinds K fdNumAt ["n", "count", "members", "rest"] ["rest", "members", "count", "n"] (permL [3, 2, 1, 0] 4) (permL [3, 2, 1, 0] 4)
  cBase : Addr
  gcBase : mg "FailoverError" = some (.ref cBase)
  btBase : BaseT K cBase
  cNoN : Addr
  gcNoN : mg "NoNumber" = some (.ref cNoN)
  fNoN : Addr
  fdNoN : FuncData
  FNoN : Fun K "__init__" "NoNumber.__init__" sNoN fNoN fdNoN
  bNoN : Binds K fdNoN ["self", "value"] []
  eNoN : ErrT K cNoN fNoN "value" cBase
  cNotP : Addr
  gcNotP : mg "NotPossible" = some (.ref cNotP)
  fNotP : Addr
  fdNotP : FuncData
  FNotP : Fun K "__init__" "NotPossible.__init__" sNotP fNotP fdNotP
  bNotP : Binds K fdNotP ["self", "count"] []
  eNotP : ErrT K cNotP fNotP "count" cBase
  n_ValueError : mg "ValueError" = none
  n_abs : mg "abs" = none
  n_all : mg "all" = none
  n_bool : mg "bool" = none
  n_int : mg "int" = none
  n_isinstance : mg "isinstance" = none
  n_len : mg "len" = none
  n_list : mg "list" = none
  n_max : mg "max" = none
  n_min : mg "min" = none
  n_range : mg "range" = none
  n_reversed : mg "reversed" = none
  n_set : mg "set" = none
  n_sorted : mg "sorted" = none
  n_tuple : mg "tuple" = none
/-! ### is_plain_int -/
def tyNames : List String := ["NoneType", "bool", "int", "str", "list", "tuple", "dict"]
def spPlain (K : PySem.W.Frag) : Sp := fun vs H Q _ => ∃ (v : V) (t : String), vs = [v] ∧ TyX K H v (.type t) ∧ t ∈ tyNames ∧ Q (.bl (t == "int")) H
theorem ty_cases {t : String} (h : t ∈ tyNames) : t = "NoneType" ∨ t = "bool" ∨ t = "int" ∨ t = "str" ∨ t = "list" ∨ t = "tuple" ∨ t = "dict" := by
  unfold tyNames at h
  simp only [List.mem_cons, List.not_mem_nil, or_false] at h
  exact h
theorem kit_int {K : PySem.W.Frag} {t : String} (h : t ∈ tyNames) : PySem.W.kitOne K (.type t) (.type "int") = some (t == "int" || t == "bool") := by
  rcases ty_cases h with rfl | rfl | rfl | rfl | rfl | rfl | rfl <;> exact kit_ty (by decide +kernel)
theorem kit_bool {K : PySem.W.Frag} {t : String} (h : t ∈ tyNames) : PySem.W.kitOne K (.type t) (.type "bool") = some (t == "bool") := by
  rcases ty_cases h with rfl | rfl | rfl | rfl | rfl | rfl | rfl <;> exact kit_ty (by decide +kernel)
theorem kit_tuple {K : PySem.W.Frag} {t : String} (h : t ∈ tyNames) : PySem.W.kitOne K (.type t) (.type "tuple") = some (t == "tuple") := by
  rcases ty_cases h with rfl | rfl | rfl | rfl | rfl | rfl | rfl <;> exact kit_ty (by decide +kernel)
section
variable {P : Program} {w : World} {K : PySem.W.Frag} {mg : Str → Option Value} {base : Heap}
theorem ok_plain (T : Txt K mg) {j : Nat} : FnOk P w K mg base CX0 (j + 1) T.fPlain T.fdPlain ["thing"] (spPlain K) := by
  refine T.FPlain.ok scPlain (fun vs H Q E h => ?_) (fun cdv A outer s H vs Q E hr h => ?_)
  · obtain ⟨v, t, rfl, _⟩ := h
    rfl
  · obtain ⟨v, t, rfl, ty, ht, q⟩ := h
    refine ⟨_, pss_one (ps_ret (pe_and (pe_callB call_isi (by rfl) T.n_isinstance (by decide +kernel) (pa_cons (pv 0) (pa_cons (pe_bltn (v := .ty "int") (by rfl) T.n_int (by decide +kernel) rfl) pa_nil)))
      (pe_one (pe_not (pe_callB call_isi (by rfl) T.n_isinstance (by decide +kernel) (pa_cons (pv 0) (pa_cons (pe_bltn (v := .ty "bool") (by rfl) T.n_bool (by decide +kernel) rfl) pa_nil))))))), ?_⟩
    refine ⟨v, rfl, v, .ty "int", _, _, _, rfl, .ty _, ty, kit_int ht, _, rfl, ?_⟩
    rcases ty_cases ht with rfl | rfl | rfl | rfl | rfl | rfl | rfl
    · exact iteF q
    · exact iteT ⟨v, rfl, v, .ty "bool", _, _, _, rfl, .ty _, ty, kit_bool ht, _, rfl, q⟩
    · exact iteT ⟨v, rfl, v, .ty "bool", _, _, _, rfl, .ty _, ty, kit_bool ht, _, rfl, q⟩
    · exact iteF q
    · exact iteF q
    · exact iteF q
    · exact iteF q
end
/-! ### binomial -/
def spBin : Sp := fun vs H Q _ => ∃ n k : Int, vs = [.int n, .int k] ∧ n ≤ 60 ∧ Q (.int (binZ n k)) H
section
variable {P : Program} {w : World} {K : PySem.W.Frag} {mg : Str → Option Value} {base : Heap}
theorem ok_bin (T : Txt K mg) {j : Nat} : FnOk P w K mg base CX0 (j + 1) T.fBin T.fdBin ["n", "k"] spBin := by
  refine T.FBin.ok scBin (fun vs H Q E h => ?_) (fun cdv A outer s H vs Q E hr h => ?_)
  · obtain ⟨n, k, rfl, _⟩ := h
    rfl
  · obtain ⟨n, k, rfl, hn, q⟩ := h
    refine ⟨_, pss_cons (ps_if (PW.pt (pw_or (pt_cmpR op_lt (pv 1) pe_int (nomark _)) (pw_or1 (pt_cmpR op_gt (pv 1) (pv 0) (nomark _))))) (pss_one (ps_ret pe_int)) pss_nil)
      (pss_cons (ps_set (i := 2) scBin.nd rfl (.inl rfl) pe_int)
      (pss_cons (ps_for PassesOwn.never rfl (pi_range2 (by rfl) T.n_range (pa_cons pe_int (pa_cons (pe_op op_add (pe_callB (call_min2 rfl) (by rfl) T.n_min (by decide +kernel) (pa_cons (pv 1) (pa_cons (pe_op op_sub (pv 0) (pv 1)) pa_nil))) pe_int) pa_nil)))
          (pg_name (i := 3) scBin.nd rfl (.inl rfl))
          (pss_one (ps_set (i := 2) scBin.nd rfl (.inl rfl) (pe_op op_fdiv (pe_op op_mul (pv 2) (pe_op op_sub (pe_op op_add (pv 0) pe_int) (pv 3))) (pv 3)))))
      (pss_one (ps_ret (pv 2))))), ?_⟩
    refine ⟨_, rfl, _, _, rfl, rfl, _, rfl, ite2 (fun h1 => ?_) (fun h1 => ?_)⟩
    · have e : binZ n k = 0 := if_pos (.inl (of_decide_eq_true h1))
      rw [e] at q
      exact iteT q
    · refine ⟨_, rfl, _, rfl, _, _, rfl, rfl, _, rfl, ite2 (fun h2 => ?_) (fun h2 => ?_)⟩
      · have e : binZ n k = 0 := if_pos (.inr (of_decide_eq_true h2))
        rw [e] at q
        exact q
      · have k0 : 0 ≤ k := by
          have := of_decide_eq_false (Bool.eq_false_iff.mpr h1)
          omega
        have kn : k ≤ n := by
          have := of_decide_eq_false (Bool.eq_false_iff.mpr h2)
          omega
        obtain ⟨a, rfl⟩ := Int.eq_ofNat_of_zero_le k0
        obtain ⟨b, rfl⟩ := Int.eq_ofNat_of_zero_le (Int.le_trans k0 kn)
        have hab : a ≤ b := by omega
        have hb : b ≤ 60 := by omega
        have em : (if (b : Int) - (a : Int) < (a : Int) then (b : Int) - (a : Int) else (a : Int)) = ((min a (b - a) : Nat) : Int) := by
          by_cases c : b - a < a
          · rw [if_pos (by omega), Nat.min_eq_right (by omega)]
            omega
          · rw [if_neg (by omega), Nat.min_eq_left (by omega)]
        refine ⟨_, rfl, _, rfl, _, rfl, _, _, rfl, rfl, _, _, rfl, _, _, rfl, rfl, ?_⟩
        rw [em]
        refine ⟨_, _, rfl, ⟨by decide, by decide, by omega, by omega⟩, ?_⟩
        refine for_range (lo := 1) (n := (((min a (b - a) : Nat) : Int) + 1 - 1).toNat) (fun i σ H2 => ∃ v, σ = [some (.int b), some (.int a), some (.int (C b i)), v] ∧ H2 = H) ?_ ?_ ?_
        · exact ⟨none, by rw [C_zero]; rfl, rfl⟩
        · rintro i σ H2 hi ⟨v, rfl, rfl⟩
          have hib : i < b := by omega
          have c60 := C_60 b i hb
          refine ⟨_, rfl, _, rfl, _, _, rfl, rfl, _, rfl, _, _, rfl, rfl, _, _, rfl, rfl, .inl ⟨by omega, by omega⟩, _, rfl, _, _, rfl, rfl, ⟨by omega, by omega⟩, ?_⟩
          refine ⟨some (.int (1 + (i : Int))), ?_, rfl⟩
          show [some (V.int (b : Int)), some (V.int (a : Int)), some (V.int (((C b i : Int) * ((b : Int) + 1 - (1 + (i : Int)))) / (1 + (i : Int)))), some (V.int (1 + (i : Int)))] = _
          rw [C_div b i hib]
        · rintro σ H2 ⟨v, rfl, rfl⟩
          refine ⟨_, rfl, ?_⟩
          have e1 : (((min a (b - a) : Nat) : Int) + 1 - 1).toNat = min a (b - a) := by omega
          have e2 : binZ (b : Int) (a : Int) = ((C b (((min a (b - a) : Nat) : Int) + 1 - 1).toNat : Nat) : Int) := by
            rw [e1, C_min b a hab]
            exact binZ_nat b a
          rw [e2] at q
          exact q
end
/-! ### tuples and lists of servers -/
def setV (ms : List Nat) : List V := ms.map fun (m : Nat) => V.int (m : Int)
theorem setV_app (a b : List Nat) : setV (a ++ b) = setV a ++ setV b := List.map_append
theorem setV_at {ms : List Nat} {i m : Nat} (h : ms[i]? = some m) : (setV ms)[i]? = some (V.int (m : Int)) := by
  unfold setV
  rw [List.getElem?_map, h]
  rfl
theorem setV_len (ms : List Nat) : (setV ms).length = ms.length := List.length_map _
theorem setV_range (n : Nat) : rgV 0 (n : Int) = setV (List.range' 0 n) := by
  unfold setV
  have e : ((n : Int) - 0).toNat = n := by omega
  unfold rgV
  rw [e, List.range_eq_range']
  refine List.map_congr_left fun i _ => ?_
  rw [Int.zero_add]
theorem seq_at {k n : Nat} (h : k < n) : seqIndex? (k : Int) n = some k := by
  unfold seqIndex?
  simp only [show ¬ ((k : Int) < 0) by omega, if_false]
  rw [if_pos]
  · rw [Int.toNat_natCast]
  · rw [Bool.and_eq_true]
    exact ⟨decide_eq_true (by omega), decide_eq_true (by omega)⟩
theorem SqL.is {K : PySem.W.Frag} {H : Hp} {a : Addr} {xs ys : List V} (h : SqL K H a xs) (e : xs = ys) : SqL K H a ys := e ▸ h
theorem setV_erase : ∀ (l : List Nat) (k : Nat), (setV l).eraseIdx k = setV (l.eraseIdx k)
  | [], _ => rfl
  | _ :: _, 0 => rfl
  | a :: r, k + 1 => congrArg (V.int (a : Int) :: ·) (setV_erase r k)
theorem setV_ints (ms : List Nat) : setV ms = (ms.map fun (m : Nat) => (m : Int)).map V.int := by
  unfold setV
  rw [List.map_map]
  rfl
theorem ints_back {ns : List Int} {ms : List Nat} (h : ns.Perm (ms.map fun (m : Nat) => (m : Int))) : ∃ ks : List Nat, ns = (ks.map fun (m : Nat) => (m : Int)) ∧ ks.Perm ms := by
  have e : ∀ x ∈ ns, ((x.toNat : Nat) : Int) = x := fun x hx => by
    obtain ⟨m, _, rfl⟩ := List.mem_map.mp (h.mem_iff.mp hx)
    simp
  refine ⟨ns.map Int.toNat, ?_, ?_⟩
  · rw [List.map_map]
    conv => lhs; rw [← List.map_id ns]
    exact List.map_congr_left fun x hx => (e x hx).symm
  · have h2 := h.map Int.toNat
    rw [List.map_map] at h2
    have e2 : (ms.map (Int.toNat ∘ fun (m : Nat) => (m : Int))) = ms := by
      conv => rhs; rw [← List.map_id ms]
      exact List.map_congr_left fun x _ => by simp
    rw [e2] at h2
    exact h2
theorem le_back {ks : List Nat} (h : (ks.map fun (m : Nat) => (m : Int)).Pairwise (· ≤ ·)) : ks.Pairwise (· ≤ ·) := by
  rw [List.pairwise_map] at h
  exact h.imp fun z => by omega
theorem lt_of_le {ks : List Nat} (h : ks.Pairwise (· ≤ ·)) (hn : ks.Nodup) : Asc ks := (h.and hn).imp fun ⟨a, b⟩ => by omega
theorem inV_ints (x : Int) : ∀ ns : List Int, inV (V.int x) (ns.map V.int) = decide (x ∈ ns)
  | [] => rfl
  | y :: r => by
    show ((y == x) || inV (V.int x) (r.map V.int)) = _
    rw [inV_ints x r]
    by_cases h : y = x
    · subst h
      rw [beq_self_eq_true, decide_eq_true List.mem_cons_self]
      rfl
    · rw [show (y == x) = false from beq_eq_false_iff_ne.mpr h, Bool.false_or]
      by_cases g : x ∈ r
      · rw [decide_eq_true g, decide_eq_true (List.mem_cons_of_mem _ g)]
      · rw [decide_eq_false g, decide_eq_false fun z => ?_]
        rcases List.mem_cons.mp z with z | z
        · exact h z.symm
        · exact g z
theorem flat_ints : ∀ ns : List Int, (ns.map V.int).all flatV = true
  | [] => rfl
  | _ :: r => flat_ints r
theorem setV_flat (ms : List Nat) : (setV ms).all flatV = true := by
  rw [setV_ints]
  exact flat_ints _
theorem inV_setV (x : Nat) (ms : List Nat) : inV (.int (x : Int)) (setV ms) = decide (x ∈ ms) := by
  rw [setV_ints, inV_ints]
  refine decide_eq_decide.mpr ⟨fun h => ?_, fun h => List.mem_map.mpr ⟨x, h, rfl⟩⟩
  obtain ⟨y, hy, e⟩ := List.mem_map.mp h
  have : y = x := by omega
  rw [← this]
  exact hy
theorem setV_mem {ms : List Nat} {v : V} (h : v ∈ setV ms) : ∃ m, m ∈ ms ∧ v = .int (m : Int) := by
  obtain ⟨m, hm, e⟩ := List.mem_map.mp h
  exact ⟨m, hm, e.symm⟩
theorem setV_get {ms : List Nat} {i : Nat} {v : V} (h : (setV ms)[i]? = some v) : ∃ m, ms[i]? = some m ∧ v = .int (m : Int) := by
  unfold setV at h
  rw [List.getElem?_map] at h
  cases e : ms[i]? with
  | none =>
    rw [e] at h
    cases h
  | some m =>
    rw [e] at h
    exact ⟨m, rfl, (Option.some.inj h).symm⟩
theorem range'_snoc (n : Nat) : List.range' 0 (n + 1) = List.range' 0 n ++ [n] := by
  rw [← List.range_eq_range', ← List.range_eq_range', List.range_succ]
theorem fr_step (f : Nat → Bool) (n : Nat) : setV ((List.range' 0 (n + 1)).filter f) = setV ((List.range' 0 n).filter f) ++ if f n = true then [V.int (n : Int)] else [] := by
  rw [range'_snoc, List.filter_append, setV_app]
  congr 1
  cases h : f n with
  | true => rw [List.filter_cons_of_pos h]; rfl
  | false => rw [List.filter_cons_of_neg (by rw [h]; decide)]; rfl
/-- what an error of the class CN with the field f leaves behind -/
def Raised (f : Str) (CN : Addr) (v : V) (H : Hp) (E : XK) : Prop := ∀ H' d, Same H H' → H' d = some (.xd [(f, v)]) → H d = none → E (.ref CN) (some d) H'
theorem Raised.on {f : Str} {CN : Addr} {v : V} {H H1 : Hp} {E : XK} (s : Same H H1) (h : Raised f CN v H E) : Raised f CN v H1 E := fun H' d s2 e n => h H' d (s.trans s2) e (s.free n)
theorem cut_set (ms : List Nat) (lo hi : Option Int) : ∃ ks : List Nat, cutV (setV ms) lo hi = setV ks ∧ (∀ x ∈ ks, x ∈ ms) ∧ ks.length ≤ ms.length ∧ ks.Sublist ms := by
  unfold cutV setV
  rw [← List.map_drop, ← List.map_take]
  refine ⟨_, rfl, fun x hx => List.mem_of_mem_drop (List.mem_of_mem_take hx), ?_, (List.take_sublist _ _).trans (List.drop_sublist _ _)⟩
  rw [List.length_take, List.length_drop]
  omega
def natOf : V → Nat
  | .int i => i.toNat
  | _ => 0
theorem perm_setV {ys : List V} {ms : List Nat} (h : ys.Perm (setV ms)) : ∃ ks : List Nat, ys = setV ks ∧ ks.Perm ms := by
  have e : ∀ y ∈ ys, V.int ((natOf y : Nat) : Int) = y := fun y hy => by
    obtain ⟨m, _, rfl⟩ := setV_mem (h.mem_iff.mp hy)
    show V.int (((m : Int).toNat : Nat) : Int) = _
    rw [Int.toNat_natCast]
  refine ⟨ys.map natOf, ?_, ?_⟩
  · unfold setV
    rw [List.map_map]
    conv => lhs; rw [← List.map_id ys]
    exact List.map_congr_left fun y hy => (e y hy).symm
  · have h2 := h.map natOf
    unfold setV at h2
    rw [List.map_map] at h2
    have e2 : (ms.map (natOf ∘ fun (m : Nat) => V.int (m : Int))) = ms := by
      conv => rhs; rw [← List.map_id ms]
      refine List.map_congr_left fun x _ => ?_
      show (x : Int).toNat = x
      rw [Int.toNat_natCast]
    rw [e2] at h2
    exact h2
theorem dp_set {K : PySem.W.Frag} {H : Hp} : ∀ ms : List Nat, DpAll K H (setV ms) (natD ms)
  | [] => .nil
  | m :: r => .cons (.int (m : Int)) (dp_set r)
theorem but_free {p q : Addr} {H H' : Hp} (s : But p H H') (h : H' q = none) (n : q ≠ p) : H q = none := by
  cases e : H q with
  | none => rfl
  | some o =>
    rw [s _ _ n e] at h
    cases h
theorem but_new {p q : Addr} {H H1 : Hp} {o : HO} (s : But p H H1) (h : H q = none) : But p H (L2.upd H1 q o) := fun b x n e => by
  rw [upd_ne (ne_of_none e h)]
  exact s b x n e
theorem erase_perm {α : Type} : ∀ (l : List α) (k : Nat) (x : α), l[k]? = some x → (x :: l.eraseIdx k).Perm l
  | [], _, _, h => by cases h
  | a :: r, 0, x, h => by
    obtain rfl : a = x := Option.some.inj h
    exact List.Perm.refl _
  | a :: r, k + 1, x, h => (List.Perm.swap a x _).trans ((erase_perm r k x h).cons a)
theorem same_hide {p : Addr} {H H' : Hp} (s : Same H H') (n : H p = none) : Same H (hide p H') := fun b o e => by
  rw [hide_ne (ne_of_none e n)]
  exact s b o e
theorem cut_take (fl : List Nat) (w : Nat) : cutV (setV fl) none (some (w : Int)) = setV (fl.take w) := by
  unfold cutV
  have e0 : HT.sIx (setV fl).length 0 none = 0 := rfl
  have e1 : HT.sIx (setV fl).length (setV fl).length (some (w : Int)) = min w fl.length := by
    rw [setV_len]
    exact HT.sIx_nat _ _ _
  rw [e0, e1, List.drop_zero, Nat.sub_zero]
  unfold setV
  rw [← List.map_take]
  congr 1
  rw [List.take_eq_take_iff]
  omega
theorem SqT_updL {K : PySem.W.Frag} {H : Hp} {a D : Addr} {xs ys : List V} {o : HO} (h : SqT K H a xs) (hD : H D = some (.lst ys)) : SqT K (upd H D o) a xs := by
  rcases h with (h | ⟨o, h⟩) | h
  · exact .inl (.inl (by rw [upd_ne (fun c => by rw [c, hD] at h; cases h)]; exact h))
  · exact .inl (.inr ⟨o, by rw [upd_ne (fun c => by rw [c, hD] at h; cases h)]; exact h⟩)
  · exact .inr h
/-- a pair of a tuple of servers and a number -/
def PairAt (H0 H : Hp) (u : Addr) (ms : List Nat) (r : Nat) : Prop := H0 u = none ∧ ∃ t, H0 t = none ∧ H u = some (.tup [.ref t, .int (r : Int)]) ∧ H t = some (.tup (setV ms))
theorem PairAt.back {H0 H1 H : Hp} {u : Addr} {ms : List Nat} {r : Nat} (s : Same H0 H1) (h : PairAt H1 H u ms r) : PairAt H0 H u ms r := by
  obtain ⟨a, t, b, c⟩ := h
  exact ⟨s.free a, t, s.free b, c⟩
theorem erase_setV : ∀ (l : List Nat) (k : Nat), (setV l).eraseIdx k = setV (l.eraseIdx k)
  | [], _ => rfl
  | _ :: _, 0 => rfl
  | a :: r, k + 1 => congrArg (V.int (a : Int) :: ·) (erase_setV r k)
/-! ### level_parts -/
def spParts : Sp := fun vs H Q _ => ∃ n d : Nat, vs = [.int n, .int d] ∧ n ≤ 60 ∧ d ≤ n ∧ ∀ p, H p = none → Q (.ref p) (upd H p (.lst (setV (partsV n d))))
theorem rg_parts {n d : Nat} (h : d ≤ n) : rgC (n : Int) (-1) d = setV (partsV n d) := by
  unfold rgC setV partsV
  rw [List.map_map]
  refine List.map_congr_left fun i hi => ?_
  have := List.mem_range.mp hi
  show V.int ((n : Int) + ((i : Nat) : Int) * (-1)) = V.int ((n - i : Nat) : Int)
  congr 1
  omega
section
variable {P : Program} {w : World} {K : PySem.W.Frag} {mg : Str → Option Value} {base : Heap}
theorem ok_parts (T : Txt K mg) {j : Nat} : FnOk P w K mg base CX0 (j + 1) T.fParts T.fdParts ["n", "depth"] spParts := by
  refine T.FParts.ok scParts (fun vs H Q E h => ?_) (fun cdv A outer s H vs Q E hr h => ?_)
  · obtain ⟨n, d, rfl, _⟩ := h
    rfl
  · obtain ⟨n, d, rfl, hn, hd, q⟩ := h
    refine ⟨_, pss_one (ps_ret (pe_listRgC rfl (by rfl) T.n_list (by rfl) T.n_range (pa_cons (pv 0) (pa_cons (pe_op op_sub (pv 0) (pv 1)) (pa_cons (pe_un un_neg pe_int) pa_nil))))), ?_⟩
    have e : ((n : Int) - ((n : Int) - (d : Int))).toNat = d := by omega
    have rc : RgC (n : Int) ((n : Int) - (d : Int)) (-1) d := by
      have := RgC.neg (i := (n : Int)) (j := (n : Int) - (d : Int)) (by omega) (by omega) (by omega) (by omega)
      rw [e] at this
      exact this
    refine ⟨_, rfl, _, rfl, _, rfl, _, _, rfl, rfl, _, rfl, (n : Int), (n : Int) - (d : Int), -1, d, rfl, rc, by omega, fun p np => ?_⟩
    rw [rg_parts hd]
    exact q p np
end
/-! ### counts and numbers of any value -/
theorem TyX.same {K : PySem.W.Frag} {H H' : Hp} {v : V} {t : Value} (e : Same H H') (h : TyX K H v t) : TyX K H' v t := by
  cases h with
  | base h =>
    cases h with
    | non => exact .base .non
    | bl x => exact .base (.bl x)
    | int i => exact .base (.int i)
    | str x => exact .base (.str x)
    | flt x => exact .base (.flt x)
    | lst z => exact .base (.lst (e _ _ z))
    | frz z => exact .base (.frz (e _ _ z))
    | tup z => exact .base (.tup (e _ _ z))
    | dK z => exact .base (.dK (e _ _ z))
    | dT z => exact .base (.dT (e _ _ z))
    | ins z a1 a2 a3 a4 a5 => exact .base (.ins (e _ _ z) a1 a2 a3 a4 a5)
  | byt b => exact .byt b
  | set z => exact .set (e _ _ z)
  | kList a b => exact .kList a b
  | kTuple a b => exact .kTuple a b
  | kDict a b => exact .kDict a b
  | fTuple z => exact .fTuple (e _ _ z)
  | fDict z => exact .fDict (e _ _ z)
def CountV (K : PySem.W.Frag) (H : Hp) (v : V) (o : Option Int) : Prop := (∃ c, o = some c ∧ v = .int c) ∨ (o = none ∧ ∃ t, t ∈ tyNames ∧ (t == "int") = false ∧ TyX K H v (.type t))
theorem CountV.ty {K : PySem.W.Frag} {H : Hp} {v : V} {o : Option Int} (h : CountV K H v o) : ∃ t, t ∈ tyNames ∧ (t == "int") = o.isSome ∧ TyX K H v (.type t) := by
  rcases h with ⟨c, rfl, rfl⟩ | ⟨rfl, t, h1, h2, h3⟩
  · exact ⟨"int", by decide, rfl, .base (.int c)⟩
  · exact ⟨t, h1, h2, h3⟩
def possB (L : Nat) : Option Int → Bool
  | some c => decide (0 < c) && decide (c % (L : Int) = 0)
  | none => false
theorem possB_some (L : Nat) (c : Int) : possB L (some c) = (decide (0 < c) && decide (c % (L : Int) = 0)) := rfl
theorem CountV.same {K : PySem.W.Frag} {H H' : Hp} {v : V} {o : Option Int} (e : Same H H') (h : CountV K H v o) : CountV K H' v o := by
  rcases h with h | ⟨h1, t, h2, h3, h4⟩
  · exact .inl h
  · exact .inr ⟨h1, t, h2, h3, TyX.same e h4⟩
theorem decV (x y : Int) : decide (V.int x = V.int y) = decide (x = y) := by
  by_cases h : x = y
  · rw [decide_eq_true h, decide_eq_true (congrArg V.int h)]
  · rw [decide_eq_false h, decide_eq_false fun z => h (V.int.inj z)]
theorem poss_no {n d c i : Nat} (hn : n ≤ 60) (h1 : 1 ≤ n) (hd : d ≤ n) (hi : i < d) (h : ¬ (n - i) ∣ c) : possB (leastL n d) (some (c : Int)) = false := by
  rw [possB_some, decide_eq_false (p := (c : Int) % (leastL n d : Int) = 0), Bool.and_false]
  intro z
  have z2 : c % leastL n d = 0 := by
    have : ((c % leastL n d : Nat) : Int) = 0 := by
      rw [Int.natCast_emod]
      exact z
    omega
  exact h ((least_parts h1 hn hd c).mp (Nat.dvd_of_mod_eq_zero z2) i hi)
theorem poss_yes {n d c : Nat} (hn : n ≤ 60) (h1 : 1 ≤ n) (hd : d ≤ n) (h0 : 0 < c) (h : ∀ i, i < d → (n - i) ∣ c) : possB (leastL n d) (some (c : Int)) = true := by
  rw [possB_some, decide_eq_true (p := 0 < (c : Int)) (by omega), Bool.true_and]
  refine decide_eq_true ?_
  rw [← Int.natCast_emod, Nat.mod_eq_zero_of_dvd ((least_parts h1 hn hd c).mpr h)]
  rfl
theorem poss_std {n d : Nat} {o : Option Int} (hn : n ≤ 60) (h1 : 1 ≤ n) (hd : d ≤ n) (h : possB (leastL n d) o = true) : ∃ c : Nat, o = some (c : Int) ∧ Std n d c := by
  cases o with
  | none => cases h
  | some x =>
    rw [possB_some, Bool.and_eq_true] at h
    have a := of_decide_eq_true h.1
    have b := of_decide_eq_true h.2
    obtain ⟨c, rfl⟩ := Int.eq_ofNat_of_zero_le (Int.le_of_lt a)
    refine ⟨c, rfl, hn, h1, hd, by omega, ?_⟩
    have b2 : ((c % leastL n d : Nat) : Int) = 0 := by
      rw [Int.natCast_emod]
      exact b
    exact Nat.dvd_of_mod_eq_zero (by omega)
theorem std_poss {n d c : Nat} (h : Std n d c) : possB (leastL n d) (some (c : Int)) = true := by
  have h0 := h.c0
  obtain ⟨q, hq⟩ := h.dv
  rw [possB_some, decide_eq_true (show (0 : Int) < (c : Int) by omega), Bool.true_and]
  refine decide_eq_true ?_
  rw [← Int.natCast_emod, hq, Nat.mul_mod_right]
  rfl
def numB (m : Nat) : Option Int → Bool
  | some c => decide (0 ≤ c) && decide (c < (m : Int))
  | none => false
theorem numB_some (m : Nat) (c : Int) : numB m (some c) = (decide (0 ≤ c) && decide (c < (m : Int))) := rfl
theorem num_lt {c : Nat} {m : Option Int} (h : numB c m = true) : ∃ k : Nat, m = some (k : Int) ∧ k < c := by
  cases m with
  | none => cases h
  | some x =>
    rw [numB_some, Bool.and_eq_true] at h
    have a := of_decide_eq_true h.1
    have b := of_decide_eq_true h.2
    obtain ⟨k, rfl⟩ := Int.eq_ofNat_of_zero_le a
    exact ⟨k, rfl, by omega⟩
theorem CountV.isInt {K : PySem.W.Frag} {H : Hp} {v : V} {c : Int} (h : CountV K H v (some c)) : v = .int c := by
  rcases h with ⟨x, e, rfl⟩ | ⟨e, _⟩
  · rw [← Option.some.inj e]
  · cases e
/-! ### is_possible -/
def spPoss (K : PySem.W.Frag) : Sp := fun vs H Q _ => ∃ (n d : Nat) (v : V) (o : Option Int), vs = [.int n, .int d, v] ∧ n ≤ 60 ∧ 1 ≤ n ∧ d ≤ n ∧ CountV K H v o ∧ ∀ H', Same H H' → Q (.bl (possB (leastL n d) o)) H'
section
variable {P : Program} {w : World} {K : PySem.W.Frag} {mg : Str → Option Value} {base : Heap}
theorem ok_poss (T : Txt K mg) {j : Nat} : FnOk P w K mg base CX0 (j + 4) T.fPoss T.fdPoss ["n", "depth", "count"] (spPoss K) := by
  refine T.FPoss.ok scPoss (fun vs H Q E h => ?_) (fun cdv A outer s H vs Q E hr h => ?_)
  · obtain ⟨n, d, v, o, rfl, _⟩ := h
    rfl
  · obtain ⟨n, d, v, o, rfl, hn, h1, hd, hv, q⟩ := h
    refine ⟨_, pss_cons (ps_if (PW.pt (pw_or (pt_not (pt_val (pe_call (ok_plain T) hr (by rfl) T.gPlain T.FPlain.kp T.bPlain .nil pass0 (pa_cons (pv 2) pa_nil)))) (pw_or (pt_cmpR op_le (pv 2) pe_int (nomark _)) (pw_or1 (pt_cmpR op_gt (pv 1) (pv 0) (nomark _)))))) (pss_one (ps_ret pe_bl)) pss_nil) (pss_cons (ps_for PassesOwn.never rfl (pi_list (pe_call (ok_parts T) hr (by rfl) T.gParts T.FParts.kp T.bParts .nil pass0 (pa_cons (pv 0) (pa_cons (pv 1) pa_nil)))) (pg_name (i := 3) scPoss.nd rfl (.inl rfl)) (pss_one (ps_if (pt_cmpR op_ne (pe_op op_mod (pv 2) (pv 3)) pe_int (nomark _)) (pss_one (ps_ret pe_bl)) pss_nil))) (pss_one (ps_ret pe_bl))), ?_⟩
    obtain ⟨t, ht, e, ty⟩ := hv.ty
    refine ⟨v, rfl, v, t, rfl, ty, ht, _, rfl, ?_⟩
    rw [e]
    rcases hv with ⟨x, rfl, rfl⟩ | ⟨rfl, _⟩
    · refine iteF ?_
      refine ⟨_, rfl, _, _, rfl, rfl, _, rfl, ite2 (fun h2 => ?_) (fun h2 => ?_)⟩
      · have h3 : x ≤ 0 := of_decide_eq_true h2
        have e2 : possB (leastL n d) (some x) = false := by
          rw [possB_some, decide_eq_false (show ¬ 0 < x by omega)]
          rfl
        rw [e2] at q
        exact q _ (Same.refl _)
      · have h3 : ¬ x ≤ 0 := fun z => h2 (decide_eq_true z)
        refine ⟨_, rfl, _, rfl, _, _, rfl, rfl, _, rfl, ite2 (fun z => absurd (of_decide_eq_true z : (n : Int) < (d : Int)) (by omega)) (fun _ => ?_)⟩
        obtain ⟨c, rfl⟩ := Int.eq_ofNat_of_zero_le (show 0 ≤ x by omega)
        refine ⟨_, rfl, _, rfl, n, d, rfl, hn, hd, fun p np => ?_⟩
        have s0 := same_new (o := .lst (setV (partsV n d))) np
        refine ⟨p, rfl, ⟨_, SqL.of upd_same⟩, for_list (K := K) (a := p) (xs := setV (partsV n d)) (fun i σ H2 => (∃ u, σ = [some (.int n), some (.int d), some (.int c), u]) ∧ H2 = upd H p (.lst (setV (partsV n d))) ∧ ∀ k, k < i → (n - k) ∣ c) ⟨⟨none, rfl⟩, rfl, fun k hk => absurd hk (Nat.not_lt_zero k)⟩ ?_ ?_ ?_⟩
        · rintro i σ H2 _ ⟨⟨u, rfl⟩, rfl, _⟩
          exact SqL.of upd_same
        · rintro i z σ H2 hz ⟨⟨u, rfl⟩, rfl, ih⟩
          obtain ⟨m, hm, rfl⟩ := setV_get hz
          have hid : i < d := by
            have := (List.getElem?_eq_some_iff.mp hm).1
            rw [parts_len] at this
            exact this
          obtain rfl : n - i = m := Option.some.inj ((parts_at hid).symm.trans hm)
          refine ⟨_, rfl, _, rfl, _, _, rfl, rfl, (by omega : (0 : Int) < ((n - i : Nat) : Int)), rfl, _, rfl, ?_⟩
          dsimp only
          rw [decV]
          refine ite2 (fun h5 => ?_) (fun h5 => ?_)
          · have h6 : ¬ (c : Int) % ((n - i : Nat) : Int) = 0 := by
              intro z
              rw [decide_eq_true z] at h5
              cases h5
            have h7 : ¬ (n - i) ∣ c := fun z => h6 (by rw [← Int.natCast_emod, Nat.mod_eq_zero_of_dvd z]; rfl)
            rw [poss_no hn h1 hd hid h7] at q
            exact q _ s0
          · have h6 : (c : Int) % ((n - i : Nat) : Int) = 0 := Classical.byContradiction fun z => h5 (by rw [decide_eq_false z]; rfl)
            refine ⟨⟨_, rfl⟩, rfl, fun k hk => ?_⟩
            by_cases ek : k = i
            · subst ek
              have : ((c % (n - k) : Nat) : Int) = 0 := by
                rw [Int.natCast_emod]
                exact h6
              exact Nat.dvd_of_mod_eq_zero (by omega)
            · exact ih k (by omega)
        · rintro σ H2 ⟨⟨u, rfl⟩, rfl, ih⟩
          rw [setV_len, parts_len] at ih
          rw [poss_yes hn h1 hd (by omega) ih] at q
          exact q _ s0
    · exact iteT (q _ (Same.refl _))
end
/-! ### NotPossible's __init__ -/
section
variable {P : Program} {w : World} {K : PySem.W.Frag} {mg : Str → Option Value} {base : Heap}
theorem ok_notp (T : Txt K mg) {j : Nat} : FnOk P w K mg base CX0 (j + 1) T.fNotP T.fdNotP ["self", "count"] (spErr K T.cNotP "count") := by
  refine T.FNotP.ok scNotP (fun vs H Q E h => ?_) (fun cdv A outer s H vs Q E hr h => ?_)
  · obtain ⟨a, v, rfl, _⟩ := h
    rfl
  · obtain ⟨a, v, rfl, ha, q⟩ := h
    refine ⟨_, pss_cons (ps_expr (pe_baseInit (by rfl) T.gcBase T.btBase.sp T.btBase.ty T.btBase.rd T.btBase.fc (pa_cons (pv 0) (pa_cons pe_str pa_nil)))) (pss_one (ps_ost (pv 0) (pv 1))), ?_⟩
    refine ⟨.ref a, rfl, a, T.cNotP, _, rfl, (by show 1 ≤ 1000; decide), T.eNotP.ox, ha, ?_⟩
    refine ⟨v, rfl, .ref a, rfl, a, T.cNotP, rfl, T.eNotP.ox, T.eNotP.no, .inl ⟨ha, fun dx nd ne => q dx nd ne⟩⟩
end
/-! ### check_possible -/
def spChkP (K : PySem.W.Frag) (CN : Addr) : Sp := fun vs H Q E => ∃ (n d : Nat) (v : V) (o : Option Int), vs = [.int n, .int d, v] ∧ n ≤ 60 ∧ 1 ≤ n ∧ d ≤ n ∧ CountV K H v o ∧
  (possB (leastL n d) o = true → ∀ H', Same H H' → Q .non H') ∧ (possB (leastL n d) o = false → Raised "count" CN v H E)
section
variable {P : Program} {w : World} {K : PySem.W.Frag} {mg : Str → Option Value} {base : Heap}
theorem ok_chkp (T : Txt K mg) {j : Nat} : FnOk P w K mg base (L2.CX P w) (j + 5) T.fChkP T.fdChkP ["n", "depth", "count"] (spChkP K T.cNotP) := by
  refine T.FChkP.okX scChkP (fun vs H Q E h => ?_) (fun cdv A outer s H vs Q E hr h => ?_)
  · obtain ⟨n, d, v, o, rfl, _⟩ := h
    rfl
  · obtain ⟨n, d, v, o, rfl, hn, h1, hd, hv, q1, q2⟩ := h
    refine ⟨_, pss_one (ps_if (pt_not (pt_val (pe_call (ok_poss T) hr (by rfl) T.gPoss T.FPoss.kp T.bPoss .nil pass0 (pa_cons (pv 0) (pa_cons (pv 1) (pa_cons (pv 2) pa_nil)))))) (pss_one (ps_raise rfl (takes_of rfl rfl rfl rfl) (pmk_oex T.eNotP.ox T.eNotP.iC T.eNotP.tI (ok_notp T) hr T.bNotP .nil pass0 (by rfl) T.gcNotP (pa_cons (pv 2) pa_nil)))) pss_nil), ?_⟩
    refine ⟨_, rfl, _, rfl, v, rfl, n, d, v, o, rfl, hn, h1, hd, hv, fun H1 s1 => ⟨_, rfl, ?_⟩⟩
    cases e : possB (leastL n d) o with
    | true => exact iteF (q1 e _ s1)
    | false =>
      refine iteT ⟨v, rfl, (by show 1 ≤ 1000; decide), fun a na => ⟨a, v, rfl, upd_same, fun dx nd ne => ?_⟩⟩
      obtain ⟨e1, e2, e3, e4, e5⟩ := err_end (f := "count") (v := v) na nd ne
      exact ⟨rfl, dx, _, e1, e2, e3, q2 e _ dx (s1.trans e4) e5 (s1.free e3)⟩
end
/-! ### NoNumber's __init__ -/
section
variable {P : Program} {w : World} {K : PySem.W.Frag} {mg : Str → Option Value} {base : Heap}
theorem ok_non (T : Txt K mg) {j : Nat} : FnOk P w K mg base CX0 (j + 1) T.fNoN T.fdNoN ["self", "value"] (spErr K T.cNoN "value") := by
  refine T.FNoN.ok scNoN (fun vs H Q E h => ?_) (fun cdv A outer s H vs Q E hr h => ?_)
  · obtain ⟨a, v, rfl, _⟩ := h
    rfl
  · obtain ⟨a, v, rfl, ha, q⟩ := h
    refine ⟨_, pss_cons (ps_expr (pe_baseInit (by rfl) T.gcBase T.btBase.sp T.btBase.ty T.btBase.rd T.btBase.fc (pa_cons (pv 0) (pa_cons pe_str pa_nil)))) (pss_one (ps_ost (pv 0) (pv 1))), ?_⟩
    refine ⟨.ref a, rfl, a, T.cNoN, _, rfl, (by show 1 ≤ 1000; decide), T.eNoN.ox, ha, ?_⟩
    refine ⟨v, rfl, .ref a, rfl, a, T.cNoN, rfl, T.eNoN.ox, T.eNoN.no, .inl ⟨ha, fun dx nd ne => q dx nd ne⟩⟩
end
/-! ### check_number -/
def spChkN (K : PySem.W.Frag) (CN : Addr) : Sp := fun vs H Q E => ∃ (m : Nat) (v : V) (o : Option Int), vs = [v, .int m] ∧ CountV K H v o ∧
  (numB m o = true → Q .non H) ∧ (numB m o = false → Raised "value" CN v H E)
section
variable {P : Program} {w : World} {K : PySem.W.Frag} {mg : Str → Option Value} {base : Heap}
theorem ok_chkn (T : Txt K mg) {j : Nat} : FnOk P w K mg base (L2.CX P w) (j + 3) T.fChkN T.fdChkN ["value", "many"] (spChkN K T.cNoN) := by
  refine T.FChkN.okX scChkN (fun vs H Q E h => ?_) (fun cdv A outer s H vs Q E hr h => ?_)
  · obtain ⟨m, v, o, rfl, _⟩ := h
    rfl
  · obtain ⟨m, v, o, rfl, hv, q1, q2⟩ := h
    refine ⟨_, pss_one (ps_if (PW.pt (pw_or (pt_not (pt_val (pe_call (ok_plain T) hr (by rfl) T.gPlain T.FPlain.kp T.bPlain .nil pass0 (pa_cons (pv 0) pa_nil)))) (pw_or (pt_cmpR op_lt (pv 0) pe_int (nomark _)) (pw_or1 (pt_cmpR op_ge (pv 0) (pv 1) (nomark _)))))) (pss_one (ps_raise rfl (takes_of rfl rfl rfl rfl) (pmk_oex T.eNoN.ox T.eNoN.iC T.eNoN.tI (ok_non T) hr T.bNoN .nil pass0 (by rfl) T.gcNoN (pa_cons (pv 0) pa_nil)))) pss_nil), ?_⟩
    have raise : numB m o = false → (tMkO T.cNoN (spErr K T.cNoN "value") [] (tCons (tVar 0) tNil)) [some v, some (.int m)] H (fun cls d H' => E cls d H') := fun ho => by
      refine ⟨v, rfl, (by show 1 ≤ 1000; decide), fun a na => ⟨a, v, rfl, upd_same, fun dx nd ne => ?_⟩⟩
      obtain ⟨e1, e2, e3, e4, e5⟩ := err_end (f := "value") (v := v) na nd ne
      exact ⟨rfl, dx, _, e1, e2, e3, q2 ho _ dx e4 e5 e3⟩
    obtain ⟨t, ht, e, ty⟩ := hv.ty
    refine ⟨v, rfl, v, t, rfl, ty, ht, _, rfl, ?_⟩
    rw [e]
    rcases hv with ⟨c, rfl, rfl⟩ | ⟨rfl, _⟩
    · refine iteF ?_
      refine ⟨_, rfl, _, _, rfl, rfl, _, rfl, ite2 (fun h1 => ?_) (fun h1 => ?_)⟩
      · have h2 : c < 0 := of_decide_eq_true h1
        refine raise ?_
        rw [numB_some, decide_eq_false (show ¬ 0 ≤ c by omega)]
        rfl
      · have h2 : ¬ c < 0 := fun z => h1 (decide_eq_true z)
        refine ⟨_, rfl, _, rfl, _, _, rfl, rfl, _, rfl, ite2 (fun h3 => ?_) (fun h3 => ?_)⟩
        · have h4 : (m : Int) ≤ c := of_decide_eq_true h3
          refine raise ?_
          rw [numB_some, decide_eq_false (show ¬ c < (m : Int) by omega), Bool.and_false]
        · have h4 : ¬ (m : Int) ≤ c := fun z => h3 (decide_eq_true z)
          refine q1 ?_
          rw [numB_some, decide_eq_true (show (0 : Int) ≤ c by omega), decide_eq_true (show c < (m : Int) by omega)]
          rfl
    · refine iteT ?_
      exact raise rfl
end
/-! ### level_widths -/
def spWid : Sp := fun vs H Q _ => ∃ n d c : Nat, vs = [.int n, .int d, .int c] ∧ n ≤ 60 ∧ 1 ≤ n ∧ d ≤ n ∧ ∀ H' p, Same H H' → H p = none → H' p = some (.lst (setV (wdsL n c d))) → Q (.ref p) H'
section
variable {P : Program} {w : World} {K : PySem.W.Frag} {mg : Str → Option Value} {base : Heap}
theorem ok_wid (T : Txt K mg) {j : Nat} : FnOk P w K mg base CX0 (j + 1) T.fWid T.fdWid ["n", "depth", "count"] spWid := by
  refine T.FWid.ok scWid (fun vs H Q E h => ?_) (fun cdv A outer s H vs Q E hr h => ?_)
  · obtain ⟨n, d, c, rfl, _⟩ := h
    rfl
  · obtain ⟨n, d, c, rfl, hn, h1, hd, q⟩ := h
    refine ⟨_, pss_cons (ps_set (i := 3) scWid.nd rfl (.inl rfl) (pe_lst pa_nil)) (pss_cons (ps_set (i := 4) scWid.nd rfl (.inl rfl) (pv 0)) (pss_cons (ps_for PassesOwn.never rfl (pi_range1 (by rfl) T.n_range (pa_cons (pv 1) pa_nil)) (pg_name (i := 5) scWid.nd rfl (.inl rfl)) (pss_cons (ps_expr (pe_bm PySem.F.plainAttrs_list PySem.F.slot_list_append PySem.F.type_list_append mt_append (pv 3) (pa_cons (pe_op op_fdivW (pv 2) (pv 4)) pa_nil))) (pss_one (ps_set (i := 4) scWid.nd rfl (.inl rfl) (pe_op op_fdivW (pe_op op_mul (pv 4) (pe_op op_sub (pe_op op_sub (pv 0) pe_int) (pv 5))) (pe_op op_add (pv 5) pe_int)))))) (pss_one (ps_ret (pv 3))))), ?_⟩
    refine ⟨Nat.zero_le _, fun pw nw => ?_⟩
    refine ⟨_, rfl, _, rfl, (d : Int), rfl, by omega, by omega, ?_⟩
    refine for_range (lo := 0) (n := (d : Int).toNat) (fun i σ H2 => ∃ u, σ = [some (.int n), some (.int d), some (.int c), some (.ref pw), some (.int ((n * C (n - 1) i : Nat) : Int)), u] ∧ Same H H2 ∧ H2 pw = some (.lst (setV (wdsL n c i)))) ⟨none, by rw [C_zero, Nat.mul_one]; rfl, same_new nw, upd_same⟩ ?_ ?_
    · rintro i σ H2 hi ⟨u, rfl, s2, hW⟩
      have hid : i < n := by omega
      have e0 := edge_pos hid
      have e1 := edge_lt (d := i) hn
      rw [Int.zero_add]
      refine ⟨.ref pw, rfl, .inl ⟨rfl, _, SqL.of hW⟩, _, rfl, _, rfl, _, _, rfl, rfl, wide_div (b := 64) (by omega) (by omega) (by decide) (by decide), pw, _, _, rfl, rfl, hW, ?_, ?_⟩
      · rw [setV_len, wds_len]
        exact small1000 (by omega)
      refine ⟨_, rfl, _, rfl, _, _, rfl, rfl, _, rfl, _, _, rfl, rfl, _, _, rfl, rfl, .inl ⟨by omega, by omega⟩, _, rfl, _, _, rfl, rfl, _, _, rfl, rfl, wide_div (b := 64) (by omega) (by omega) (by decide) (by decide), ?_⟩
      refine ⟨some (.int (i : Int)), ?_, keep_upd s2 nw, ?_⟩
      · have es : ((n * C (n - 1) (i + 1) : Nat) : Int) = ((n * C (n - 1) i : Nat) : Int) * ((n : Int) - 1 - (i : Int)) / ((i : Int) + 1) := by
          rw [← edge_step hid, Int.natCast_ediv, Int.natCast_mul (n * C (n - 1) i), show ((n - 1 - i : Nat) : Int) = (n : Int) - 1 - (i : Int) by omega]
          rfl
        rw [es]
        rfl
      · rw [upd_same, wds_step, setV_app]
        show _ = some (HO.lst (_ ++ [V.int ((c / (n * C (n - 1) i) : Nat) : Int)]))
        rw [Int.natCast_ediv]
    · rintro σ H2 ⟨u, rfl, s2, hW⟩
      rw [Int.toNat_natCast] at hW
      exact ⟨_, rfl, q _ pw s2 nw hW⟩
end
/-! ### follow, path, list_at, place_at -/
def spFollow (K : PySem.W.Frag) : Sp := fun vs H Q _ => ∃ (n c : Nat) (a b : Addr) (ss L : List Nat) (r : Nat), vs = [.ref a, .ref b, .int r] ∧ c < 2 ^ 500 ∧ SqL K H a (setV (ss.map (wd n c))) ∧ ss.length ≤ 60 ∧ (SqL K H b (setV L) ∨ SqT K H b (setV L)) ∧ L.length ≤ 60 ∧ (∀ x ∈ L, x < 60) ∧ FolOk n c ss L r ∧
  ∀ H' u, Same H H' → PairAt H H' u (fol n c ss L r).1 (fol n c ss L r).2 → Q (.ref u) H'
section
variable {P : Program} {w : World} {K : PySem.W.Frag} {mg : Str → Option Value} {base : Heap}
theorem ok_follow (T : Txt K mg) {j : Nat} : FnOk P w K mg base CX0 (j + 3) T.fFollow T.fdFollow ["widths", "servers", "rest"] (spFollow K) := by
  refine T.FFollow.ok scFollow (fun vs H Q E h => ?_) (fun cdv A outer s H vs Q E hr h => ?_)
  · obtain ⟨n, c, a, b, ss, L, r, rfl, _⟩ := h
    rfl
  · obtain ⟨n, c, a, b, ss, L, r, rfl, hc, hS, hsl, hL, hLl, hLx, ok, q⟩ := h
    refine ⟨_, pss_cons (ps_set (i := 3) scFollow.nd rfl (.inl rfl) (pe_callTy (call_listK K) (by rfl) T.n_list (by decide +kernel) (pa_cons (pv 1) pa_nil))) (pss_cons (ps_set (i := 4) scFollow.nd rfl (.inl rfl) (pe_lst pa_nil)) (pss_cons (ps_for PassesOwn.never rfl (pi_list (pv 0)) (pg_name (i := 5) scFollow.nd rfl (.inl rfl)) (pss_cons (ps_set (i := 6) scFollow.nd rfl (.inl rfl) (pe_op op_fdivW (pv 2) (pv 5))) (pss_cons (ps_set (i := 7) scFollow.nd rfl (.inl rfl) (pe_bm PySem.F.plainAttrs_list PySem.F.slot_list_pop PySem.F.type_list_pop mt_popAt (pv 3) (pa_cons (pv 6) pa_nil))) (pss_cons (ps_expr (pe_bm PySem.F.plainAttrs_list PySem.F.slot_list_append PySem.F.type_list_append mt_append (pv 4) (pa_cons (pv 7) pa_nil))) (pss_one (ps_aug (i := 2) scFollow.nd rfl (.inl rfl) (pe_op op_mul (pv 5) (pe_op op_sub (pe_op op_sub (pv 7) (pv 6)) (pv 6))) ip_add)))))) (pss_one (ps_ret (pe_tup (pa_cons (pe_callTy (call_tupleK K) (by rfl) T.n_tuple (by decide +kernel) (pa_cons (pv 4) pa_nil)) (pa_cons (pv 2) pa_nil))))))), ?_⟩
    refine ⟨.ref b, rfl, b, _, rfl, hL, fun pl nl => ?_⟩
    refine ⟨Nat.zero_le _, fun pt nt => ?_⟩
    have npt : pt ≠ pl := fun z => by
      rw [z, upd_same] at nt
      cases nt
    have ft : H pt = none := (same_new nl).free nt
    refine ⟨.ref a, rfl, a, rfl, ⟨_, Same.seq (same_new nt) (Same.seq (same_new nl) hS)⟩, for_list (K := K) (a := a) (xs := setV (ss.map (wd n c))) (fun i σ H2 => ∃ (pre M : List Nat) (x : Nat) (v8 v9 v10 : Option V), σ = [some (.ref a), some (.ref b), some (.int (x : Int)), some (.ref pl), some (.ref pt), v8, v9, v10] ∧ Same H H2 ∧ H2 pl = some (.lst (setV M)) ∧ H2 pt = some (.lst (setV pre)) ∧ M.length ≤ 60 ∧ pre.length = i ∧ (∀ x ∈ M, x < 60) ∧ FolOk n c (ss.drop i) M x ∧ fol n c ss L r = (pre ++ (fol n c (ss.drop i) M x).1, (fol n c (ss.drop i) M x).2)) ?_ ?_ ?_ ?_⟩
    · refine ⟨[], L, r, none, none, none, rfl, (same_new nl).trans (same_new nt), ?_, upd_same, hLl, rfl, hLx, ok, rfl⟩
      rw [upd_ne npt.symm]
      exact upd_same
    · rintro i σ H2 hi ⟨pre, M, x, v8, v9, v10, rfl, s2, _⟩
      exact s2.seq hS
    · rintro i z σ H2 hz ⟨pre, M, x, v8, v9, v10, rfl, s2, hM, hP, hMl, hpl, hMx, okk, hf⟩
      have hil : i < ss.length := by
        have := (List.getElem?_eq_some_iff.mp hz).1
        rw [setV_len, List.length_map] at this
        exact this
      obtain rfl : z = V.int (wd n c ss[i] : Nat) := by
        rw [setV_at (m := wd n c ss[i]) (by rw [List.getElem?_map, List.getElem?_eq_getElem hil]; rfl)] at hz
        exact (Option.some.inj hz).symm
      rw [List.drop_eq_getElem_cons hil] at okk hf
      generalize ss[i] = sz at okk hf
      rw [fol_cons] at hf
      obtain ⟨w0, hix, hge, okk2⟩ := okk
      have wc := wd_le n c sz
      have hm : M.getD (x / wd n c sz) 0 < 60 := hMx _ (List.mem_of_getElem? (getD_of hix))
      have hdm := Nat.div_add_mod x (wd n c sz)
      refine ⟨_, rfl, _, rfl, _, _, rfl, rfl, wide_div (b := 500) (Int.ofNat_lt.mpr w0) (Nat.lt_of_le_of_lt wc hc) (by decide) (by decide), ?_⟩
      dsimp only [gName]
      rw [← Int.natCast_ediv]
      have hM2 := getD_of hix
      generalize x / wd n c sz = ix at hix hge okk2 hf hm hM2 hdm ⊢
      generalize M.getD ix 0 = sv at hge okk2 hf hm hM2
      refine ⟨.ref pl, rfl, .inl ⟨rfl, _, SqL.of hM⟩, _, rfl, pl, _, _, _, _, rfl, rfl, hM, by omega, by omega, seq_at (by rw [setV_len]; exact hix), setV_at hM2, ?_⟩
      rw [setV_erase]
      have hpt3 : (upd H2 pl (.lst (setV (M.eraseIdx ix)))) pt = some (.lst (setV pre)) := by
        rw [upd_ne npt]
        exact hP
      refine ⟨.ref pt, rfl, .inl ⟨rfl, _, SqL.of hpt3⟩, _, rfl, pt, _, _, rfl, rfl, hpt3, ?_, ?_⟩
      · rw [setV_len]
        have := hil
        exact small1000 (by omega)
      refine ⟨_, rfl, _, rfl, _, rfl, _, rfl, _, _, rfl, rfl, _, rfl, _, _, rfl, rfl, _, _, rfl, rfl, .inr ⟨by omega, by omega⟩, _, _, rfl, rfl, ?_⟩
      refine ⟨pre ++ [sv], M.eraseIdx ix, wd n c sz * (sv - ix) + x % wd n c sz, some (.int (wd n c sz : Nat)), some (.int (ix : Int)), some (.int (sv : Int)), ?_, ?_, ?_, ?_, ?_, ?_, ?_, okk2, ?_⟩
      · have e9 : ((wd n c sz * (sv - ix) + x % wd n c sz : Nat) : Int) = (x : Int) + (wd n c sz : Int) * ((sv : Int) - (ix : Int) - (ix : Int)) := by
          have e8 : (x : Int) = (wd n c sz : Int) * (ix : Int) + ((x % wd n c sz : Nat) : Int) := by
            rw [← Int.natCast_mul, ← Int.natCast_add, hdm]
          rw [Int.natCast_add, Int.natCast_mul, Int.natCast_sub hge]
          simp only [Int.mul_sub]
          omega
        rw [e9]
        rfl
      · exact keep_upd (keep_upd s2 nl) ft
      · rw [upd_ne npt.symm]
        exact upd_same
      · rw [upd_same, setV_app]
        rfl
      · rw [List.length_eraseIdx]
        split <;> omega
      · rw [List.length_append, hpl]
        rfl
      · exact fun y hy => hMx y (List.mem_of_mem_eraseIdx hy)
      · rw [hf, List.append_assoc]
        rfl
    · rintro σ H2 ⟨pre, M, x, v8, v9, v10, rfl, s2, hM, hP, hMl, hpl, hMx, okk, hf⟩
      rw [setV_len, List.length_map, List.drop_length] at hf
      refine ⟨.ref pt, rfl, pt, _, rfl, .inl ⟨SqL.of hP, fun l nl2 => ?_⟩⟩
      refine ⟨_, rfl, (by show 2 ≤ sizeLine; decide), fun u nu => ?_⟩
      have f1 := s2.free nl2
      refine q _ u ((s2.trans (same_new nl2)).trans (same_new nu)) ⟨(s2.trans (same_new nl2)).free nu, l, f1, ?_, ?_⟩
      · rw [upd_same, hf]
        rfl
      · rw [upd_ne (ne_of_none (o := .tup (setV pre)) upd_same nu), upd_same, hf]
        show _ = some (HO.tup (setV (pre ++ [])))
        rw [List.append_nil]
end
/-! ### path, list_at, place_at -/
def spPath : Sp := fun vs H Q _ => ∃ (n d c k : Nat), vs = [.int n, .int d, .int c, .int k] ∧ Std n d c ∧ k < c ∧ c < 2 ^ 500 ∧
  ∀ H' u, Same H H' → PairAt H H' u (path n d c k).1 (path n d c k).2 → Q (.ref u) H'
/-- a count that is possible, and a number below it -/
def spListAt (K : PySem.W.Frag) (CP CN : Addr) (G : Nat → Nat → Nat → Nat → Hp → VK → Prop) : Sp := fun vs H Q E => ∃ (n d : Nat) (v : V) (o : Option Int) (u : V) (m : Option Int), vs = [.int n, .int d, v, u] ∧ n ≤ 60 ∧ 1 ≤ n ∧ d ≤ n ∧ CountV K H v o ∧ CountV K H u m ∧
  (possB (leastL n d) o = false → Raised "count" CP v H E) ∧
  (∀ c : Nat, o = some (c : Int) → Std n d c → c < 2 ^ 500 ∧ (numB c m = false → Raised "value" CN u H E) ∧ (∀ k : Nat, m = some (k : Int) → k < c → G n d c k H Q))
def gList : Nat → Nat → Nat → Nat → Hp → VK → Prop := fun n d c k H Q => ∀ H' t, Same H H' → H t = none → H' t = some (.tup (setV (path n d c k).1)) → Q (.ref t) H'
def gPlace : Nat → Nat → Nat → Nat → Hp → VK → Prop := fun n d c k H Q => ∀ H' u ms, Same H H' → ms.Perm (path n d c k).1 → Asc ms → PairAt H H' u ms (path n d c k).2 → Q (.ref u) H'
theorem spListAt_ok {K : PySem.W.Frag} {CP CN : Addr} {G : Nat → Nat → Nat → Nat → Hp → VK → Prop} {n d c k : Nat} {H : Hp} {Q : VK} {E : XK} (st : Std n d c) (hk : k < c) (hc : c < 2 ^ 500) (g : G n d c k H Q) : spListAt K CP CN G [.int n, .int d, .int c, .int k] H Q E := by
  refine ⟨n, d, .int c, some c, .int k, some k, rfl, st.n60, st.n1, st.dn, .inl ⟨c, rfl, rfl⟩, .inl ⟨k, rfl, rfl⟩, fun h => ?_, fun c' e st' => ?_⟩
  · rw [std_poss st] at h
    cases h
  · have e2 := Option.some.inj e
    obtain rfl : c = c' := by omega
    refine ⟨hc, fun h => ?_, fun k' e3 hk' => ?_⟩
    · rw [numB_some, decide_eq_true (show (0 : Int) ≤ (k : Int) by omega), decide_eq_true (show (k : Int) < (c : Int) by omega)] at h
      cases h
    · have e4 := Option.some.inj e3
      obtain rfl : k = k' := by omega
      exact g
theorem gList.on {n d c k : Nat} {H H1 : Hp} {Q : VK} (s : Same H H1) (g : gList n d c k H Q) : gList n d c k H1 Q := fun H' t s2 nt e => g H' t (s.trans s2) (s.free nt) e
theorem gPlace.on {n d c k : Nat} {H H1 : Hp} {Q : VK} (s : Same H H1) (g : gPlace n d c k H Q) : gPlace n d c k H1 Q := fun H' u ms s2 pm a pu => g H' u ms (s.trans s2) pm a (pu.back s)
section
variable {P : Program} {w : World} {K : PySem.W.Frag} {mg : Str → Option Value} {base : Heap}
theorem ok_path (T : Txt K mg) {j : Nat} : FnOk P w K mg base CX0 (j + 4) T.fPath T.fdPath ["n", "depth", "count", "number"] spPath := by
  refine T.FPath.ok scPath (fun vs H Q E h => ?_) (fun cdv A outer s H vs Q E hr h => ?_)
  · obtain ⟨n, d, c, k, rfl, _⟩ := h
    rfl
  · obtain ⟨n, d, c, k, rfl, st, hk, hc, q⟩ := h
    have hn := st.n60
    have hd := st.dn
    refine ⟨_, pss_one (ps_ret (pe_call (ok_follow T) hr (by rfl) T.gFollow T.FFollow.kp T.bFollow .nil pass0 (pa_cons (pe_call (ok_wid T) hr (by rfl) T.gWid T.FWid.kp T.bWid .nil pass0 (pa_cons (pv 0) (pa_cons (pv 1) (pa_cons (pv 2) pa_nil)))) (pa_cons (pe_listRg rfl (by rfl) T.n_list (prg_1 (by rfl) T.n_range (pv 0))) (pa_cons (pv 3) pa_nil))))), ?_⟩
    refine ⟨_, rfl, _, rfl, _, rfl, n, d, c, rfl, hn, st.n1, hd, fun H1 a s1 na hA => ?_⟩
    refine ⟨_, rfl, _, rfl, .of_le (by omega) (by omega) (by omega) (by omega), fun b nb => ?_⟩
    rw [setV_range n]
    have s2 := same_new (o := .lst (setV (List.range' 0 n))) nb
    have hw : wdsL n c d = (List.range' 0 d).map (wd n c) := by
      unfold wdsL
      rw [List.range_eq_range']
    rw [hw] at hA
    refine ⟨_, rfl, n, c, a, b, List.range' 0 d, List.range' 0 n, k, rfl, hc, SqL.of (s2 _ _ hA), ?_, .inl (SqL.of upd_same), ?_, fun x hx => ?_, path_ok st hk, fun H' u s3 pu => ?_⟩
    · rw [List.length_range']
      omega
    · rw [List.length_range']
      omega
    · have := mem_range0.mp hx
      omega
    · exact q H' u ((s1.trans s2).trans s3) (pu.back (s1.trans s2))
end
/-! ### place_at -/
section
variable {P : Program} {w : World} {K : PySem.W.Frag} {mg : Str → Option Value} {base : Heap}
theorem ok_placeat (T : Txt K mg) {j : Nat} : FnOk P w K mg base (L2.CX P w) (j + 6) T.fPlaceAt T.fdPlaceAt ["n", "depth", "count", "number"] (spListAt K T.cNotP T.cNoN gPlace) := by
  refine T.FPlaceAt.okX scPlaceAt (fun vs H Q E h => ?_) (fun cdv A outer s H vs Q E hr h => ?_)
  · obtain ⟨n, d, v, o, u, m, rfl, _⟩ := h
    rfl
  · obtain ⟨n, d, v, o, u, m, rfl, hn, h1, hd, hv, hu, q1, q2⟩ := h
    refine ⟨_, pss_cons (ps_expr (pe_call (ok_chkp T) hr (by rfl) T.gChkP T.FChkP.kp T.bChkP .nil (passes_call (takes_of rfl rfl rfl rfl) (fun _ _ _ _ h => h)) (pa_cons (pv 0) (pa_cons (pv 1) (pa_cons (pv 2) pa_nil))))) (pss_cons (ps_expr (pe_call (ok_chkn T) hr (by rfl) T.gChkN T.FChkN.kp T.bChkN .nil (passes_call (takes_of rfl rfl rfl rfl) (fun _ _ _ _ h => h)) (pa_cons (pv 3) (pa_cons (pv 2) pa_nil)))) (PSs.nox (pss_cons (ps_asg (pe_call (ok_path T) hr (by rfl) T.gPath T.FPath.kp T.bPath .nil pass0 (pa_cons (pv 0) (pa_cons (pv 1) (pa_cons (pv 2) (pa_cons (pv 3) pa_nil))))) (pg_tup rfl (pgs_cons (pg_name (i := 4) scPlaceAt.nd rfl (.inl rfl)) (pgs_cons (pg_name (i := 5) scPlaceAt.nd rfl (.inl rfl)) pgs_nil)))) (pss_one (ps_ret (pe_tup (pa_cons (pe_callTy (call_tupleK K) (by rfl) T.n_tuple (by decide +kernel) (pa_cons (pe_callB (cr_sortTI K) (by rfl) T.n_sorted (by decide +kernel) (pa_cons (pv 4) pa_nil)) pa_nil)) (pa_cons (pv 5) pa_nil)))))))), ?_⟩
    refine ⟨_, rfl, _, rfl, v, rfl, n, d, v, o, rfl, hn, h1, hd, hv, fun hp H0 s0 => ?_, q1⟩
    obtain ⟨c, rfl, st⟩ := poss_std hn h1 hd hp
    obtain ⟨hc, q2, q3⟩ := q2 c rfl st
    replace q2 := fun z => (q2 z).on s0
    replace q3 := fun k e z => gPlace.on s0 (q3 k e z)
    replace hu := hu.same s0
    obtain rfl : v = .int (c : Int) := by
      rcases hv with ⟨x, e, rfl⟩ | ⟨e, _⟩
      · rw [← Option.some.inj e]
      · cases e
    refine ⟨u, rfl, _, rfl, c, u, m, rfl, hu, fun hm => ?_, q2⟩
    obtain ⟨k, rfl, hk⟩ := num_lt hm
    obtain rfl : u = .int (k : Int) := by
      rcases hu with ⟨x, e, rfl⟩ | ⟨e, _⟩
      · rw [← Option.some.inj e]
      · cases e
    refine ⟨_, rfl, _, rfl, _, rfl, _, rfl, n, d, c, k, rfl, st, hk, hc, fun H' u s1 pu => ?_⟩
    obtain ⟨nu, t, nt, hu2, ht⟩ := pu
    refine ⟨u, _, rfl, SqT.of hu2, rfl, _, _, rfl, _, _, rfl, rfl, ?_⟩
    have hpl := path_len n d c k
    refine ⟨.ref t, rfl, t, (path n d c k).1.map (fun (m : Nat) => (m : Int)), rfl, .inr (SqT.of (by rw [← setV_ints]; exact ht)), by rw [List.length_map]; omega, fun ns p hp2 hs np => ?_⟩
    obtain ⟨ms, rfl, pm⟩ := ints_back hp2
    rw [← setV_ints]
    refine ⟨p, _, rfl, .inl ⟨SqL.of upd_same, fun l nl => ?_⟩⟩
    refine ⟨_, rfl, (by show 2 ≤ sizeLine; decide), fun x nx => ?_⟩
    have s2 := s1.trans (same_new (o := .lst (setV ms)) np)
    have s3 := s2.trans (same_new (o := .tup (setV ms)) nl)
    refine q3 k rfl hk _ x ms (s3.trans (same_new nx)) pm (lt_of_le (le_back hs) (pm.nodup_iff.mpr (path_nodup st hk))) ⟨s3.free nx, l, s2.free nl, upd_same, ?_⟩
    rw [upd_ne (ne_of_none upd_same nx), upd_same]
end
/-! ### number_at -/
def spNumAt (K : PySem.W.Frag) (CP CN : Addr) : Sp := fun vs H Q E => ∃ (n : Nat) (v : V) (o : Option Int) (a : Addr) (ms : List Nat) (u : V) (m : Option Int), vs = [.int n, v, .ref a, u] ∧ n ≤ 60 ∧ 1 ≤ n ∧ SqT K H a (setV ms) ∧ Asc ms ∧ (∀ x ∈ ms, x < n) ∧ ms.length ≤ n ∧ CountV K H v o ∧ CountV K H u m ∧
  (possB (leastL n ms.length) o = false → Raised "count" CP v H E) ∧
  (∀ c : Nat, o = some (c : Int) → Std n ms.length c → c < 2 ^ 500 ∧ (numB (c / C n ms.length) m = false → Raised "value" CN u H E) ∧ (∀ k : Nat, m = some (k : Int) → k < c / C n ms.length → ∀ H', Same H H' → Q (.int (back n c ms k : Nat)) H'))
theorem place_of {n c k : Nat} {ms : List Nat} (h1 : Asc ms) (h2 : ∀ x ∈ ms, x < n) (h3 : k < c / C n ms.length) : Place n c ms.length ms k := ⟨h1, h2, rfl, h3⟩
section
variable {P : Program} {w : World} {K : PySem.W.Frag} {mg : Str → Option Value} {base : Heap}
theorem ok_numat (T : Txt K mg) {j : Nat} : FnOk P w K mg base (L2.CX P w) (j + 6) T.fNumAt T.fdNumAt ["n", "count", "members", "rest"] (spNumAt K T.cNotP T.cNoN) := by
  refine T.FNumAt.okX scNumAt (fun vs H Q E h => ?_) (fun cdv A outer s H vs Q E hr h => ?_)
  · obtain ⟨n, v, o, a, ms, u, m, rfl, _⟩ := h
    rfl
  · obtain ⟨n, v, o, a, ms, u, m, rfl, hn, h1, hA, asc, hx, hl, hv, hu, q1, q2⟩ := h
    refine ⟨_, pss_cons (ps_set (i := 4) scNumAt.nd rfl (.inl rfl) (pe_callB (call_lenK K) (by rfl) T.n_len PySem.boot_len (pa_cons (pv 2) pa_nil))) (pss_cons (ps_expr (pe_call (ok_chkp T) hr (by rfl) T.gChkP T.FChkP.kp T.bChkP .nil (passes_call (takes_of rfl rfl rfl rfl) (fun _ _ _ _ h => h)) (pa_cons (pv 0) (pa_cons (pv 4) (pa_cons (pv 1) pa_nil))))) (pss_cons (ps_expr (pe_call (ok_chkn T) hr (by rfl) T.gChkN T.FChkN.kp T.bChkN .nil (passes_call (takes_of rfl rfl rfl rfl) (fun _ _ _ _ h => h)) (pa_cons (pv 3) (pa_cons (pe_op op_fdivW (pv 1) (pe_call (ok_bin T) hr (by rfl) T.gBin T.FBin.kp T.bBin .nil pass0 (pa_cons (pv 0) (pa_cons (pv 4) pa_nil)))) pa_nil)))) (PSs.nox (pss_cons (ps_set (i := 5) scNumAt.nd rfl (.inl rfl) (pe_call (ok_wid T) hr (by rfl) T.gWid T.FWid.kp T.bWid .nil pass0 (pa_cons (pv 0) (pa_cons (pv 4) (pa_cons (pv 1) pa_nil))))) (pss_cons (ps_asg (pe_call (ok_follow T) hr (by rfl) T.gFollow T.FFollow.kp T.bFollow .nil pass0 (pa_cons (pe_listRevL rfl (by rfl) T.n_list (by rfl) T.n_reversed (pv 5)) (pa_cons (pv 2) (pa_cons (pv 3) pa_nil)))) (pg_tup rfl (pgs_cons (pg_name (i := 6) scNumAt.nd rfl (.inl rfl)) (pgs_cons (pg_name (i := 7) scNumAt.nd rfl (.inl rfl)) pgs_nil)))) (pss_one (ps_ret (pv 7)))))))), ?_⟩
    refine ⟨.ref a, rfl, a, _, rfl, .inr hA, ?_⟩
    dsimp only [gName]
    rw [setV_len]
    refine ⟨_, rfl, _, rfl, v, rfl, n, ms.length, v, o, rfl, hn, h1, hl, hv, fun hp H0 s0 => ?_, q1⟩
    obtain ⟨c, rfl, st⟩ := poss_std hn h1 hl hp
    obtain ⟨hc, q2, q3⟩ := q2 c rfl st
    replace q2 := fun z => (q2 z).on s0
    replace hu := hu.same s0
    replace hA := Same.seqT s0 hA
    obtain rfl : v = .int (c : Int) := by
      rcases hv with ⟨x, e, rfl⟩ | ⟨e, _⟩
      · rw [← Option.some.inj e]
      · cases e
    have p0 := C_pos n ms.length hl
    have p6 := C_60 n ms.length hn
    have eb : binZ (n : Int) (ms.length : Int) = (C n ms.length : Int) := binZ_nat _ _
    refine ⟨u, rfl, _, rfl, _, rfl, _, rfl, _, _, rfl, by omega, _, _, rfl, rfl, ?_, ?_⟩
    · rw [eb]
      exact wide_div (b := 64) (by omega) (by omega) (by decide) (by decide)
    refine ⟨c / C n ms.length, u, m, ?_, hu, fun hm => ?_, q2⟩
    · dsimp only
      rw [eb, Int.natCast_ediv]
      rfl
    obtain ⟨k, rfl, hk⟩ := num_lt hm
    obtain rfl : u = .int (k : Int) := by
      rcases hu with ⟨x, e, rfl⟩ | ⟨e, _⟩
      · rw [← Option.some.inj e]
      · cases e
    have pl := place_of asc hx hk
    have ok := back_ok st.c0 ms.length ms k hl (fun k hk => st.dvd k hk) pl
    refine ⟨_, rfl, _, rfl, _, rfl, n, ms.length, c, rfl, hn, h1, hl, fun H1 p s1 np hP => ?_⟩
    refine ⟨.ref p, rfl, p, _, rfl, SqL.of hP, fun b nb => ?_⟩
    have s2 := same_new (o := .lst (setV (wdsL n c ms.length)).reverse) nb
    have er : (setV (wdsL n c ms.length)).reverse = setV ((List.range' 0 ms.length).reverse.map (wd n c)) := by
      unfold setV wdsL
      rw [← List.map_reverse, ← List.map_reverse, List.range_eq_range']
    rw [er]
    refine ⟨.ref a, rfl, _, rfl, n, c, b, a, (List.range' 0 ms.length).reverse, ms, k, rfl, hc, SqL.of upd_same, ?_, .inr (Same.seqT (s1.trans (same_new nb)) hA), by omega, fun x h => by have := hx x h; omega, ok, fun H' u s3 pu => ?_⟩
    · rw [List.length_reverse, List.length_range']
      omega
    obtain ⟨nu, t, nt, hu2, ht⟩ := pu
    refine ⟨u, _, rfl, SqT.of hu2, rfl, _, _, rfl, _, _, rfl, rfl, ?_⟩
    exact ⟨_, rfl, q3 k rfl hk H' (((s0.trans s1).trans (same_new nb)).trans s3)⟩
end
/-! ### the law's pot of drawn numbers -/
def PotAt (H : Hp) (p : Addr) (m : Nat) : Prop := ∃ a b c : Int, H p = some (.lst [.int a, .int b, .int c]) ∧ (0 ≤ a ∧ a < 10 ^ 300) ∧ (0 ≤ b ∧ b < 2305843009213693951) ∧ 0 ≤ c ∧ c ≤ (m : Int)
theorem PotAt.mono {H : Hp} {p : Addr} {m n : Nat} (h : PotAt H p m) (l : m ≤ n) : PotAt H p n := by
  obtain ⟨a, b, c, h1, h2, h3, h4, h5⟩ := h
  exact ⟨a, b, c, h1, h2, h3, h4, by omega⟩
theorem PotAt.same {H H' : Hp} {p : Addr} {m : Nat} (h : PotAt H p m) (s : Same H H') : PotAt H' p m := by
  obtain ⟨a, b, c, h1, h2⟩ := h
  exact ⟨a, b, c, s _ _ h1, h2⟩
theorem PotAt.ne {H : Hp} {p q : Addr} {m : Nat} (h : PotAt H p m) (n : H q = none) : p ≠ q := by
  obtain ⟨a, b, c, h1, _⟩ := h
  exact ne_of_none h1 n
def spPot (K : PySem.W.Frag) : Sp := fun vs H Q _ => ∃ (a : Addr) (ns : List Int) (i : Nat), vs = [.ref a, .int i] ∧ SqL K H a (ns.map V.int) ∧ i ≤ 100 ∧ ∀ H' p, Same H H' → H p = none → PotAt H' p 0 → Q (.ref p) H'
def spTake : Sp := fun vs H Q _ => ∃ (p : Addr) (m : Nat) (u : Int), vs = [.ref p, .int u] ∧ PotAt H p m ∧ m ≤ 1000000 ∧ 1 ≤ u ∧ u < 2 ^ 1000 ∧
  ∀ (r : Int) (H' : Hp), 0 ≤ r → r < u → PotAt H' p (m + 1) → But p H H' → Q (.int r) H'
theorem own_ok (x : Int) (c : Bool) : 0 ≤ x % ((10 : Int) ^ (60 : Int).toNat) ^ (5 : Int).toNat * (if c then 1 else 0) ∧ x % ((10 : Int) ^ (60 : Int).toNat) ^ (5 : Int).toNat * (if c then 1 else 0) < 10 ^ 300 := by
  have e : ((10 : Int) ^ (60 : Int).toNat) ^ (5 : Int).toNat = 10 ^ 300 := by decide +kernel
  rw [e]
  have h1 := Int.emod_nonneg x (show (10 : Int) ^ 300 ≠ 0 by decide +kernel)
  have h2 := Int.emod_lt_of_pos x (show (0 : Int) < 10 ^ 300 by decide +kernel)
  cases c with
  | true =>
    rw [if_pos rfl, Int.mul_one]
    exact ⟨h1, h2⟩
  | false =>
    rw [if_neg (by decide), Int.mul_zero]
    exact ⟨Int.le_refl _, by decide +kernel⟩
theorem big_pos : (0 : Int) < ((10 : Int) ^ (60 : Int).toNat) ^ (5 : Int).toNat := by decide +kernel
theorem bit_in (c : Bool) : -(2 ^ 64) < (if c then (1 : Int) else 0) ∧ (if c then (1 : Int) else 0) < 2 ^ 64 := by
  cases c <;> decide
theorem prime_at (i : Int) (h0 : 0 ≤ i) (h5 : i < 5) : ∃ v : Int, atI [V.int 2147483647, V.int 2147483629, V.int 2147483587, V.int 2147483579, V.int 2147483563] i = some (.int v) ∧ 0 < v ∧ v < 2 ^ 32 := by
  have h : i = 0 ∨ i = 1 ∨ i = 2 ∨ i = 3 ∨ i = 4 := by omega
  rcases h with rfl | rfl | rfl | rfl | rfl
  · exact ⟨2147483647, rfl, by decide, by decide⟩
  · exact ⟨2147483629, rfl, by decide, by decide⟩
  · exact ⟨2147483587, rfl, by decide, by decide⟩
  · exact ⟨2147483579, rfl, by decide, by decide⟩
  · exact ⟨2147483563, rfl, by decide, by decide⟩
section
variable {P : Program} {w : World} {K : PySem.W.Frag} {mg : Str → Option Value} {base : Heap}
theorem ok_pot (T : Txt K mg) {j : Nat} : FnOk P w K mg base CX0 (j + 1) T.fPot T.fdPot ["_law_script", "_law_spot"] (spPot K) := by
  refine T.FPot.ok scPot (fun vs H Q E h => ?_) (fun cdv A outer s H vs Q E hr h => ?_)
  · obtain ⟨a, ns, i, rfl, _⟩ := h
    rfl
  · obtain ⟨a, ns, i, rfl, hS, hi, q⟩ := h
    refine ⟨_, pss_cons (ps_set (i := 2) scPot.nd rfl (.inl rfl) (pe_ifExp (pt_cmpR op_lt (pv 1) (pe_callB call_len_seq (by rfl) T.n_len PySem.boot_len (pa_cons (pv 0) pa_nil)) (nomark _)) (pe_ix ix_list (pv 0) (pv 1) (fun _ _ => rfl)) (pe_op op_add pe_int (pv 1))))
      (pss_cons (ps_set (i := 3) scPot.nd rfl (.inl rfl) (pe_op op_mul (pe_op op_mod (pe_callB call_abs (by rfl) T.n_abs (by decide +kernel) (pa_cons (pv 2) pa_nil)) (pe_op op_powB (pe_op op_pow pe_int pe_int) pe_int))
        (pe_callTy call_int1 (by rfl) T.n_int (by decide +kernel) (pa_cons (pe_cmpR op_ge (pe_callB call_abs (by rfl) T.n_abs (by decide +kernel) (pa_cons (pv 2) pa_nil)) (pe_op op_pow pe_int pe_int) (nomark _)) pa_nil))))
      (pss_one (ps_ret (pe_lst (pa_cons (pv 3) (pa_cons (pe_op op_mod (pe_op op_add (pe_op op_add (pe_op op_mul (pe_op op_mod (pv 2) pe_int) pe_int) (pe_op op_mul (pe_op op_mul pe_int (pv 1)) (pv 1))) pe_int) pe_int) (pa_cons pe_int pa_nil))))))), ?_⟩
    refine ⟨_, rfl, .ref a, rfl, a, _, rfl, .inl hS, _, _, rfl, rfl, _, rfl, ite2 (fun h1 => ?_) (fun h1 => ?_)⟩
    · have hlt : i < ns.length := by
        have h2 := of_decide_eq_true h1
        rw [List.length_map] at h2
        omega
      refine ⟨.ref a, rfl, _, rfl, a, _, _, _, rfl, rfl, hS, atI_nat (v := V.int ns[i]) (by rw [List.getElem?_map, List.getElem?_eq_getElem hlt]; rfl), ?_⟩
      refine ⟨_, rfl, _, rfl, _, _, rfl, rfl, ⟨by decide, by decide, by decide⟩, _, _, rfl, rfl, ⟨by decide, by decide +kernel⟩, _, _, rfl, rfl, big_pos, _, rfl, _, rfl, _, _, rfl, rfl, ⟨by decide, by decide, by decide⟩, _, _, rfl, rfl, .inr ⟨_, rfl, _, _, rfl, rfl, .inr (bit_in _), ?_⟩⟩
      refine ⟨_, rfl, _, rfl, _, _, rfl, rfl, (show (0 : Int) < 2305843009213693951 by decide), _, _, rfl, rfl, .inr ⟨by decide, by decide⟩, _, rfl, _, _, rfl, rfl, .inl ⟨by decide, by decide⟩, _, rfl, _, _, rfl, rfl, .inr ⟨by omega, by omega⟩, _, _, rfl, rfl, _, _, rfl, rfl, _, _, rfl, rfl, (show (0 : Int) < 2305843009213693921 by decide), ?_⟩
      refine ⟨by show 3 ≤ sizeLine; decide, fun p np => ?_⟩
      refine q _ p (same_new np) np ⟨_, _, 0, upd_same, own_ok _ _, ⟨Int.emod_nonneg _ (by decide), Int.lt_trans (Int.emod_lt_of_pos _ (by decide)) (by decide)⟩, Int.le_refl _, Int.le_refl _⟩
    · refine ⟨_, rfl, _, _, rfl, rfl, ?_⟩
      refine ⟨_, rfl, _, rfl, _, _, rfl, rfl, ⟨by decide, by decide, by decide⟩, _, _, rfl, rfl, ⟨by decide, by decide +kernel⟩, _, _, rfl, rfl, big_pos, _, rfl, _, rfl, _, _, rfl, rfl, ⟨by decide, by decide, by decide⟩, _, _, rfl, rfl, .inr ⟨_, rfl, _, _, rfl, rfl, .inr (bit_in _), ?_⟩⟩
      refine ⟨_, rfl, _, rfl, _, _, rfl, rfl, (show (0 : Int) < 2305843009213693951 by decide), _, _, rfl, rfl, .inr ⟨by decide, by decide⟩, _, rfl, _, _, rfl, rfl, .inl ⟨by decide, by decide⟩, _, rfl, _, _, rfl, rfl, .inr ⟨by omega, by omega⟩, _, _, rfl, rfl, _, _, rfl, rfl, _, _, rfl, rfl, (show (0 : Int) < 2305843009213693921 by decide), ?_⟩
      refine ⟨by show 3 ≤ sizeLine; decide, fun p np => ?_⟩
      refine q _ p (same_new np) np ⟨_, _, 0, upd_same, own_ok _ _, ⟨Int.emod_nonneg _ (by decide), Int.lt_trans (Int.emod_lt_of_pos _ (by decide)) (by decide)⟩, Int.le_refl _, Int.le_refl _⟩
theorem ok_take (T : Txt K mg) {j : Nat} : FnOk P w K mg base CX0 (j + 1) T.fTake T.fdTake ["_law_pot_here", "_law_upto"] spTake := by
  refine T.FTake.ok scTake (fun vs H Q E h => ?_) (fun cdv A outer s H vs Q E hr h => ?_)
  · obtain ⟨p, m, u, rfl, _⟩ := h
    rfl
  · obtain ⟨p, m, u, rfl, ⟨a, b, c, hp, ha, hb, hc0, hcm⟩, hm, hu1, hu2, q⟩ := h
    refine ⟨_, pss_cons (ps_if (pt_cmpR op_gt (pe_ix ix_list (pv 0) pe_int (fun _ _ => rfl)) pe_int (nomark _))
        (pss_cons (ps_set (i := 2) scTake.nd rfl (.inl rfl) (pe_op op_mod (pe_ix ix_list (pv 0) pe_int (fun _ _ => rfl)) (pv 1)))
        (pss_cons (ps_asg (pe_op op_fdivW (pe_ix ix_list (pv 0) pe_int (fun _ _ => rfl)) (pv 1)) (pg_sub (pv 0) pe_int set_list))
        (pss_one (ps_ret (pv 2))))) pss_nil)
      (pss_cons (ps_asg (pe_op op_add (pe_ix ix_list (pv 0) pe_int (fun _ _ => rfl)) pe_int) (pg_sub (pv 0) pe_int set_list))
      (pss_cons (ps_set (i := 3) scTake.nd rfl (.inl rfl) (pe_ix ix_list (pe_lst (pa_cons pe_int (pa_cons pe_int (pa_cons pe_int (pa_cons pe_int (pa_cons pe_int pa_nil)))))) (pe_op op_mod (pe_ix ix_list (pv 0) pe_int (fun _ _ => rfl)) pe_int) (fun _ _ => rfl)))
      (pss_cons (ps_set (i := 4) scTake.nd rfl (.inl rfl) (pe_op op_mod (pe_op op_pow (pe_op op_add (pe_ix ix_list (pv 0) pe_int (fun _ _ => rfl)) (pe_op op_mul pe_int (pe_ix ix_list (pv 0) pe_int (fun _ _ => rfl)))) pe_int) (pv 3)))
      (pss_one (ps_ret (pe_op op_mod (pe_op op_fdiv (pe_op op_mod (pe_op op_mul (pv 4) (pe_op op_add (pe_op op_mod (pv 4) pe_int) (pe_ix ix_list (pv 0) pe_int (fun _ _ => rfl)))) (pv 3)) pe_int) (pv 1))))))), ?_⟩
    refine ⟨.ref p, rfl, p, _, _, _, rfl, rfl, SqL.of hp, rfl, _, _, rfl, rfl, _, rfl, ite2 (fun h1 => ?_) (fun h1 => ?_)⟩
    · have h0 : 0 < a := of_decide_eq_true h1
      refine ⟨.ref p, rfl, p, _, _, _, rfl, rfl, SqL.of hp, rfl, _, rfl, _, _, rfl, rfl, by omega, ?_⟩
      refine ⟨.ref p, rfl, p, _, _, _, rfl, rfl, SqL.of hp, rfl, _, rfl, _, _, rfl, rfl, wide_div (b := 1000) (by omega) (by omega) (by decide) (by decide), ?_⟩
      refine ⟨.ref p, rfl, p, _, _, 0, rfl, rfl, hp, rfl, ?_⟩
      refine ⟨_, rfl, q _ _ (Int.emod_nonneg _ (by omega)) (Int.emod_lt_of_pos _ (by omega)) ⟨a / u, b, c, upd_same, ?_, hb, hc0, by omega⟩ (But.refl p H).upd⟩
      have h3 : a / u ≤ a := Int.ediv_le_self _ (by omega)
      exact ⟨Int.ediv_nonneg (by omega) (by omega), by omega⟩
    · refine ⟨.ref p, rfl, p, _, _, _, rfl, rfl, SqL.of hp, rfl, _, _, rfl, rfl, .ref p, rfl, p, _, _, 2, rfl, rfl, hp, rfl, ?_⟩
      have hp2 : (upd H p (.lst [V.int a, V.int b, V.int (c + 1)])) p = some (.lst [V.int a, V.int b, V.int (c + 1)]) := upd_same
      obtain ⟨v, ev, v0, v32⟩ := prime_at ((c + 1) % 5) (Int.emod_nonneg _ (by decide)) (Int.emod_lt_of_pos _ (by decide))
      refine ⟨by decide, fun l nl => ?_⟩
      have npl : p ≠ l := ne_of_none hp2 nl
      have hp3 : (upd (upd H p (.lst [V.int a, V.int b, V.int (c + 1)])) l (.lst [V.int 2147483647, V.int 2147483629, V.int 2147483587, V.int 2147483579, V.int 2147483563])) p = some (.lst [V.int a, V.int b, V.int (c + 1)]) := by
        rw [upd_ne npl]
        exact hp2
      refine ⟨.ref p, rfl, p, _, _, _, rfl, rfl, SqL.of hp3, rfl, _, _, rfl, rfl, (show (0 : Int) < 5 by decide), l, _, _, _, rfl, rfl, SqL.of upd_same, ev, ?_⟩
      refine ⟨.ref p, rfl, p, _, _, _, rfl, rfl, SqL.of hp3, rfl, .ref p, rfl, p, _, _, _, rfl, rfl, SqL.of hp3, rfl, _, _, rfl, rfl, .inl ⟨by decide, by decide⟩, _, _, rfl, rfl, _, _, rfl, rfl, ⟨by decide, by decide, ?_⟩, _, rfl, _, _, rfl, rfl, v0, ?_⟩
      · have : (b + 7919 * (c + 1)).natAbs < 2 ^ 64 := by omega
        exact this
      · refine ⟨_, rfl, _, rfl, _, _, rfl, rfl, (show (0 : Int) < 1013 by decide), .ref p, rfl, p, _, _, _, rfl, rfl, SqL.of hp3, rfl, _, _, rfl, rfl, _, _, rfl, rfl, .inl ?_, _, rfl, _, _, rfl, rfl, v0, _, _, rfl, rfl, ⟨by decide, by decide⟩, _, rfl, _, _, rfl, rfl, by omega, ?_⟩
        · have h3 := Int.emod_nonneg ((b + 7919 * (c + 1)) ^ (3 : Int).toNat) (show v ≠ 0 by omega)
          have h4 := Int.emod_lt_of_pos ((b + 7919 * (c + 1)) ^ (3 : Int).toNat) v0
          exact ⟨by omega, by omega⟩
        · refine q _ _ (Int.emod_nonneg _ (by omega)) (Int.emod_lt_of_pos _ (by omega)) ⟨a, b, c + 1, hp3, ha, hb, by omega, by omega⟩ ?_
          exact (But.refl p H).upd.same (same_new nl)
end
/-! ### one of some -/
def spOf : Sp := fun vs H Q _ => ∃ (p : Addr) (m : Nat) (l : Addr) (xs : List V), vs = [.ref p, .ref l] ∧ PotAt H p m ∧ m ≤ 1000000 ∧ H l = some (.lst xs) ∧ l ≠ p ∧ 1 ≤ xs.length ∧ xs.length ≤ 1000 ∧
  ∀ (v : V) (H' : Hp), v ∈ xs → PotAt H' p (m + 1) → But p H H' → Q v H'
theorem pick_at {xs : List V} {r : Int} (h0 : 0 ≤ r) (hl : r < (xs.length : Int)) : ∃ v, v ∈ xs ∧ atI xs r = some v := by
  obtain ⟨k, rfl⟩ := Int.eq_ofNat_of_zero_le h0
  have hk : k < xs.length := by omega
  exact ⟨xs[k], List.getElem_mem hk, atI_nat (List.getElem?_eq_getElem hk)⟩
section
variable {P : Program} {w : World} {K : PySem.W.Frag} {mg : Str → Option Value} {base : Heap}
theorem ok_of (T : Txt K mg) {j : Nat} : FnOk P w K mg base CX0 (j + 2) T.fOf T.fdOf ["_law_pot_here", "_law_some"] spOf := by
  refine T.FOf.ok scOf (fun vs H Q E h => ?_) (fun cdv A outer s H vs Q E hr h => ?_)
  · obtain ⟨p, m, l, xs, rfl, _⟩ := h
    rfl
  · obtain ⟨p, m, l, xs, rfl, P0, hm, hl, hne, h1, h2, q⟩ := h
    refine ⟨_, pss_one (ps_ret (pe_ix ix_list (pv 1) (pe_call (ok_take T) hr (by rfl) T.gTake T.FTake.kp T.bTake .nil pass0 (pa_cons (pv 0) (pa_cons (pe_callB call_len_seq (by rfl) T.n_len PySem.boot_len (pa_cons (pv 1) pa_nil)) pa_nil))) (fun _ _ => rfl))), ?_⟩
    refine ⟨.ref l, rfl, .ref p, rfl, .ref l, rfl, l, _, rfl, .inl (SqL.of hl), p, m, _, rfl, P0, hm, by omega, ?_, fun r H' r0 rl P1 B1 => ?_⟩
    · exact Int.lt_trans (show (xs.length : Int) < 1001 by omega) (by decide +kernel)
    · obtain ⟨v, hv, ev⟩ := pick_at r0 rl
      exact ⟨l, xs, r, v, rfl, rfl, SqL.of (B1 _ _ hne hl), ev, q v H' hv P1 B1⟩
end
/-! ### the law's rows: Pascal's triangle as lists -/
def rowV (i : Nat) : List V := (List.range 61).map fun j => V.int (C i j)
theorem rowV_at (i : Nat) {j : Nat} (h : j < 61) : (rowV i)[j]? = some (V.int (C i j)) := by
  unfold rowV
  rw [List.getElem?_map, List.getElem?_range h]
  rfl
theorem rowV_zero : rowV 0 = [V.int 1] ++ (List.replicate (60 : Int).toNat [V.int 0]).flatten := by decide +kernel
theorem rowV_succ (i : Nat) : rowV (i + 1) = [V.int 1] ++ (List.range 60).map fun j => V.int (C (i + 1) (j + 1)) := by
  unfold rowV
  rw [List.range_succ_eq_map, List.map_cons, List.map_map, C_zero]
  rfl
theorem rowV_ne (i : Nat) (rs : List Addr) (h : rowV i = rs.map V.ref) : False := by
  have h1 := rowV_at i (show 0 < 61 by decide)
  rw [h, List.getElem?_map] at h1
  cases e : rs[0]? with
  | none =>
    rw [e] at h1
    cases h1
  | some r =>
    rw [e] at h1
    cases h1
structure RowsAt (H : Hp) (p : Addr) (rs : List Addr) : Prop where
  at_p : H p = some (.lst (rs.map V.ref))
  row : ∀ i r, rs[i]? = some r → H r = some (.lst (rowV i))
def spRows : Sp := fun vs H Q _ => vs = [] ∧ ∀ H' p rs, Same H H' → H p = none → rs.length = 61 → RowsAt H' p rs → Q (.ref p) H'
theorem map_last {rs : List Addr} {k : Nat} (h : rs.length = k + 1) : ∃ r, rs[k]? = some r ∧ atI (rs.map V.ref) (-1) = some (.ref r) := by
  have h1 : rs ≠ [] := fun z => by
    rw [z] at h
    cases h
  refine ⟨rs.getLast h1, ?_, ?_⟩
  · have e : rs.length - 1 = k := by omega
    rw [List.getLast_eq_getElem h1, ← List.getElem?_eq_getElem]
    rw [e]
  · have hz : rs.map V.ref = rs.dropLast.map V.ref ++ [V.ref (rs.getLast h1)] := by
      rw [← List.map_singleton, ← List.map_append, List.dropLast_concat_getLast]
    rw [hz]
    exact atI_last _ _
def WRows (H : Hp) (p : Addr) (m : Nat) (σ : L2.St) (H' : Hp) : Prop := ∃ rs v, σ = [some (.ref p), v, none] ∧ Same H H' ∧ m + rs.length = 61 ∧ 1 ≤ rs.length ∧ RowsAt H' p rs
section
variable {P : Program} {w : World} {K : PySem.W.Frag} {mg : Str → Option Value} {base : Heap}
theorem ok_rows (T : Txt K mg) {j : Nat} : FnOk P w K mg base CX0 (j + 1) T.fRows T.fdRows [] spRows := by
  refine T.FRows.ok scRows (fun vs H Q E h => ?_) (fun cdv A outer s H vs Q E hr h => ?_)
  · obtain ⟨rfl, _⟩ := h
    rfl
  · obtain ⟨rfl, q⟩ := h
    refine ⟨_, pss_cons (ps_set (i := 0) scRows.nd rfl (.inl rfl) (pe_lst (pa_cons (pe_op op_cat (pe_lst (pa_cons pe_int pa_nil)) (pe_op op_rep (pe_lst (pa_cons pe_int pa_nil)) pe_int)) pa_nil)))
      (pss_cons (ps_while PassesOwn.never (pt_cmpR op_lt (pe_callB call_len_seq (by rfl) T.n_len PySem.boot_len (pa_cons (pv 0) pa_nil)) pe_int (nomark _))
        (pss_cons (ps_set (i := 1) scRows.nd rfl (.inr rfl) (pe_ix ix_list (pv 0) (pe_un un_neg pe_int) (fun _ _ => rfl)))
        (pss_one (ps_expr (pe_bm PySem.F.plainAttrs_list PySem.F.slot_list_append PySem.F.type_list_append mt_append (pv 0) (pa_cons (pe_op op_cat (pe_lst (pa_cons pe_int pa_nil))
          (pe_lc (own := [("_law_at", 2)]) (g := gName 2) (tt := tYes) rfl scRows.nd (pi_range2 (by rfl) T.n_range (pa_cons pe_int (pa_cons pe_int pa_nil)))
            (blkOk_by (own := [("_law_at", 2)]) (N := ["_law_rows_here", "_law_last", "_law_at"]) (sc := defScope sRows) (by decide +kernel))
            (fun _ _ _ _ _ => pg_name (i := 2) scRows.nd rfl (Or.inl rfl)) (fun _ _ _ _ _ => pts_nil)
            (fun _ _ _ _ _ => pe_op op_add (pe_ix (r := rIxL K) ix_list (pv 1) (pv 2) (fun _ _ => rfl)) (pe_ix (r := rIxL K) ix_list (pv 1) (pe_op op_sub (pv 2) pe_int) (fun _ _ => rfl))))) pa_nil))))))
      (pss_one (ps_ret (pv 0)))), ?_⟩
    -- the first row
    refine ⟨by decide, fun p1 n1 => ⟨by decide, fun p2 n2 => ⟨p2, 60, _, rfl, rfl, upd_same, by decide, by decide, by decide, fun p3 n3 => ⟨p1, p3, [V.int 1], _, rfl, rfl, ?_, upd_same, by decide, fun p4 n4 => ⟨(by show 1 ≤ sizeLine; decide), fun p5 n5 => ?_⟩⟩⟩⟩⟩
    · rw [upd_ne (ne_of_none (by rw [upd_ne (ne_of_none upd_same n2)]; exact upd_same) n3), upd_ne (ne_of_none upd_same n2)]
      exact upd_same
    · have s1 := same_new (o := .lst [V.int 1]) n1
      have s2 := s1.trans (same_new (o := .lst [V.int 0]) n2)
      have s3 := s2.trans (same_new (o := .lst (List.replicate (60 : Int).toNat [V.int 0]).flatten) n3)
      have s4 := s3.trans (same_new (o := .lst ([V.int 1] ++ (List.replicate (60 : Int).toNat [V.int 0]).flatten)) n4)
      have f5 := s4.free n5
      refine ⟨WRows H p5, ⟨60, [p4], none, rfl, s4.trans (same_new n5), rfl, Nat.le_refl _, upd_same, ?_⟩, fun m σ H6 hW => ?_⟩
      · intro i r e
        cases i with
        | succ i => cases e
        | zero =>
          obtain rfl : p4 = r := Option.some.inj e
          rw [upd_ne (ne_of_none upd_same n5), rowV_zero]
          exact upd_same
      · obtain ⟨rs, v, rfl, s6, hm, h1, R⟩ := hW
        refine ⟨_, rfl, p5, _, rfl, .inl (SqL.of R.at_p), _, _, rfl, rfl, _, rfl, ite2 (fun hb => ?_) (fun hb => ?_)⟩
        · have hlt : rs.length < 61 := by
            have := of_decide_eq_true hb
            rw [List.length_map] at this
            omega
          refine ⟨WRows H p5 (m - 1), fun σ' H' h => ⟨m - 1, by omega, h⟩, ?_⟩
          obtain ⟨k, hk⟩ : ∃ k, rs.length = k + 1 := ⟨rs.length - 1, by omega⟩
          obtain ⟨r, er, el⟩ := map_last hk
          have hrow := R.row k r er
          -- last = rows[-1]
          refine ⟨.ref p5, rfl, 1, rfl, p5, _, -1, _, rfl, rfl, SqL.of R.at_p, el, ?_⟩
          -- rows.append([1] + [..])
          refine ⟨.ref p5, rfl, .inl ⟨rfl, _, SqL.of R.at_p⟩, by decide, fun q1 m1 => ?_⟩
          have t1 := same_new (o := .lst [V.int 1]) m1
          refine ⟨1, 61, rfl, ⟨by decide, by decide, by decide, by decide⟩, fun D nD => ?_⟩
          refine lc_range (lo := 1) (n := 60) (fun i H7 => Same (upd H6 q1 (.lst [V.int 1])) H7 ∧ H7 D = some (.lst ((List.range i).map fun j => V.int (C (k + 1) (j + 1))))) ⟨same_new nD, upd_same⟩ ?_ ?_
          · rintro i H7 hi ⟨s7, hD⟩
            have hr7 := s7 _ _ (t1 _ _ hrow)
            have e1 : (1 + (i : Int)) = ((i + 1 : Nat) : Int) := by omega
            have a1 : atI (rowV k) (1 + (i : Int)) = some (V.int (C k (i + 1))) := by
              rw [e1]
              exact atI_nat (rowV_at k (by omega))
            have a2 : atI (rowV k) (1 + (i : Int) - 1) = some (V.int (C k i)) := by
              rw [show (1 + (i : Int) - 1) = (i : Int) by omega]
              exact atI_nat (rowV_at k (by omega))
            refine ⟨rfl, .ref r, rfl, _, rfl, r, _, _, _, rfl, rfl, SqL.of hr7, a1, .ref r, rfl, _, rfl, _, _, rfl, rfl, r, _, _, _, rfl, rfl, SqL.of hr7, a2, _, _, rfl, rfl, _, hD, ?_, keep_upd s7 nD, ?_⟩
            · rw [List.length_map, List.length_range]
              exact small1000 (by omega)
            · rw [upd_same, List.range_succ, List.map_append]
              show some (HO.lst (_ ++ [V.int ((C k (i + 1) : Int) + (C k i : Int))])) = some (HO.lst (_ ++ [V.int ((C k i + C k (i + 1) : Nat) : Int)]))
              rw [Int.natCast_add, Int.add_comm]
          · rintro H7 ⟨s7, hD⟩
            refine ⟨q1, D, _, _, rfl, rfl, s7 _ _ upd_same, hD, by rw [List.length_map, List.length_range]; decide, fun p7 n7 => ?_⟩
            have t7 := t1.trans (s7.trans (same_new (o := .lst ([V.int 1] ++ (List.range 60).map fun j => V.int (C (k + 1) (j + 1)))) n7))
            refine ⟨p5, _, _, rfl, rfl, t7 _ _ R.at_p, ?_, ?_⟩
            · rw [List.length_map]
              exact small1000 (by omega)
            · have n75 : p7 ≠ p5 := fun z => by
                rw [z, s7 _ _ (t1 _ _ R.at_p)] at n7
                cases n7
              refine ⟨rs ++ [p7], some (.ref r), rfl, keep_upd (s6.trans t7) f5, by rw [List.length_append]; show m - 1 + (rs.length + 1) = 61; omega, by rw [List.length_append]; omega, ?_, ?_⟩
              · rw [upd_same, List.map_append]
                rfl
              · intro i x e
                by_cases hi : i < rs.length
                · rw [List.getElem?_append_left hi] at e
                  have hx := R.row i x e
                  have nx : x ≠ p5 := fun z => by
                    have h9 := R.at_p
                    rw [← z, hx] at h9
                    injection h9 with h9
                    injection h9 with h9
                    exact rowV_ne i rs h9
                  rw [upd_ne nx]
                  exact t7 _ _ hx
                · have ei : i = rs.length := by
                    have := (List.getElem?_eq_some_iff.mp e).1
                    rw [List.length_append] at this
                    have h2 : i < rs.length + 1 := this
                    omega
                  subst ei
                  rw [List.getElem?_concat_length] at e
                  obtain rfl := Option.some.inj e
                  rw [upd_ne n75, hk, rowV_succ]
                  exact upd_same
        · have hge : rs.length = 61 := by
            have h9 : ¬ ((rs.map V.ref).length : Int) < 61 := fun z => hb (decide_eq_true z)
            rw [List.length_map] at h9
            omega
          exact ⟨_, rfl, q _ _ rs s6 f5 hge R⟩
end
/-! ### the law's common divisor -/
def spCommon : Sp := fun vs H Q _ => ∃ a b : Nat, vs = [.int a, .int b] ∧ Q (.int (Nat.gcd a b : Nat)) H
def WCommon (a b : Nat) (H : Hp) (m : Nat) (σ : L2.St) (H' : Hp) : Prop := ∃ x y : Nat, σ = [some (.int x), some (.int y)] ∧ H' = H ∧ Nat.gcd x y = Nat.gcd a b ∧ m = y
theorem common_turn (x y : Nat) : Nat.gcd y (x % y) = Nat.gcd x y := by
  rw [Nat.gcd_comm x y, Nat.gcd_rec y x, Nat.gcd_comm]
section
variable {P : Program} {w : World} {K : PySem.W.Frag} {mg : Str → Option Value} {base : Heap}
theorem ok_common (T : Txt K mg) {j : Nat} : FnOk P w K mg base CX0 (j + 1) T.fCommon T.fdCommon ["_law_one", "_law_other"] spCommon := by
  refine T.FCommon.ok scCommon (fun vs H Q E h => ?_) (fun cdv A outer s H vs Q E hr h => ?_)
  · obtain ⟨a, b, rfl, _⟩ := h
    rfl
  · obtain ⟨a, b, rfl, q⟩ := h
    refine ⟨_, pss_cons (ps_while PassesOwn.never (pt_cmpR op_gt (pv 1) pe_int (nomark _)) (pss_one (ps_par (i := 0) (j := 1) rfl scCommon.nd rfl rfl (by decide) rfl rfl (pa_cons (pv 1) (pa_cons (pe_op op_mod (pv 0) (pv 1)) pa_nil)) (by rfl))))
      (pss_one (ps_ret (pv 0))), ?_⟩
    refine ⟨WCommon a b H, ⟨b, a, b, rfl, rfl, rfl, rfl⟩, ?_⟩
    rintro m σ H' ⟨x, y, rfl, rfl, hg, rfl⟩
    refine ⟨_, rfl, _, _, rfl, rfl, _, rfl, ite2 (fun h1 => ?_) (fun h1 => ?_)⟩
    · have h0 : (0 : Int) < (m : Int) := of_decide_eq_true h1
      refine ⟨WCommon a b H' (x % m), fun σ' H'' hw => ⟨x % m, Nat.mod_lt _ (by omega), hw⟩, ?_⟩
      refine ⟨_, rfl, _, rfl, _, rfl, _, _, rfl, rfl, h0, _, _, rfl, m, x % m, ?_, rfl, by rw [common_turn]; exact hg, rfl⟩
      rw [Int.natCast_emod]
      rfl
    · have h0 : m = 0 := by
        have h2 : ¬ (0 : Int) < (m : Int) := fun z => h1 (decide_eq_true z)
        omega
      subst h0
      rw [Nat.gcd_zero_right] at hg
      rw [← hg] at q
      exact ⟨_, rfl, q⟩
end
/-! ### the law's least number of lists -/
theorem RowsAt.same {H H' : Hp} {p : Addr} {rs : List Addr} (R : RowsAt H p rs) (s : Same H H') : RowsAt H' p rs := ⟨s _ _ R.at_p, fun i r e => s _ _ (R.row i r e)⟩
theorem RowsAt.at {K : PySem.W.Frag} {H : Hp} {p : Addr} {rs : List Addr} (R : RowsAt H p rs) (hl : rs.length = 61) {i : Nat} (hi : i < 61) : ∃ r, atI (rs.map V.ref) (i : Int) = some (.ref r) ∧ SqL K H r (rowV i) := by
  have h : i < rs.length := by omega
  refine ⟨rs[i], atI_nat (by rw [List.getElem?_map, List.getElem?_eq_getElem h]; rfl), SqL.of (R.row i _ (List.getElem?_eq_getElem h))⟩
def spLeast : Sp := fun vs H Q _ => ∃ (p : Addr) (rs : List Addr) (n d : Nat), vs = [.ref p, .int n, .int d] ∧ RowsAt H p rs ∧ rs.length = 61 ∧ n ≤ 60 ∧ 1 ≤ n ∧ d ≤ n ∧ Q (.int (leastL n d : Nat)) H
section
variable {P : Program} {w : World} {K : PySem.W.Frag} {mg : Str → Option Value} {base : Heap}
theorem ok_least (T : Txt K mg) {j : Nat} : FnOk P w K mg base CX0 (j + 2) T.fLeast T.fdLeast ["_law_rows_here", "_law_wide", "_law_tall"] spLeast := by
  refine T.FLeast.ok scLeast (fun vs H Q E h => ?_) (fun cdv A outer s H vs Q E hr h => ?_)
  · obtain ⟨p, rs, n, d, rfl, _⟩ := h
    rfl
  · obtain ⟨p, rs, n, d, rfl, R, hl, hn, h1, hd, q⟩ := h
    refine ⟨_, pss_cons (ps_set (i := 3) scLeast.nd rfl (.inl rfl) pe_int)
      (pss_cons (ps_for PassesOwn.never rfl (pi_range1 (by rfl) T.n_range (pa_cons (pv 2) pa_nil)) (pg_name (i := 4) scLeast.nd rfl (.inl rfl))
        (pss_cons (ps_set (i := 5) scLeast.nd rfl (.inl rfl) (pe_op op_mul (pv 1) (pe_ix ix_list (pe_ix ix_list (pv 0) (pe_op op_sub (pv 1) pe_int) (fun _ _ => rfl)) (pv 4) (fun _ _ => rfl))))
        (pss_one (ps_set (i := 3) scLeast.nd rfl (.inl rfl) (pe_op op_mul (pe_op op_fdivW (pv 3) (pe_call (ok_common T) hr (by rfl) T.gCommon T.FCommon.kp T.bCommon .nil pass0 (pa_cons (pv 3) (pa_cons (pv 5) pa_nil)))) (pv 5))))))
      (pss_one (ps_ret (pv 3)))), ?_⟩
    refine ⟨_, rfl, (d : Int), rfl, by omega, by omega, ?_⟩
    refine for_range (lo := 0) (n := (d : Int).toNat) (fun i σ H2 => ∃ v u, σ = [some (.ref p), some (.int n), some (.int d), some (.int (leastL n i : Nat)), v, u] ∧ H2 = H) ⟨none, none, rfl, rfl⟩ ?_ ?_
    · rintro i σ H2 hi ⟨v, u, rfl, rfl⟩
      have hid : i < n := by omega
      rw [Int.zero_add]
      obtain ⟨r, er, hr2⟩ := R.at (K := K) hl (show n - 1 < 61 by omega)
      have en : (n : Int) - 1 = ((n - 1 : Nat) : Int) := by omega
      have e0 := edge_pos hid
      have e1 := edge_lt (d := i) hn
      have ec : ((n : Int) * (C (n - 1) i : Int)) = ((n * C (n - 1) i : Nat) : Int) := (Int.natCast_mul _ _).symm
      have g0 : 0 < Nat.gcd (leastL n i) (n * C (n - 1) i) := Nat.gcd_pos_of_pos_right _ e0
      have g1 : Nat.gcd (leastL n i) (n * C (n - 1) i) ≤ n * C (n - 1) i := Nat.gcd_le_right _ e0
      refine ⟨_, rfl, .ref p, rfl, _, rfl, _, _, rfl, rfl, p, _, _, _, rfl, rfl, SqL.of R.at_p, by rw [en]; exact er, _, rfl, r, _, _, _, rfl, rfl, hr2, atI_nat (rowV_at (n - 1) (show i < 61 by omega)), _, _, rfl, rfl, .inl ⟨by omega, by omega⟩, ?_⟩
      dsimp only
      rw [ec]
      refine ⟨_, rfl, _, rfl, _, rfl, leastL n i, n * C (n - 1) i, rfl, _, _, rfl, rfl, wide_div (b := 64) (by omega) (by omega) (by decide) (by decide), _, rfl, _, _, rfl, rfl, .inr ⟨by omega, by omega⟩, some (.int (i : Int)), some (.int ((n * C (n - 1) i : Nat) : Int)), ?_, rfl⟩
      show _ = [_, _, _, some (V.int ((stepL (leastL n i) (n * C (n - 1) i) : Nat) : Int)), _, _]
      unfold stepL
      rw [Int.natCast_mul _ (n * C (n - 1) i), Int.natCast_ediv]
      rfl
    · rintro σ H2 ⟨v, u, rfl, rfl⟩
      rw [Int.toNat_natCast]
      exact ⟨_, rfl, q⟩
end
/-! ### the law's own walk -/
def spWalk : Sp := fun vs H Q _ => ∃ (p : Addr) (rs : List Addr) (n d c k : Nat), vs = [.ref p, .int n, .int d, .int c, .int k] ∧ RowsAt H p rs ∧ rs.length = 61 ∧ Std n d c ∧ k < c ∧ c < 2 ^ 500 ∧
  ∀ H' x t u ms, Same H H' → H x = none → H t = none → ms.Perm (path n d c k).1 → Asc ms → H' x = some (.tup [.ref t, .ref u]) → H' t = some (.tup (setV (path n d c k).1)) → PairAt H H' u ms (path n d c k).2 → Q (.ref x) H'
section
variable {P : Program} {w : World} {K : PySem.W.Frag} {mg : Str → Option Value} {base : Heap}
theorem ok_walk (T : Txt K mg) {j : Nat} : FnOk P w K mg base CX0 (j + 1) T.fWalk T.fdWalk ["_law_rows_here", "_law_wide", "_law_tall", "_law_total", "_law_spot"] spWalk := by
  refine T.FWalk.ok scWalk (fun vs H Q E h => ?_) (fun cdv A outer s H vs Q E hr h => ?_)
  · obtain ⟨p, rs, n, d, c, k, rfl, _⟩ := h
    rfl
  · obtain ⟨p, rs, n, d, c, k, rfl, R, hl, st, hk, hc, q⟩ := h
    have hn := st.n60
    have hd := st.dn
    have h1 := st.n1
    refine ⟨_, pss_cons (ps_asg (pe_tup (pa_cons (pe_lst pa_nil) (pa_cons (pe_lst pa_nil) (pa_cons (pv 4) pa_nil)))) (pg_tup rfl (pgs_cons (pg_name (i := 5) scWalk.nd rfl (.inl rfl)) (pgs_cons (pg_name (i := 6) scWalk.nd rfl (.inr rfl)) (pgs_cons (pg_name (i := 7) scWalk.nd rfl (.inl rfl)) pgs_nil))))) (pss_cons (ps_for PassesOwn.never rfl (pi_range1 (by rfl) T.n_range (pa_cons (pv 2) pa_nil)) (pg_name (i := 8) scWalk.nd rfl (.inl rfl)) (pss_cons (ps_set (i := 9) scWalk.nd rfl (.inl rfl) (pe_op op_fdivW (pv 3) (pe_op op_mul (pv 1) (pe_ix (ix_listK K) (pe_ix (ix_listK K) (pv 0) (pe_op op_sub (pv 1) pe_int) (fun _ _ => rfl)) (pv 8) (fun _ _ => rfl))))) (pss_cons (ps_setLc (i := 10) (own := [("_law_one", 11)]) (g := (gName 11)) rfl scWalk.nd rfl rfl (sw_true rfl rfl rfl (by decide +kernel)) (pi_range1 (by rfl) T.n_range (pa_cons (pv 1) pa_nil)) (blkOk_by (own := [("_law_one", 11)]) (N := NWalk) (sc := defScope sWalk) (by decide +kernel)) (fun _ _ _ _ _ => (pg_name (i := 11) scWalk.nd rfl (.inl rfl))) (fun _ _ _ _ _ => pts_one (pt_cmpR (op_notInK K) (pv 11) (pv 6) (by rfl))) (fun _ _ _ _ _ => (pv 11))) (pss_cons (ps_set (i := 11) scWalk.nd rfl (.inl rfl) (pe_ix (ix_listK K) (pv 10) (pe_op op_fdivW (pv 7) (pv 9)) (fun _ _ => rfl))) (pss_cons (ps_set (i := 6) scWalk.nd rfl (.inr rfl) (pe_callB (cr_sortTI K) (by rfl) T.n_sorted (by decide +kernel) (pa_cons (pe_op op_cat (pv 6) (pe_lst (pa_cons (pv 11) pa_nil))) pa_nil))) (pss_cons (ps_set (i := 7) scWalk.nd rfl (.inl rfl) (pe_op op_add (pe_op op_mul (pe_bm PySem.F.plainAttrs_list PySem.F.slot_list_index PySem.F.type_list_index mt_index (pv 6) (pa_cons (pv 11) pa_nil)) (pv 9)) (pe_op op_mod (pv 7) (pv 9)))) (pss_one (ps_expr (pe_bm PySem.F.plainAttrs_list PySem.F.slot_list_append PySem.F.type_list_append mt_append (pv 5) (pa_cons (pv 11) pa_nil)))))))))) (pss_one (ps_ret (pe_tup (pa_cons (pe_callTy (call_tupleK K) (by rfl) T.n_tuple (by decide +kernel) (pa_cons (pv 5) pa_nil)) (pa_cons (pe_tup (pa_cons (pe_callTy (call_tupleK K) (by rfl) T.n_tuple (by decide +kernel) (pa_cons (pv 6) pa_nil)) (pa_cons (pv 7) pa_nil))) pa_nil)))))), ?_⟩
    refine ⟨Nat.zero_le _, fun pf nf => ⟨Nat.zero_le _, fun pi ni => ⟨_, rfl, (by show 3 ≤ sizeLine; decide), fun pt nt => ?_⟩⟩⟩
    refine ⟨pt, _, rfl, SqT.of upd_same, rfl, _, _, rfl, _, _, rfl, _, _, rfl, rfl, ?_⟩
    have npi : pi ≠ pf := fun z => by
      rw [z, upd_same] at ni
      cases ni
    have fi : H pi = none := (same_new nf).free ni
    have s0 : Same H (upd (upd (upd H pf (.lst [])) pi (.lst [])) pt (.tup [V.ref pf, V.ref pi, V.int (k : Int)])) := ((same_new nf).trans (same_new ni)).trans (same_new nt)
    refine ⟨_, rfl, (d : Int), rfl, by omega, by omega, ?_⟩
    refine for_range (lo := 0) (n := (d : Int).toNat) (fun i σ H2 => ∃ (pre I L : List Nat) (r : Nat) (pj : Addr) (v8 v9 v10 v11 : Option V), σ = [some (.ref p), some (.int n), some (.int d), some (.int c), some (.int k), some (.ref pf), some (.ref pj), some (.int (r : Int)), v8, v9, v10, v11] ∧ Same H H2 ∧ H2 pf = some (.lst (setV pre)) ∧ H2 pj = some (.lst (setV I)) ∧ pj ≠ pf ∧ Compl n I L ∧ I.Perm pre ∧ pre.length = i ∧ FolOk n c (List.range' i (d - i)) L r ∧ path n d c k = (pre ++ (fol n c (List.range' i (d - i)) L r).1, (fol n c (List.range' i (d - i)) L r).2)) ?_ ?_ ?_
    · refine ⟨[], [], List.range' 0 n, k, pi, none, none, none, none, rfl, s0, ?_, ?_, npi, Compl.start n, List.Perm.refl _, rfl, path_ok st hk, rfl⟩
      · exact same_new nt _ _ (same_new ni _ _ upd_same)
      · exact same_new nt _ _ upd_same
    · rintro i σ H2 hi ⟨pre, I, L, r, pj, v8, v9, v10, v11, rfl, s2, hF, hI, npj, cp, pm, hpl, okk, hf⟩
      have hid : i < d := by omega
      have hin : i < n := by omega
      rw [Int.zero_add]
      rw [show d - i = (d - (i + 1)) + 1 by omega, List.range'_succ] at okk hf
      rw [fol_cons] at hf
      obtain ⟨w0, hix, hge, okk2⟩ := okk
      have R2 := R.same s2
      obtain ⟨ro, er, hro⟩ := R2.at (K := K) hl (show n - 1 < 61 by omega)
      have en : (n : Int) - 1 = ((n - 1 : Nat) : Int) := by omega
      have e0 := edge_pos hin
      have e1 := edge_lt (d := i) hn
      have wc := wd_le n c i
      have ec : ((n : Int) * (C (n - 1) i : Int)) = ((n * C (n - 1) i : Nat) : Int) := (Int.natCast_mul _ _).symm
      have hIl : I.length = i := by rw [pm.length_eq, hpl]
      refine ⟨_, rfl, _, rfl, .ref p, rfl, _, rfl, _, _, rfl, rfl, p, _, _, _, rfl, rfl, SqL.of R2.at_p, by rw [en]; exact er, _, rfl, ro, _, _, _, rfl, rfl, hro, atI_nat (rowV_at (n - 1) (show i < 61 by omega)), _, _, rfl, rfl, .inl ⟨by omega, by omega⟩, _, _, rfl, rfl, ?_, ?_⟩
      · rw [ec]
        exact wide_div (b := 64) (by omega) (by omega) (by decide) (by decide)
      dsimp only [gName]
      rw [ec, ← Int.natCast_ediv, show c / (n * C (n - 1) i) = wd n c i from rfl]
      -- free
      refine ⟨_, rfl, (n : Int), rfl, by omega, by omega, fun D nD => ?_⟩
      refine lc_range (lo := 0) (fun z H3 => Same H2 H3 ∧ H3 D = some (.lst (setV ((List.range' 0 z).filter fun x => !decide (x ∈ I))))) ⟨same_new nD, upd_same⟩ ?_ ?_
      · rintro z H3 hz ⟨s3, hD⟩
        rw [Int.zero_add]
        refine ⟨rfl, _, rfl, .ref pj, rfl, pj, _, rfl, .inl (SqL.of (s3 _ _ hI)), rfl, setV_flat _, _, rfl, ?_⟩
        rw [inV_setV, if_pos rfl]
        refine ite2 (fun hb => ?_) (fun hb => ?_)
        · refine ⟨_, rfl, _, hD, ?_, keep_upd s3 nD, ?_⟩
          · rw [setV_len]
            refine small1000 (Nat.le_trans (List.length_filter_le _ _) ?_)
            rw [List.length_range']
            omega
          · rw [upd_same, fr_step, if_pos hb]
        · refine ⟨s3, ?_⟩
          rw [fr_step, if_neg hb, List.append_nil]
          exact hD
      · rintro H3 ⟨s3, hD⟩
        rw [Int.toNat_natCast, cp.free] at hD
        have hM2 := getD_of hix
        refine ⟨.ref D, rfl, _, rfl, _, rfl, _, _, rfl, rfl, wide_div (b := 500) (Int.ofNat_lt.mpr w0) (Nat.lt_of_le_of_lt wc hc) (by decide) (by decide), D, _, _, V.int ((L.getD (r / wd n c i) 0 : Nat) : Int), rfl, rfl, SqL.of hD, ?_, ?_⟩
        · rw [← Int.natCast_ediv]
          exact atI_nat (setV_at hM2)
        generalize r / wd n c i = ix at hix hge okk2 hf hM2
        generalize L.getD ix 0 = sv at hge okk2 hf hM2
        have hsv := (cp.mem sv).mp (List.mem_of_getElem? hM2)
        refine ⟨.ref pj, rfl, _, rfl, (by show 1 ≤ sizeLine; decide), fun o1 no1 => ?_⟩
        refine ⟨pj, o1, _, _, rfl, rfl, same_new no1 _ _ (s3 _ _ hI), upd_same, ?_, fun o2 no2 => ?_⟩
        · show (setV I).length + 1 ≤ sizeLine
          rw [setV_len]
          exact small1000 (show I.length ≤ 1000 by omega)
        rw [show setV I ++ [V.int (sv : Int)] = setV (I ++ [sv]) by rw [setV_app]; rfl]
        refine ⟨o2, (I ++ [sv]).map (fun (m : Nat) => (m : Int)), rfl, .inl (SqL.of (by rw [← setV_ints]; exact upd_same)), ?_, fun ns p2 hp2 hs2 np2 => ?_⟩
        · rw [List.length_map, List.length_append]
          show I.length + 1 < 64
          omega
        obtain ⟨I2, rfl, pm2⟩ := ints_back hp2
        rw [← setV_ints]
        have nd2 : I2.Nodup := by
          refine pm2.nodup_iff.mpr (List.nodup_append.mpr ⟨asc_nodup cp.aI, List.nodup_cons.mpr ⟨List.not_mem_nil, List.nodup_nil⟩, fun x hx y hy e => ?_⟩)
          rw [List.mem_singleton.mp hy] at e
          rw [e] at hx
          exact hsv.2 hx
        have as2 := lt_of_le (le_back hs2) nd2
        obtain ⟨j2, hj2⟩ := List.getElem?_of_mem (pm2.mem_iff.mpr (List.mem_append_right _ (List.mem_singleton_self sv)))
        have hjx := cp.index hM2 pm2 as2 hj2
        have s4 : Same H3 (upd (upd (upd H3 o1 (.lst [V.int (sv : Int)])) o2 (.lst (setV (I ++ [sv])))) p2 (.lst (setV I2))) := ((same_new no1).trans (same_new no2)).trans (same_new np2)
        have f2 : H p2 = none := (((s2.trans s3).trans (same_new no1)).trans (same_new no2)).free np2
        have h42 : (upd (upd (upd H3 o1 (.lst [V.int (sv : Int)])) o2 (.lst (setV (I ++ [sv])))) p2 (.lst (setV I2))) p2 = some (.lst (setV I2)) := upd_same
        generalize (upd (upd (upd H3 o1 (.lst [V.int (sv : Int)])) o2 (.lst (setV (I ++ [sv])))) p2 (.lst (setV I2))) = H4 at s4 h42 ⊢
        have j60 : j2 < 64 := by
          have := (List.getElem?_eq_some_iff.mp hj2).1
          rw [pm2.length_eq, List.length_append] at this
          have : [sv].length = 1 := rfl
          omega
        refine ⟨.ref p2, rfl, .inl ⟨rfl, _, SqL.of h42⟩, _, rfl, p2, _, _, j2, _, rfl, rfl, SqL.of h42, rfl, setV_flat _, setV_at hj2, ?_, ?_, ?_⟩
        · exact beq_self_eq_true (sv : Int)
        · intro m z hm hz
          obtain ⟨y, hy, rfl⟩ := setV_get hz
          refine beq_eq_false_iff_ne.mpr fun e => ?_
          have e2 : y = sv := by omega
          rw [e2] at hy
          have := nodup_inj nd2 hy hj2
          omega
        refine ⟨_, rfl, _, _, rfl, rfl, .inl ⟨by omega, by omega⟩, _, rfl, _, rfl, _, _, rfl, rfl, Int.ofNat_lt.mpr w0, _, _, rfl, rfl, ?_⟩
        have h4F := s4 _ _ (s3 _ _ hF)
        refine ⟨.ref pf, rfl, .inl ⟨rfl, _, SqL.of h4F⟩, _, rfl, pf, _, _, rfl, rfl, h4F, ?_, ?_⟩
        · rw [setV_len]
          exact small1000 (by omega)
        refine ⟨pre ++ [sv], I2, L.eraseIdx ix, wd n c i * (sv - ix) + r % wd n c i, p2, some (.int (i : Int)), some (.int (wd n c i : Nat)), some (.ref D), some (.int (sv : Int)), ?_, keep_upd (s2.trans (s3.trans s4)) nf, ?_, ?_, ?_, cp.next hM2 pm2 as2, ?_, ?_, okk2, ?_⟩
        · have ej : j2 = sv - ix := by omega
          rw [Int.natCast_add, Int.natCast_mul, ← ej, Int.natCast_emod, Int.mul_comm ((wd n c i : Nat) : Int)]
          rfl
        · rw [upd_same, setV_app]
          rfl
        · rw [upd_ne (fun z => by rw [z] at np2; rw [same_new no2 _ _ (same_new no1 _ _ (s3 _ _ hF))] at np2; cases np2)]
          exact h42
        · exact fun z => by
            rw [z] at np2
            rw [same_new no2 _ _ (same_new no1 _ _ (s3 _ _ hF))] at np2
            cases np2
        · exact pm2.trans (pm.append_right _)
        · rw [List.length_append, hpl]
          rfl
        · rw [hf, List.append_assoc]
          rfl
    · rintro σ H2 ⟨pre, I, L, r, pj, v8, v9, v10, v11, rfl, s2, hF, hI, npj, cp, pm, hpl, okk, hf⟩
      rw [Int.toNat_natCast, Nat.sub_self] at hf
      have hf2 : path n d c k = (pre ++ [], r) := hf
      rw [List.append_nil] at hf2
      rw [hf2] at q
      refine ⟨.ref pf, rfl, pf, _, rfl, .inl ⟨SqL.of hF, fun t nt2 => ?_⟩⟩
      refine ⟨.ref pj, rfl, pj, _, rfl, .inl ⟨SqL.of (same_new nt2 _ _ hI), fun t3 nt3 => ?_⟩⟩
      refine ⟨_, rfl, (by show 2 ≤ sizeLine; decide), fun u nu => ⟨(by show 2 ≤ sizeLine; decide), fun x nx => ?_⟩⟩
      have a1 := s2.trans (same_new (o := .tup (setV pre)) nt2)
      have a2 := a1.trans (same_new (o := .tup (setV I)) nt3)
      have a3 := a2.trans (same_new (o := .tup [V.ref t3, V.int (r : Int)]) nu)
      refine q _ x t u I (a3.trans (same_new nx)) (a3.free nx) (s2.free nt2) pm cp.aI upd_same ?_ ⟨a2.free nu, t3, a1.free nt3, ?_, ?_⟩
      · exact same_new nx _ _ (same_new nu _ _ (same_new nt3 _ _ upd_same))
      · exact same_new nx _ _ upd_same
      · exact same_new nx _ _ (same_new nu _ _ upd_same)
end
/-! ### lists of tuples of servers -/
def RowsL (K : PySem.W.Frag) (H : Hp) (ts : List V) (rows : List (List Nat)) : Prop := PySem.Paired (fun v ms => ∃ t, v = V.ref t ∧ SqT K H t (setV ms)) ts rows
theorem RowsL.same {K : PySem.W.Frag} {H H' : Hp} {ts : List V} {rows : List (List Nat)} (s : Same H H') (h : RowsL K H ts rows) : RowsL K H' ts rows := PySem.Paired.mono (fun v ms ⟨t, e, z⟩ => ⟨t, e, Same.seqT s z⟩) h
theorem RowsL.app {K : PySem.W.Frag} {H : Hp} {xs ys : List V} {L M : List (List Nat)} (h : RowsL K H xs L) (g : RowsL K H ys M) : RowsL K H (xs ++ ys) (L ++ M) := by
  unfold RowsL at *
  induction h with
  | nil => exact g
  | cons a _ ih => exact .cons a ih
theorem RowsL.len {K : PySem.W.Frag} {H : Hp} {ts : List V} {rows : List (List Nat)} (h : RowsL K H ts rows) : ts.length = rows.length := by
  unfold RowsL at h
  induction h with
  | nil => rfl
  | cons _ _ ih => exact congrArg (· + 1) ih
theorem RowsL.at {K : PySem.W.Frag} {H : Hp} {ts : List V} {rows : List (List Nat)} (h : RowsL K H ts rows) : ∀ {i : Nat} {v : V}, ts[i]? = some v → ∃ ms, rows[i]? = some ms ∧ ∃ t, v = V.ref t ∧ SqT K H t (setV ms) := by
  unfold RowsL at h
  induction h with
  | nil =>
    intro i v z
    cases z
  | cons a _ ih =>
    intro i v z
    cases i with
    | zero =>
      obtain rfl := Option.some.inj z
      exact ⟨_, rfl, a⟩
    | succ i => exact ih z
theorem RowsL.mem {K : PySem.W.Frag} {H : Hp} {ts : List V} {rows : List (List Nat)} (h : RowsL K H ts rows) {v : V} (hv : v ∈ ts) : ∃ ms, ms ∈ rows ∧ ∃ t, v = V.ref t ∧ SqT K H t (setV ms) := by
  obtain ⟨i, hi⟩ := List.getElem?_of_mem hv
  obtain ⟨ms, h1, h2⟩ := h.at hi
  exact ⟨ms, List.mem_of_getElem? h1, h2⟩
def tupD (ms : List Nat) : PyData := .tuple (natD ms)
theorem natD_ints (ms : List Nat) : natD ms = (intL ms).map PyData.int := by
  unfold natD
  rw [List.map_map]
  rfl
theorem dp_tup {K : PySem.W.Frag} {H : Hp} {t : Addr} {ms : List Nat} (h : SqT K H t (setV ms)) : Dp K H (.ref t) (tupD ms) := .tup h (dp_set ms)
theorem RowsL.dp {K : PySem.W.Frag} {H : Hp} {ts : List V} {rows : List (List Nat)} (h : RowsL K H ts rows) : DpAll K H ts (rows.map tupD) := by
  unfold RowsL at h
  induction h with
  | nil => exact .nil
  | cons a _ ih =>
    obtain ⟨t, rfl, ht⟩ := a
    exact .cons (dp_tup ht) ih
theorem RowsL.pairs {K : PySem.W.Frag} {H : Hp} {ts : List V} {rows : List (List Nat)} (h : RowsL K H ts rows) : ∃ bs : List (V × PyData), bs.map (·.1) = ts ∧ bs.map (·.2) = rows.map tupD ∧ ∀ b ∈ bs, Dp K H b.1 b.2 := by
  unfold RowsL at h
  induction h with
  | nil => exact ⟨[], rfl, rfl, fun _ hb => absurd hb List.not_mem_nil⟩
  | @cons v ms _ _ a _ ih =>
    obtain ⟨t, rfl, ht⟩ := a
    obtain ⟨bs, e1, e2, e3⟩ := ih
    refine ⟨(.ref t, tupD ms) :: bs, by rw [List.map_cons, e1], by rw [List.map_cons, e2]; rfl, fun b hb => ?_⟩
    rcases List.mem_cons.mp hb with rfl | hb
    · exact dp_tup ht
    · exact e3 b hb
theorem alike_tup (xs ys : List Nat) : PySem.W.alike (tupD xs) (tupD ys) = true := by
  unfold tupD
  rw [natD_ints, natD_ints]
  exact PySem.W.alike_ints _ _
theorem depth_tup (ms : List Nat) : (tupD ms).depth ≤ 20 := by
  unfold tupD
  rw [natD_ints]
  have : (PyData.tuple ((intL ms).map PyData.int)).depth = PyData.depthAll ((intL ms).map PyData.int) + 1 := rfl
  rw [this, PySem.W.depth_ints]
  decide
theorem dLe_tup {u v : V} {xs ys : List Nat} (h : LexLe xs ys) : dLe (u, tupD xs) (v, tupD ys) = true := by
  unfold tupD
  rw [natD_ints, natD_ints, dLe_ints, decide_eq_false h]
  rfl
theorem asc_pairs : ∀ {bs : List (V × PyData)} {rows : List (List Nat)}, bs.map (·.2) = rows.map tupD → rows.Pairwise LexLe → bs.Pairwise fun a b => dLe a b = true
  | [], _, _, _ => List.Pairwise.nil
  | _ :: _, [], e, _ => by cases e
  | (u, d) :: bs, ms :: rows, e, h => by
    obtain ⟨rfl, e2⟩ := List.cons.inj e
    obtain ⟨h1, h2⟩ := List.pairwise_cons.mp h
    refine List.pairwise_cons.mpr ⟨fun b hb => ?_, asc_pairs e2 h2⟩
    have hb2 : b.2 ∈ rows.map tupD := by
      rw [← e2]
      exact List.mem_map.mpr ⟨b, hb, rfl⟩
    obtain ⟨m2, hm2, eb⟩ := List.mem_map.mp hb2
    obtain ⟨bu, bd⟩ := b
    obtain rfl : tupD m2 = bd := eb
    exact dLe_tup (h1 m2 hm2)
/-- sorted of ascending rows -/
theorem sort_rows {K : PySem.W.Frag} {H : Hp} {a : Addr} {ts : List V} {rows : List (List Nat)} {Q : VK} (hL : SqL K H a ts) (r : RowsL K H ts rows) (asc : rows.Pairwise LexLe) (ne : ∀ ms ∈ rows, ms ≠ []) (q : ∀ p, H p = none → Q (.ref p) (upd H p (.lst ts))) : rSortD K [.ref a] H Q := by
  obtain ⟨bs, e1, e2, e3⟩ := r.pairs
  refine ⟨a, bs, rfl, by rw [e1]; exact hL, e3, ?_, ?_, fun b hb => ?_, fun p np => ?_⟩
  · rw [e2]
    intro d hd d' hd'
    obtain ⟨x, _, rfl⟩ := List.mem_map.mp hd
    obtain ⟨y, _, rfl⟩ := List.mem_map.mp hd'
    exact alike_tup x y
  · rw [e2]
    refine .inl fun d hd => ?_
    obtain ⟨ms, hm, rfl⟩ := List.mem_map.mp hd
    cases ms with
    | nil => exact absurd rfl (ne [] hm)
    | cons m r => exact ⟨_, _, rfl⟩
  · have hb2 : b.2 ∈ rows.map tupD := by
      rw [← e2]
      exact List.mem_map.mpr ⟨b, hb, rfl⟩
    obtain ⟨ms, _, e⟩ := List.mem_map.mp hb2
    rw [← e]
    exact depth_tup ms
  · rw [dsort_id (asc_pairs e2 asc), e1]
    exact q p np
theorem sh_rows {d : Nat} : ∀ {rows : List (List Nat)}, (∀ r ∈ rows, r.length ≤ d ∧ ∀ x ∈ r, x < 60) → ShAll 1 ((7 * d + 1) * rows.length) (rows.map tupD)
  | [], _ => ShAll.nil.mono (by decide) (Nat.zero_le _)
  | r :: rows, h => by
    obtain ⟨h1, h2⟩ := h r List.mem_cons_self
    have a := sh_nat (b := 6) (by decide) (by decide) (ms := r) fun x hx => by
      have := h2 x hx
      omega
    have b := Sh.tup a
    have m1 : (6 + 1) * r.length ≤ 7 * d := Nat.mul_le_mul_left 7 h1
    have c := ShAll.cons (b.mono (Nat.le_refl _) m1) (sh_rows fun r' hr => h r' (List.mem_cons_of_mem _ hr))
    refine c.mono (Nat.le_refl _) ?_
    show 7 * d + 1 + (7 * d + 1) * rows.length ≤ (7 * d + 1) * (rows.length + 1)
    rw [Nat.mul_succ]
    omega
theorem hide_upd {D : Addr} {H5 H6 : Hp} {o : HO} (s : Same H5 H6) : Same (hide D H5) (hide D (upd H6 D o)) := fun b x e => by
  by_cases h : b = D
  · unfold hide at e
    rw [if_pos h] at e
    cases e
  · rw [hide_ne h] at e ⊢
    rw [upd_ne h]
    exact s b x e
/-- one more row behind a list that is being made -/
theorem RowsL.grow {K : PySem.W.Frag} {D t : Addr} {H5 H6 : Hp} {ts : List V} {rows : List (List Nat)} {ms : List Nat} {o : HO} (s : Same H5 H6) (h : RowsL K (hide D H5) ts rows) (nt : t ≠ D) (ht : H6 t = some (.tup (setV ms))) : RowsL K (hide D (upd H6 D o)) (ts ++ [V.ref t]) (rows ++ [ms]) :=
  RowsL.app (h.same (hide_upd s)) (.cons ⟨t, rfl, SqT.of (by rw [hide_ne nt, upd_ne nt]; exact ht)⟩ .nil)
theorem RowsL.show {K : PySem.W.Frag} {D : Addr} {H : Hp} {ts : List V} {rows : List (List Nat)} (h : RowsL K (hide D H) ts rows) : RowsL K H ts rows := h.same (hide_same D H)
theorem range_rows {α : Type} (f : Nat → α) (z : Nat) : (List.range (z + 1)).map f = (List.range z).map f ++ [f z] := by
  rw [List.range_succ, List.map_append]
  rfl
/-! ### a place of a great table -/
def spGreat : Sp := fun vs H Q _ => ∃ (p : Addr) (m : Nat) (pr : Addr) (rs : List Addr), vs = [.ref p, .ref pr] ∧ PotAt H p m ∧ m ≤ 100000 ∧ RowsAt (hide p H) pr rs ∧ rs.length = 61 ∧ ∀ H', PotAt H' p (m + 80) → But p H H' → Q (.bl true) H'
theorem RowsAt.but {H H' : Hp} {p pr : Addr} {rs : List Addr} (R : RowsAt (hide p H) pr rs) (b : But p H H') : RowsAt (hide p H') pr rs := R.same b.hide
theorem RowsAt.show {H : Hp} {p pr : Addr} {rs : List Addr} (R : RowsAt (hide p H) pr rs) : RowsAt H pr rs := R.same (hide_same p H)
theorem spNumAt_ok {K : PySem.W.Frag} {CP CN : Addr} {n c k : Nat} {a : Addr} {ms : List Nat} {H : Hp} {Q : VK} {E : XK} (st : Std n ms.length c) (hc : c < 2 ^ 500) (hA : SqT K H a (setV ms)) (asc : Asc ms) (hx : ∀ x ∈ ms, x < n) (hk : k < c / C n ms.length)
    (q : ∀ H', Same H H' → Q (.int (back n c ms k : Nat)) H') : spNumAt K CP CN [.int n, .int c, .ref a, .int k] H Q E := by
  refine ⟨n, .int c, some c, a, ms, .int k, some k, rfl, st.n60, st.n1, hA, asc, hx, st.dn, .inl ⟨c, rfl, rfl⟩, .inl ⟨k, rfl, rfl⟩, fun h => ?_, fun c' e st' => ?_⟩
  · rw [std_poss st] at h
    cases h
  · have e2 := Option.some.inj e
    obtain rfl : c = c' := by omega
    refine ⟨hc, fun h => ?_, fun k' e3 _ => ?_⟩
    · rw [numB_some, decide_eq_true (show (0 : Int) ≤ (k : Int) by omega), decide_eq_true (show (k : Int) < ((c / C n ms.length : Nat) : Int) by omega)] at h
      cases h
    · have e4 := Option.some.inj e3
      obtain rfl : k = k' := by omega
      exact q
theorem sizes_pos {n d c : Nat} (st : Std n d c) (hd : 1 ≤ d) : 1 ≤ c / C n d := by
  obtain ⟨b, rfl⟩ : ∃ b, d = b + 1 := ⟨d - 1, by omega⟩
  have dn := st.dn
  rw [wd_back (st.dvd b (by omega)) (by omega)]
  exact Nat.mul_pos (wd_pos (st.dvd b (by omega)) st.c0) (by omega)
section
variable {P : Program} {w : World} {K : PySem.W.Frag} {mg : Str → Option Value} {base : Heap}
theorem ok_great (T : Txt K mg) {j : Nat} : FnOk P w K mg base CX0 (j + 7) T.fGreat T.fdGreat ["_law_pot_here", "_law_rows_here"] spGreat := by
  refine T.FGreat.ok scGreat (fun vs H Q E h => ?_) (fun cdv A outer s H vs Q E hr h => ?_)
  · obtain ⟨p, m, pr, rs, rfl, _⟩ := h
    rfl
  · obtain ⟨p, m, pr, rs, rfl, P0, hm, R0, hl, q⟩ := h
    have hu64 : (A.deeper (envOfC "_law_great_right" (defScope sGreat) s.heap.objs.size T.fGreat cdv)).units + 64 < cLine := by
      have := hr.un
      omega
    refine ⟨_, pss_cons (ps_set (i := 2) scGreat.nd rfl (.inl rfl) (pe_op op_add pe_int (pe_call (ok_of T) hr (by rfl) T.gOf T.FOf.kp T.bOf .nil pass0 (pa_cons (pv 0) (pa_cons (pe_lst (pa_cons pe_int (pa_cons (pe_call (ok_take T) hr (by rfl) T.gTake T.FTake.kp T.bTake .nil pass0 (pa_cons (pv 0) (pa_cons pe_int pa_nil))) pa_nil))) pa_nil))))) (pss_cons (ps_set (i := 3) scGreat.nd rfl (.inl rfl) (pe_op op_add pe_int (pe_call (ok_of T) hr (by rfl) T.gOf T.FOf.kp T.bOf .nil pass0 (pa_cons (pv 0) (pa_cons (pe_lst (pa_cons (pe_op op_sub (pv 2) pe_int) (pa_cons (pe_call (ok_take T) hr (by rfl) T.gTake T.FTake.kp T.bTake .nil pass0 (pa_cons (pv 0) (pa_cons (pv 2) pa_nil))) (pa_cons (pe_call (ok_take T) hr (by rfl) T.gTake T.FTake.kp T.bTake .nil pass0 (pa_cons (pv 0) (pa_cons pe_int pa_nil))) pa_nil)))) pa_nil))))) (pss_cons (ps_set (i := 4) scGreat.nd rfl (.inl rfl) (pe_op op_mul (pe_call (ok_least T) hr (by rfl) T.gLeast T.FLeast.kp T.bLeast .nil pass0 (pa_cons (pv 1) (pa_cons (pv 2) (pa_cons (pv 3) pa_nil)))) (pe_op op_add pe_int (pe_call (ok_take T) hr (by rfl) T.gTake T.FTake.kp T.bTake .nil pass0 (pa_cons (pv 0) (pa_cons pe_int pa_nil)))))) (pss_cons (ps_par (i := 5) (j := 6) rfl scGreat.nd rfl rfl (by decide) rfl rfl (pa_cons (pe_listRg rfl (by rfl) T.n_list (prg_1 (by rfl) T.n_range (pv 2))) (pa_cons (pe_lst pa_nil) pa_nil)) (by rfl)) (C8.pss_cut (ps_for PassesOwn.never rfl (pi_range1 (by rfl) T.n_range (pa_cons (pv 3) pa_nil)) (pg_name (i := 7) scGreat.nd rfl (.inl rfl)) (pss_one (ps_expr (pe_bm PySem.F.plainAttrs_list PySem.F.slot_list_append PySem.F.type_list_append mt_append (pv 6) (pa_cons (pe_bm PySem.F.plainAttrs_list PySem.F.slot_list_pop PySem.F.type_list_pop mt_popAt (pv 5) (pa_cons (pe_call (ok_take T) hr (by rfl) T.gTake T.FTake.kp T.bTake .nil pass0 (pa_cons (pv 0) (pa_cons (pe_callB (call_lenK K) (by rfl) T.n_len PySem.boot_len (pa_cons (pv 5) pa_nil)) pa_nil))) pa_nil)) pa_nil))))) (pss_cons (ps_par (i := 8) (j := 9) rfl scGreat.nd rfl rfl (by decide) rfl rfl (pa_cons (pe_callTy (call_tupleK K) (by rfl) T.n_tuple (by decide +kernel) (pa_cons (pe_callB (cr_sortTI K) (by rfl) T.n_sorted (by decide +kernel) (pa_cons (pv 6) pa_nil)) pa_nil)) (pa_cons (pe_call (ok_take T) hr (by rfl) T.gTake T.FTake.kp T.bTake .nil pass0 (pa_cons (pv 0) (pa_cons (pe_op op_fdivW (pv 4) (pe_ix (ix_listK K) (pe_ix (ix_listK K) (pv 1) (pv 2) (fun _ _ => rfl)) (pv 3) (fun _ _ => rfl))) pa_nil))) pa_nil)) (by rfl)) (pss_cons (ps_set (i := 10) scGreat.nd rfl (.inl rfl) (pe_call (ok_numat T) hr (by rfl) T.gNumAt T.FNumAt.kp T.bNumAt .nil passF (pa_cons (pv 2) (pa_cons (pv 4) (pa_cons (pv 8) (pa_cons (pv 9) pa_nil)))))) (pss_cons (ps_if (pt_cmpR (op_neDK K hu64) (pe_ix (ix_tupK K) (pe_call (ok_walk T) hr (by rfl) T.gWalk T.FWalk.kp T.bWalk .nil pass0 (pa_cons (pv 1) (pa_cons (pv 2) (pa_cons (pv 3) (pa_cons (pv 4) (pa_cons (pv 10) pa_nil)))))) pe_int (fun _ _ => rfl)) (pe_tup (pa_cons (pv 8) (pa_cons (pv 9) pa_nil))) (nomark _)) (pss_one (ps_ret pe_bl)) pss_nil) (pss_one (ps_ret (pe_cmpR op_eq (pe_kw (ok_numat T) hr (by rfl) T.gNumAt T.FNumAt.kp T.kNumAt_rest_members_count_n passF (pk_cons (pv 9) (pk_cons (pv 8) (pk_cons (pv 4) (pk_cons (pv 2) pk_nil))))) (pv 10) (nomark _))))))))))), ?_⟩
    -- wide
    refine ⟨.ref p, rfl, .ref p, rfl, p, _, 54, rfl, P0, by omega, by decide, by decide +kernel, fun r1 H1 r10 r1l P1 B1 => ?_⟩
    refine ⟨by show 2 ≤ sizeLine; decide, fun l nl => ?_⟩
    refine ⟨p, _, l, _, rfl, P1.same (same_new nl), by omega, upd_same, (P1.ne nl).symm, (by show 1 ≤ 2; decide), (by show 2 ≤ 1000; decide), fun v H3 hv P3 B3 => ?_⟩
    have C3 : But p H H3 := (B1.same (same_new nl)).trans B3
    obtain ⟨k1, rfl, hk1⟩ : ∃ k : Nat, v = .int (k : Int) ∧ k ≤ 53 := by
      rcases List.mem_cons.mp hv with rfl | hv
      · exact ⟨53, rfl, by omega⟩
      rcases List.mem_cons.mp hv with rfl | hv
      · exact ⟨r1.toNat, by rw [Int.toNat_of_nonneg r10], by omega⟩
      cases hv
    have e1 : (7 : Int) + (k1 : Int) = ((7 + k1 : Nat) : Int) := by omega
    refine ⟨_, _, rfl, rfl, ?_⟩
    dsimp only [gName]
    rw [e1]
    generalize hn0 : 7 + k1 = n
    have hn1 : 7 ≤ n := by omega
    have hn2 : n ≤ 60 := by omega
    clear hv hn0 e1 r10 r1l B1 B3 P1
    -- tall
    refine ⟨.ref p, rfl, _, rfl, _, _, rfl, rfl, .ref p, rfl, _, rfl, p, _, _, rfl, P3, by omega, by omega, ?_, fun r2 H4 r20 r2l P4 B4 => ?_⟩
    · exact Int.lt_trans (show (n : Int) < 100 by omega) (by decide +kernel)
    refine ⟨.ref p, rfl, p, _, 4, rfl, P4, by omega, by decide, by decide +kernel, fun r4 H4b r40 r4l P4b B4b => ?_⟩
    refine ⟨by show 3 ≤ sizeLine; decide, fun l2 nl2 => ?_⟩
    refine ⟨p, _, l2, _, rfl, P4b.same (same_new nl2), by omega, upd_same, (P4b.ne nl2).symm, (by show 1 ≤ 3; decide), (by show 3 ≤ 1000; decide), fun v H5 hv P5 B5 => ?_⟩
    have C5 : But p H H5 := ((C3.trans B4).trans (B4b.same (same_new nl2))).trans B5
    obtain ⟨k2, rfl, hk2⟩ : ∃ k : Nat, v = .int (k : Int) ∧ k + 1 ≤ n := by
      rcases List.mem_cons.mp hv with rfl | hv
      · exact ⟨n - 1, by rw [Int.natCast_sub (by omega)]; rfl, by omega⟩
      rcases List.mem_cons.mp hv with rfl | hv
      · exact ⟨r2.toNat, by rw [Int.toNat_of_nonneg r20], by omega⟩
      rcases List.mem_cons.mp hv with rfl | hv
      · exact ⟨r4.toNat, by rw [Int.toNat_of_nonneg r40], by omega⟩
      cases hv
    have e2 : (1 : Int) + (k2 : Int) = ((k2 + 1 : Nat) : Int) := by omega
    refine ⟨_, _, rfl, rfl, ?_⟩
    dsimp only [gName]
    rw [e2]
    generalize hd0 : k2 + 1 = d at hk2
    have hd1 : 1 ≤ d := by omega
    clear hv hd0 e2 r20 r2l r40 r4l B4 B4b B5 P3 P4 P4b C3
    -- total
    have R5 := (R0.but C5)
    refine ⟨.ref pr, rfl, _, rfl, _, rfl, pr, rs, n, d, rfl, R5.show, hl, hn2, by omega, hk2, ?_⟩
    refine ⟨.ref p, rfl, p, _, 9, rfl, P5, by omega, by decide +kernel, by decide +kernel, fun r3 H7 r30 r3l P7 B7 => ?_⟩
    have C7 : But p H H7 := C5.trans B7
    obtain ⟨k3, rfl⟩ := Int.eq_ofNat_of_zero_le r30
    have st := std_of hn2 (show 1 ≤ n by omega) hk2 (1 + k3) (by omega)
    have Llt := leastL_lt (show 1 ≤ n by omega) hn2 hk2
    have hc : leastL n d * (1 + k3) < 2 ^ 500 := by
      have h1 : leastL n d * (1 + k3) ≤ 2 ^ 100 * 2 ^ 60 := Nat.mul_le_mul (Nat.le_of_lt Llt) (by omega)
      exact Nat.lt_of_le_of_lt h1 (by decide)
    have e3 : ((leastL n d : Nat) : Int) * (1 + (k3 : Int)) = ((leastL n d * (1 + k3) : Nat) : Int) := by
      rw [Int.natCast_mul]
      congr 1
    refine ⟨_, _, rfl, rfl, _, _, rfl, rfl, .inr ⟨by omega, by omega⟩, ?_⟩
    dsimp only [gName]
    rw [e3]
    generalize leastL n d * (1 + k3) = c at st hc
    have c0 := st.c0
    have cu : ((c : Nat) : Int) < 2 ^ 1000 := by
      have h1 : ((c : Nat) : Int) < ((2 ^ 500 : Nat) : Int) := Int.ofNat_lt.mpr hc
      exact Int.lt_trans h1 (by decide +kernel)
    clear e3 r30 r3l B7 P5 C5 R5 Llt
    -- the servers
    refine ⟨_, rfl, _, rfl, .of_le (by omega) (by omega) (by omega) (by omega), fun pf nf => ?_⟩
    rw [setV_range]
    refine ⟨Nat.zero_le _, fun ps ns => ?_⟩
    have hfp : pf ≠ p := (P7.ne nf).symm
    have s7a := same_new (o := .lst (setV (List.range' 0 n))) nf
    have hsp : ps ≠ p := ((P7.same s7a).ne ns).symm
    have hfs := ne_of_none (upd_same (H := H7) (a := pf) (o := .lst (setV (List.range' 0 n)))) ns
    have s7b := s7a.trans (same_new (o := .lst []) ns)
    have fpf : H pf = none := but_free C7 nf hfp
    have fps : H ps = none := but_free C7 (s7a.free ns) hsp
    refine ⟨_, _, rfl, ?_⟩
    refine ⟨fun σ H2 => ∃ (so L : List Nat) (v7 : Option V), σ = [some (.ref p), some (.ref pr), some (.int n), some (.int d), some (.int c), some (.ref pf), some (.ref ps), v7, none, none, none] ∧ PotAt H2 p (m + 6 + d) ∧ But p H H2 ∧ H2 ps = some (.lst (setV so)) ∧ so.length = d ∧ (so ++ L).Perm (List.range' 0 n), ?_, ?_⟩
    · refine ⟨_, rfl, (d : Int), rfl, by omega, by omega, ?_⟩
      refine for_range (lo := 0) (n := (d : Int).toNat) (fun i σ H2 => ∃ (so L : List Nat) (v7 : Option V), σ = [some (.ref p), some (.ref pr), some (.int n), some (.int d), some (.int c), some (.ref pf), some (.ref ps), v7, none, none, none] ∧ PotAt H2 p (m + 6 + i) ∧ But p H H2 ∧ H2 ps = some (.lst (setV so)) ∧ H2 pf = some (.lst (setV L)) ∧ so.length = i ∧ L.length + i = n ∧ (so ++ L).Perm (List.range' 0 n)) ⟨[], List.range' 0 n, none, rfl, (P7.same s7b).mono (by omega), C7.same s7b, upd_same, same_new (o := .lst []) ns _ _ upd_same, rfl, by rw [List.length_range']; rfl, List.Perm.refl _⟩ ?_ ?_
      · rintro i σ H2 hi ⟨so, L, v7, rfl, P2, B2, hs2, hf2, hso, hLn, pm⟩
        rw [Int.zero_add]
        have hid : i < d := by omega
        refine ⟨.ref ps, rfl, .inl ⟨rfl, _, SqL.of hs2⟩, .ref pf, rfl, .inl ⟨rfl, _, SqL.of hf2⟩, .ref p, rfl, .ref pf, rfl, pf, _, rfl, .inl (SqL.of hf2), p, _, _, rfl, P2, by omega, by rw [setV_len]; omega, ?_, fun r H3 r0 rl P3 B3 => ?_⟩
        · rw [setV_len]
          exact Int.lt_trans (show (L.length : Int) < 100 by omega) (by decide +kernel)
        obtain ⟨k, rfl⟩ := Int.eq_ofNat_of_zero_le r0
        rw [setV_len] at rl
        have hk : k < L.length := by omega
        have hf3 := B3 _ _ hfp hf2
        have hs3 := B3 _ _ hsp hs2
        refine ⟨pf, _, _, k, _, rfl, rfl, hf3, by omega, by omega, seq_at (by rw [setV_len]; exact hk), setV_at (List.getElem?_eq_getElem hk), ?_⟩
        refine ⟨ps, _, _, rfl, rfl, (upd_ne (Ne.symm hfs)).trans hs3, ?_, ?_⟩
        · rw [setV_len]
          exact small1000 (by omega)
        have eE := erase_setV L k
        refine ⟨so ++ [L[k]], L.eraseIdx k, _, rfl, ?_, but_new (but_new (B2.trans B3) fpf) fps, ?_, ?_, ?_, ?_, ?_⟩
        · obtain ⟨x, y, z, h1, h2⟩ := P3
          exact ⟨x, y, z, by rw [upd_ne (Ne.symm hsp), upd_ne (Ne.symm hfp)]; exact h1, h2⟩
        · rw [upd_same, setV_app]
          rfl
        · rw [upd_ne hfs, upd_same, eE]
        · rw [List.length_append, hso]
          rfl
        · rw [List.length_eraseIdx, if_pos hk]
          omega
        · refine List.Perm.trans ?_ pm
          rw [List.append_assoc]
          exact List.Perm.append_left so (erasePerm L k _ (List.getElem?_eq_getElem hk))
      · rintro σ H2 ⟨so, L, v7, rfl, P2, B2, hs2, hf2, hso, hLn, pm⟩
        rw [Int.toNat_natCast] at hso P2
        exact ⟨so, L, _, rfl, P2, B2, hs2, hso, pm⟩
    rintro σ H2 ⟨so, L, v7, rfl, P2, B2, hs2, hso, pm⟩
    have ndA : (so ++ L).Nodup := pm.nodup_iff.mpr (asc_nodup (asc_range' n 0))
    have nds : so.Nodup := (List.nodup_append.mp ndA).1
    have hsx : ∀ x ∈ so, x < n := fun x hx => mem_range0.mp (pm.mem_iff.mp (List.mem_append_left _ hx))
    have hdn := st.dn
    refine ⟨.ref ps, rfl, ps, so.map (fun (m : Nat) => (m : Int)), rfl, .inl (SqL.of (by rw [← setV_ints]; exact hs2)), by rw [List.length_map]; omega, fun nq q0 hp2 hsrt nq0 => ?_⟩
    obtain ⟨ms, rfl, pms⟩ := ints_back hp2
    rw [← setV_ints]
    refine ⟨q0, _, rfl, .inl ⟨SqL.of upd_same, fun tq ntq => ?_⟩⟩
    have asc : Asc ms := lt_of_le (le_back hsrt) (pms.nodup_iff.mpr nds)
    have hmx : ∀ x ∈ ms, x < n := fun x hx => hsx x (pms.mem_iff.mp hx)
    have hmd : ms.length = d := pms.length_eq.trans hso
    have s3 := (same_new (o := .lst (setV ms)) nq0).trans (same_new (o := .tup (setV ms)) ntq)
    have htq : (upd (upd H2 q0 (.lst (setV ms))) tq (.tup (setV ms))) tq = some (.tup (setV ms)) := upd_same
    have B3 : But p H (upd (upd H2 q0 (.lst (setV ms))) tq (.tup (setV ms))) := B2.same s3
    have P3 := P2.same s3
    have htp : tq ≠ p := ((P2.same (same_new (o := .lst (setV ms)) nq0)).ne ntq).symm
    generalize upd (upd H2 q0 (.lst (setV ms))) tq (.tup (setV ms)) = H3 at B3 P3 htq ⊢
    have R3 := (R0.but B3).show
    obtain ⟨rn, ern, hrn⟩ := R3.at (K := K) hl (show n < 61 by omega)
    have sz := sizes_pos st hd1
    have cpos := C_pos n d hdn
    have cle : C n d < 18446744073709551616 := Nat.lt_of_le_of_lt (C_le n d) (Nat.lt_of_le_of_lt (Nat.pow_le_pow_right (by decide) hn2) (by decide))
    refine ⟨.ref p, rfl, _, rfl, .ref pr, rfl, _, rfl, pr, _, _, _, rfl, rfl, SqL.of R3.at_p, ern, _, rfl, rn, _, _, V.int (C n d : Nat), rfl, rfl, hrn, atI_nat (rowV_at n (show d < 61 by omega)), ?_⟩
    refine ⟨_, _, rfl, rfl, wide_div (b := 64) (by omega) (by omega) (by decide) (by decide), ?_⟩
    dsimp only [tNil]
    refine ⟨p, _, _, rfl, P3, by omega, ?_, ?_, fun r H4 r0 rl P4 B4 => ?_⟩
    · rw [← Int.natCast_ediv]
      omega
    · rw [← Int.natCast_ediv]
      refine Int.lt_of_le_of_lt ?_ cu
      have := Nat.div_le_self c (C n d)
      omega
    rw [← Int.natCast_ediv] at rl
    obtain ⟨k, rfl⟩ := Int.eq_ofNat_of_zero_le r0
    have hk : k < c / C n d := by omega
    refine ⟨_, _, rfl, ?_⟩
    have B5 := B3.trans B4
    have ht4 := B4 _ _ htp htq
    subst hmd
    refine ⟨_, rfl, _, rfl, .ref tq, rfl, _, rfl, ?_⟩
    dsimp only [tNil]
    refine spNumAt_ok st hc (SqT.of ht4) asc hmx hk fun H5 s5 => ?_
    have hb := back_fwd st.c0 ms.length ms k st.dn (fun b hb => st.dvd b hb) ⟨asc, hmx, rfl, hk⟩
    have hbl : back n c ms k < c := hb.1
    have hbp : (path n ms.length c (back n c ms k)).1.Perm ms := hb.2.1
    have hbr : (path n ms.length c (back n c ms k)).2 = k := hb.2.2.1
    have B6 := B5.same s5
    have R6 := (R0.but B6).show
    have ht5 := s5 _ _ ht4
    refine ⟨.ref pr, rfl, _, rfl, _, rfl, _, rfl, _, rfl, pr, rs, n, ms.length, c, back n c ms k, rfl, R6, hl, st, hbl, hc, fun H6 x6 t6 u6 ms6 s6 nx nt pm6 asc6 hx6 ht6 pu6 => ?_⟩
    obtain rfl : ms6 = ms := asc_unique asc6 asc (pm6.trans hbp)
    rw [hbr] at pu6
    obtain ⟨nu6, tu, ntu, hu6, htu⟩ := pu6
    refine ⟨x6, _, 1, .ref u6, rfl, rfl, SqT.of hx6, rfl, ?_⟩
    refine ⟨.ref tq, rfl, _, rfl, by show 2 ≤ sizeLine; decide, fun y6 ny6 => ?_⟩
    have sy := same_new (o := .tup [V.ref tq, V.int (k : Int)]) ny6
    have l60 : ms6.length ≤ 60 := by omega
    have x60 : ∀ x ∈ ms6, x < 60 := fun x hx => by
      have := hmx x hx
      omega
    have k5 : k < 2 ^ 500 := by
      have := Nat.div_le_self c (C n ms6.length)
      omega
    have shP : Sh 60 80000 (.tuple [.tuple (natD ms6), .int (k : Int)]) := (Sh.tup (ShAll.cons (sh_list l60 x60) (ShAll.cons ((Sh.int (b := 500) (by decide) (by decide) (i := (k : Int)) (by rw [Int.natAbs_natCast]; exact k5)).mono (Nat.zero_le 1) (Nat.le_refl _)) (ShAll.nil.mono (Nat.zero_le 1) (Nat.le_refl _))))).mono (by decide) (by decide)
    refine neD_same (d := .tuple [.tuple (natD ms6), .int (k : Int)]) (.tup (SqT.of (sy _ _ hu6)) (.cons (.tup (SqT.of (sy _ _ htu)) (dp_set ms6)) (.cons (.int _) .nil))) (.tup (SqT.of upd_same) (.cons (.tup (SqT.of (sy _ _ (s6 _ _ ht5))) (dp_set ms6)) (.cons (.int _) .nil))) shP ?_
    refine ⟨_, rfl, iteF ?_⟩
    refine ⟨_, rfl, .ref tq, rfl, _, rfl, _, rfl, ?_⟩
    dsimp only [tNil]
    show spNumAt K T.cNotP T.cNoN [V.int n, V.int c, V.ref tq, V.int (k : Int)] _ _ _
    refine spNumAt_ok st hc (SqT.of (sy _ _ (s6 _ _ ht5))) asc hmx hk fun H7 s7 => ?_
    refine ⟨_, rfl, rfl, ?_⟩
    rw [decide_eq_true rfl]
    exact q _ ((((P4.same s5).same s6).same sy).same s7 |>.mono (by omega)) (((B6.same s6).same sy).same s7)
end
/-! ### tables: tuples of tuples of servers -/
theorem paired_app {α β : Type} {R : α → β → Prop} {xs ys : List α} {L M : List β} (h : PySem.Paired R xs L) (g : PySem.Paired R ys M) : PySem.Paired R (xs ++ ys) (L ++ M) := by
  induction h with
  | nil => exact g
  | cons a _ ih => exact .cons a ih
/-- a tuple of tuples of servers -/
def TabAt (K : PySem.W.Frag) (H : Hp) (a : Addr) (rows : List (List Nat)) : Prop := ∃ ts : List V, SqT K H a ts ∧ PySem.Paired (fun v ms => ∃ t, v = V.ref t ∧ SqT K H t (setV ms)) ts rows
def stdRows (n d c : Nat) : List (List Nat) := (List.range c).map fun k => (path n d c k).1
theorem TabAt.same {K : PySem.W.Frag} {H H' : Hp} {a : Addr} {rows : List (List Nat)} (s : Same H H') (h : TabAt K H a rows) : TabAt K H' a rows := by
  obtain ⟨ts, h1, h2⟩ := h
  exact ⟨ts, Same.seqT s h1, PySem.Paired.mono (fun v ms ⟨t, e, z⟩ => ⟨t, e, Same.seqT s z⟩) h2⟩
/-! ### all sets of a size among ascending servers -/
/-- pairs of a tuple of servers and a number -/
theorem RowsL.updD {K : PySem.W.Frag} {H : Hp} {D : Addr} {ts ys : List V} {rows : List (List Nat)} {o : HO} (h : RowsL K H ts rows) (hD : H D = some (.lst ys)) : RowsL K (upd H D o) ts rows := PySem.Paired.mono (fun v ms ⟨t, e, z⟩ => ⟨t, e, SqT_updL z hD⟩) h
def BegL (K : PySem.W.Frag) (H : Hp) (us : List V) (bs : List (List Nat × Nat)) : Prop := PySem.Paired (fun v (b : List Nat × Nat) => ∃ u t, v = V.ref u ∧ SqT K H u [.ref t, .int (b.2 : Int)] ∧ SqT K H t (setV b.1)) us bs
theorem BegL.same {K : PySem.W.Frag} {H H' : Hp} {us : List V} {bs : List (List Nat × Nat)} (s : Same H H') (h : BegL K H us bs) : BegL K H' us bs := PySem.Paired.mono (fun v b ⟨u, t, e, z1, z2⟩ => ⟨u, t, e, Same.seqT s z1, Same.seqT s z2⟩) h
theorem BegL.updL {K : PySem.W.Frag} {H : Hp} {D : Addr} {us ys : List V} {bs : List (List Nat × Nat)} {o : HO} (h : BegL K H us bs) (hD : H D = some (.lst ys)) : BegL K (upd H D o) us bs := PySem.Paired.mono (fun v b ⟨u, t, e, z1, z2⟩ => ⟨u, t, e, SqT_updL z1 hD, SqT_updL z2 hD⟩) h
theorem BegL.app {K : PySem.W.Frag} {H : Hp} {us vs : List V} {bs cs : List (List Nat × Nat)} (h : BegL K H us bs) (k : BegL K H vs cs) : BegL K H (us ++ vs) (bs ++ cs) := paired_app h k
theorem BegL.len {K : PySem.W.Frag} {H : Hp} {us : List V} {bs : List (List Nat × Nat)} (h : BegL K H us bs) : us.length = bs.length := PySem.Paired.length h
theorem paired_get {α β : Type} {R : α → β → Prop} {xs : List α} {ys : List β} (h : PySem.Paired R xs ys) : ∀ {i : Nat} {x : α}, xs[i]? = some x → ∃ y, ys[i]? = some y ∧ R x y := by
  induction h with
  | nil =>
    intro i x z
    cases z
  | cons a _ ih =>
    intro i x z
    cases i with
    | zero =>
      obtain rfl := Option.some.inj z
      exact ⟨_, rfl, a⟩
    | succ i => exact ih z
theorem rgc_down (k : Nat) (h : k < 2 ^ 62) : RgC (k : Int) 0 (-1) k := by
  have := RgC.neg (i := (k : Int)) (j := 0) (by omega) (by omega) (by decide) (by decide)
  rw [Int.sub_zero, Int.toNat_natCast] at this
  exact this
/-! ### all places of a small table -/
theorem SqT_butS {K : PySem.W.Frag} {H H' : Hp} {a p : Addr} {xs ys : List V} (h : SqT K H a xs) (hp : H p = some (.lst ys)) (b : But p H H') : SqT K H' a xs := by
  rcases h with (h | ⟨o, h⟩) | h
  · exact .inl (.inl (b _ _ (fun c => by rw [c, hp] at h; cases h) h))
  · exact .inl (.inr ⟨o, b _ _ (fun c => by rw [c, hp] at h; cases h) h⟩)
  · exact .inr h
theorem dp_alls {K : PySem.W.Frag} {H : Hp} : ∀ bs : List (V × PyData), (∀ b ∈ bs, Dp K H b.1 b.2) → DpAll K H (bs.map (·.1)) (bs.map (·.2))
  | [], _ => .nil
  | b :: r, h => .cons (h b List.mem_cons_self) (dp_alls r fun x hx => h x (List.mem_cons_of_mem _ hx))
def PlA (K : PySem.W.Frag) (H : Hp) (us : List V) (es : List Pl) : Prop := PySem.Paired (fun v (e : Pl) => ∃ u t, v = V.ref u ∧ SqT K H u [.ref t, .int ((e.2 : Nat) : Int)] ∧ SqT K H t (setV e.1)) us es
theorem PlA.same {K : PySem.W.Frag} {H H' : Hp} {us : List V} {es : List Pl} (s : Same H H') (h : PlA K H us es) : PlA K H' us es := PySem.Paired.mono (fun _ _ ⟨u, t, e, z1, z2⟩ => ⟨u, t, e, Same.seqT s z1, Same.seqT s z2⟩) h
theorem PlA.updL {K : PySem.W.Frag} {H : Hp} {D : Addr} {ys : List V} {us : List V} {es : List Pl} {o : HO} (h : PlA K H us es) (hD : H D = some (.lst ys)) : PlA K (upd H D o) us es := PySem.Paired.mono (fun _ _ ⟨u, t, e, z1, z2⟩ => ⟨u, t, e, SqT_updL z1 hD, SqT_updL z2 hD⟩) h
theorem PlA.but {K : PySem.W.Frag} {H H' : Hp} {p : Addr} {ys : List V} {us : List V} {es : List Pl} (h : PlA K H us es) (hp : H p = some (.lst ys)) (b : But p H H') : PlA K H' us es := PySem.Paired.mono (fun _ _ ⟨u, t, e, z1, z2⟩ => ⟨u, t, e, SqT_butS z1 hp b, SqT_butS z2 hp b⟩) h
theorem PlA.len {K : PySem.W.Frag} {H : Hp} {us : List V} {es : List Pl} (h : PlA K H us es) : us.length = es.length := PySem.Paired.length h
theorem PlA.dp {K : PySem.W.Frag} {H : Hp} {us : List V} {es : List Pl} (h : PlA K H us es) : DpAll K H us (es.map plD) := by
  unfold PlA at h
  induction h with
  | nil => exact .nil
  | cons a _ ih =>
    obtain ⟨u, t, rfl, z1, z2⟩ := a
    exact .cons (.tup z1 (.cons (.tup z2 (dp_set _)) (.cons (.int _) .nil))) ih
theorem PlA.app {K : PySem.W.Frag} {H : Hp} {us vs : List V} {es fs : List Pl} (h : PlA K H us es) (g : PlA K H vs fs) : PlA K H (us ++ vs) (es ++ fs) := by
  unfold PlA at *
  induction h with
  | nil => exact g
  | cons a _ ih => exact .cons a ih

theorem PlA.pairs {K : PySem.W.Frag} {H : Hp} {us : List V} {es : List Pl} (h : PlA K H us es) : ∃ bs : List (V × PyData), bs.map (·.1) = us ∧ bs.map (·.2) = es.map plD ∧ ∀ b ∈ bs, Dp K H b.1 b.2 := by
  unfold PlA at h
  induction h with
  | nil => exact ⟨[], rfl, rfl, fun _ z => absurd z List.not_mem_nil⟩
  | @cons v e _ _ a _ ih =>
    obtain ⟨bs, h1, h2, h3⟩ := ih
    obtain ⟨u, t, rfl, z1, z2⟩ := a
    refine ⟨(.ref u, plD e) :: bs, by rw [List.map_cons, h1], by rw [List.map_cons, h2]; rfl, fun b hb => ?_⟩
    rcases List.mem_cons.mp hb with rfl | hb
    · exact .tup z1 (.cons (.tup z2 (dp_set _)) (.cons (.int _) .nil))
    · exact h3 b hb
theorem C_six : ∀ n, n ≤ 6 → ∀ d, d ≤ 6 → C n d ≤ 20 := by decide +kernel
theorem plL_fst {n d c : Nat} {e : Pl} (h : e ∈ plL n d c) : e.1 ∈ combs (List.range' 0 n) d := by
  obtain ⟨ms, h1, h2⟩ := List.mem_flatMap.mp h
  obtain ⟨r, _, rfl⟩ := List.mem_map.mp h2
  exact h1
theorem can_nat : ∀ ms : List Nat, PyData.canLayAll0 (natD ms) = true
  | [] => rfl
  | m :: r => by
    show (PyData.canLay0 (.int (m : Int)) && PyData.canLayAll0 (natD r)) = true
    rw [can_nat r]
    rfl
theorem dep_nat : ∀ ms : List Nat, PyData.depthAll (natD ms) = 0
  | [] => rfl
  | m :: r => by
    show max (PyData.depth (.int (m : Int))) (PyData.depthAll (natD r)) = 0
    rw [dep_nat r]
    rfl
theorem can_pl (e : Pl) : PyData.canLay0 (plD e) = true := by
  show ((PyData.canLayAll0 (natD e.1)) && (PyData.canLay0 (.int (e.2 : Int)) && true)) = true
  rw [can_nat]
  rfl
theorem dep_pl (e : Pl) : PyData.depth (plD e) = 2 := by
  show max (PyData.depthAll (natD e.1) + 1) (max (PyData.depth (.int (e.2 : Int))) 0) + 1 = 2
  rw [dep_nat]
  rfl
theorem sh_pl (e : Pl) : SeqAt.shaped (plD e) = true := by
  unfold SeqAt.shaped
  rw [can_pl, dep_pl]
  rfl
theorem can_pls : ∀ es : List Pl, PyData.canLayAll0 (es.map plD) = true
  | [] => rfl
  | e :: r => by
    show (PyData.canLay0 (plD e) && PyData.canLayAll0 (r.map plD)) = true
    rw [can_pl, can_pls r]
    rfl
theorem dep_pls : ∀ es : List Pl, PyData.depthAll (es.map plD) ≤ 2
  | [] => by decide
  | e :: r => by
    show max (PyData.depth (plD e)) (PyData.depthAll (r.map plD)) ≤ 2
    have := dep_pls r
    rw [dep_pl]
    omega
theorem sh_pls (es : List Pl) : SeqAt.shaped (.list (es.map plD)) = true := by
  unfold SeqAt.shaped
  rw [Bool.and_eq_true]
  refine ⟨can_pls es, decide_eq_true ?_⟩
  show PyData.depthAll (es.map plD) + 1 ≤ 64
  have := dep_pls es
  omega
def spSmall (K : PySem.W.Frag) : Sp := fun vs H Q _ => ∃ (pr : Addr) (rs : List Addr) (n d c : Nat), vs = [.ref pr, .int n, .int d, .int c] ∧ RowsAt H pr rs ∧ rs.length = 61 ∧ Std n d c ∧ 1 ≤ d ∧ n ≤ 6 ∧ c ≤ 1000 ∧ ∀ H', Same H H' → Q (.bl true) H'
section
variable {P : Program} {w : World} {K : PySem.W.Frag} {mg : Str → Option Value} {base : Heap}
theorem ok_small (T : Txt K mg) {j : Nat} : FnOk P w K mg base CX0 (j + 7) T.fSmall T.fdSmall ["_law_rows_here", "_law_wide", "_law_tall", "_law_total"] (spSmall K) := by
  refine T.FSmall.ok scSmall (fun vs H Q E h => ?_) (fun cdv A outer s H vs Q E hr h => ?_)
  · obtain ⟨pr, rs, n, d, c, rfl, _⟩ := h
    rfl
  · obtain ⟨pr, rs, n, d, c, rfl, R0, hl, st, hd1, hn6, hc, q⟩ := h
    have hu64 : (A.deeper (envOfC "_law_small_right" (defScope sSmall) s.heap.objs.size T.fSmall cdv)).units + 64 < cLine := by
      have := hr.un
      omega
    refine ⟨_, pss_cons (ps_set (i := 4) scSmall.nd rfl (.inl rfl) (pe_lst pa_nil)) (C8.pss_cut (ps_for PassesOwn.never rfl (pi_range1 (by rfl) T.n_range (pa_cons (pv 3) pa_nil)) (pg_name (i := 5) scSmall.nd rfl (.inl rfl)) (pss_cons (ps_asg (pe_ix (ix_tupK K) (pe_call (ok_walk T) hr (by rfl) T.gWalk T.FWalk.kp T.bWalk .nil pass0 (pa_cons (pv 0) (pa_cons (pv 1) (pa_cons (pv 2) (pa_cons (pv 3) (pa_cons (pv 5) pa_nil)))))) pe_int (fun _ _ => rfl)) (pg_tup rfl (pgs_cons (pg_name (i := 6) scSmall.nd rfl (.inr rfl)) (pgs_cons (pg_name (i := 7) scSmall.nd rfl (.inl rfl)) pgs_nil)))) (pss_cons (ps_if (PW.pt (pw_or (pt_cmpR op_ne (pe_call (ok_numat T) hr (by rfl) T.gNumAt T.FNumAt.kp T.bNumAt .nil passF (pa_cons (pv 1) (pa_cons (pv 3) (pa_cons (pv 6) (pa_cons (pv 7) pa_nil))))) (pv 5) (nomark _)) (pw_or1 (pt_cmpR (op_neDK K hu64) (pe_call (ok_placeat T) hr (by rfl) T.gPlaceAt T.FPlaceAt.kp T.bPlaceAt .nil passF (pa_cons (pv 1) (pa_cons (pv 2) (pa_cons (pv 3) (pa_cons (pv 5) pa_nil))))) (pe_tup (pa_cons (pv 6) (pa_cons (pv 7) pa_nil))) (nomark _))))) (pss_one (ps_ret pe_bl)) pss_nil) (pss_one (ps_expr (pe_bm PySem.F.plainAttrs_list PySem.F.slot_list_append PySem.F.type_list_append mt_append (pv 4) (pa_cons (pe_tup (pa_cons (pv 6) (pa_cons (pv 7) pa_nil))) pa_nil))))))) (pss_cons (ps_set (i := 8) scSmall.nd rfl (.inl rfl) (pe_op op_fdivW (pv 3) (pe_ix (ix_listK K) (pe_ix (ix_listK K) (pv 0) (pv 1) (fun _ _ => rfl)) (pv 2) (fun _ _ => rfl)))) (pss_cons (ps_set (i := 9) scSmall.nd rfl (.inl rfl) (pe_lst pa_nil)) (C8.pss_cut (ps_for PassesOwn.never rfl (pi_list (pe_callB (cr_sortedT rfl) (by rfl) T.n_sorted (by decide +kernel) (pa_cons (pe_callTy (cr_setFew (P := P) (w := w) K rfl hu64) (by rfl) T.n_set (by decide +kernel) (pa_cons (pe_lc (own := [("_law_one", 10), ("_law_left", 7)]) (g := (gTup K 2 (gCons (gName 10) (gCons (gName 7) gNil)))) (tt := tYes) rfl scSmall.nd (pi_list (pv 4)) (blkOk_by (own := [("_law_one", 10), ("_law_left", 7)]) (N := NSmall) (sc := defScope sSmall) (by decide +kernel)) (fun _ _ _ _ _ => (pg_tup rfl (pgs_cons (pg_name (i := 10) scSmall.nd rfl (.inl rfl)) (pgs_cons (pg_name (i := 7) scSmall.nd rfl (.inl rfl)) pgs_nil)))) (fun _ _ _ _ _ => pts_nil) (fun _ _ _ _ _ => (pv 10))) pa_nil)) pa_nil))) (pg_name (i := 6) scSmall.nd rfl (.inr rfl)) (pss_one (ps_expr (pe_bm PySem.F.plainAttrs_list PySem.F.slot_list_extend PySem.F.type_list_extend mt_extend (pv 9) (pa_cons (pe_lc (own := [("_law_left", 7)]) (g := (gName 7)) (tt := tYes) rfl scSmall.nd (pi_range1 (by rfl) T.n_range (pa_cons (pv 8) pa_nil)) (blkOk_by (own := [("_law_left", 7)]) (N := NSmall) (sc := defScope sSmall) (by decide +kernel)) (fun _ _ _ _ _ => (pg_name (i := 7) scSmall.nd rfl (.inl rfl))) (fun _ _ _ _ _ => pts_nil) (fun _ _ _ _ _ => (pe_tup (pa_cons (pv 6) (pa_cons (pv 7) pa_nil))))) pa_nil))))) (pss_one (ps_ret (pe_and (pe_cmpR (op_eqDK K hu64) (pe_callB (cr_sortD hu64) (by rfl) T.n_sorted (by decide +kernel) (pa_cons (pv 4) pa_nil)) (pv 9) (nomark _)) (pe_one (pe_cmpR op_eq (pe_callB (call_lenK K) (by rfl) T.n_len PySem.boot_len (pa_cons (pv 9) pa_nil)) (pv 3) (nomark _)))))))))), ?_⟩
    have hc5 : c < 2 ^ 500 := Nat.lt_of_le_of_lt hc (by decide +kernel)
    refine ⟨Nat.zero_le _, fun pl npl => ?_⟩
    have s1 := same_new (o := .lst []) npl
    refine ⟨fun σ H2 => ∃ (us : List V) (v5 v6 v7 : Option V), σ = [some (.ref pr), some (.int n), some (.int d), some (.int c), some (.ref pl), v5, v6, v7, none, none, none] ∧ Same H H2 ∧ H2 pl = some (.lst us) ∧ PlA K H2 us ((List.range c).map (placeF n d c)), ?_, ?_⟩
    · refine ⟨_, rfl, (c : Int), rfl, by omega, by omega, ?_⟩
      refine for_range (lo := 0) (n := (c : Int).toNat) (fun z σ H2 => ∃ (us : List V) (v5 v6 v7 : Option V), σ = [some (.ref pr), some (.int n), some (.int d), some (.int c), some (.ref pl), v5, v6, v7, none, none, none] ∧ Same H H2 ∧ H2 pl = some (.lst us) ∧ PlA K H2 us ((List.range z).map (placeF n d c))) ⟨[], none, none, none, rfl, s1, upd_same, .nil⟩ ?_ ?_
      · rintro z σ H2 hz ⟨us, v5, v6, v7, rfl, s2, hpl, A2⟩
        rw [Int.zero_add]
        have hzc : z < c := by omega
        obtain ⟨pb, pp⟩ := place_back st hd1 hzc
        refine ⟨.ref pr, rfl, _, rfl, _, rfl, _, rfl, _, rfl, pr, rs, n, d, c, z, rfl, R0.same s2, hl, st, hzc, hc5, fun H3 x t0 u ms s3 nx nt pm am hx ht pu => ?_⟩
        obtain ⟨nu, t, ntt, hu, htt⟩ := pu
        have ems : ms = srt (path n d c z).1 := by rw [← srt_self am, srt_eq pm]
        refine ⟨x, _, _, _, rfl, rfl, SqT.of hx, rfl, ?_⟩
        refine ⟨u, _, rfl, SqT.of hu, rfl, ?_⟩
        dsimp only [gCons, gName, gNil]
        refine ⟨_, _, rfl, _, _, rfl, rfl, ?_⟩
        have pp1 : Asc ms ∧ (∀ x ∈ ms, x < n) ∧ ms.length = d ∧ (path n d c z).2 < c / C n d := by
          rw [ems]
          exact ⟨pp.asc, pp.lt, pp.len, pp.rest⟩
        obtain ⟨a1, a2, a3, a4⟩ := pp1
        have eb : back n c ms (path n d c z).2 = z := by
          rw [ems]
          exact pb
        refine ⟨_, rfl, _, rfl, .ref t, rfl, _, rfl, ?_⟩
        dsimp only [tNil]
        refine spNumAt_ok (by rw [a3]; exact st) hc5 (SqT.of htt) a1 a2 (by rw [a3]; exact a4) fun H4 s4 => ?_
        rw [eb]
        refine ⟨_, rfl, rfl, _, rfl, ?_⟩
        rw [show (!decide (V.int (z : Int) = V.int (z : Int))) = false by rw [decide_eq_true rfl]; rfl]
        refine iteF ?_
        have htt4 : SqT K H4 t (setV ms) := Same.seqT s4 (SqT.of htt)
        refine ⟨_, rfl, _, rfl, _, rfl, _, rfl, ?_⟩
        dsimp only [tNil]
        refine spListAt_ok st hzc hc5 fun H5 u5 ms5 s5 pm5 am5 pu5 => ?_
        obtain ⟨nu5, t5, nt5, hu5, ht5⟩ := pu5
        have ems5 : ms5 = ms := by rw [ems, ← srt_self am5, srt_eq pm5]
        rw [ems5] at ht5
        have htt5 := Same.seqT s5 htt4
        refine ⟨.ref t, rfl, _, rfl, by show 2 ≤ sizeLine; decide, fun u6 nu6 => ?_⟩
        have s6 := same_new (o := .tup [V.ref t, V.int ((path n d c z).2 : Int)]) nu6
        have dq : ∀ {H : Hp} {u t : Addr}, SqT K H u [.ref t, .int ((path n d c z).2 : Int)] → SqT K H t (setV ms) → Dp K H (.ref u) (plD (ms, (path n d c z).2)) := fun h1 h2 => .tup h1 (.cons (.tup h2 (dp_set _)) (.cons (.int _) .nil))
        refine ⟨plD (ms, (path n d c z).2), plD (ms, (path n d c z).2), dq (Same.seqT s6 (SqT.of hu5)) (Same.seqT s6 (SqT.of ht5)), dq (SqT.of upd_same) (Same.seqT s6 htt5), sh_pl _, sh_pl _, _, rfl, ?_⟩
        rw [SeqAt.eqv_refl (plD (ms, (path n d c z).2)) (can_pl _)]
        refine iteF ?_
        have s26 := ((s3.trans s4).trans s5).trans s6
        have hpl6 := s26 _ _ hpl
        have htt6 := Same.seqT s6 htt5
        have A6 := A2.same s26
        have s06 := s2.trans s26
        generalize upd H5 u6 (.tup [V.ref t, V.int ((path n d c z).2 : Int)]) = H6 at s06 hpl6 htt6 A6 ⊢
        refine ⟨.ref pl, rfl, .inl ⟨rfl, _, SqL.of hpl6⟩, .ref t, rfl, _, rfl, by show 2 ≤ sizeLine; decide, fun u7 nu7 => ?_⟩
        have s7 := same_new (o := .tup [V.ref t, V.int ((path n d c z).2 : Int)]) nu7
        have hpl7 := s7 _ _ hpl6
        have ul := A6.len
        rw [List.length_map, List.length_range] at ul
        refine ⟨pl, us, _, rfl, rfl, hpl7, by rw [sizeLine_eq]; omega, us ++ [.ref u7], _, _, _, rfl, keep_upd (s06.trans s7) npl, upd_same, ?_⟩
        rw [List.range_succ, List.map_append]
        have e7 : placeF n d c z = (ms, (path n d c z).2) := by rw [ems]; rfl
        refine PlA.app ((A6.same s7).updL hpl7) (.cons ⟨u7, t, rfl, SqT_updL (SqT.of ?_) hpl7, SqT_updL ?_ hpl7⟩ .nil)
        · rw [e7]
          exact upd_same
        · rw [e7]
          exact Same.seqT s7 htt6
      · rintro σ H2 ⟨us, v5, v6, v7, rfl, s2, hpl, A2⟩
        rw [Int.toNat_natCast] at A2
        exact ⟨us, v5, v6, v7, rfl, s2, hpl, A2⟩
    rintro σ H2 ⟨us, v5, v6, v7, rfl, s2, hpl, A2⟩
    have R2 := R0.same s2
    obtain ⟨rr, er, hr2⟩ := R2.at (K := K) hl (show n < 61 by omega)
    have C0 := C_pos n d st.dn
    have C6 := C_60 n d (by omega)
    refine ⟨_, rfl, .ref pr, rfl, _, rfl, pr, _, _, _, rfl, rfl, SqL.of R2.at_p, er, _, rfl, rr, _, _, _, rfl, rfl, hr2, atI_nat (rowV_at n (show d < 61 by have := st.dn; omega)), _, _, rfl, rfl, wide_div (b := 64) (by omega) (by omega) (by decide) (by decide), ?_⟩
    dsimp only [gName]
    rw [show (c : Int) / (C n d : Int) = ((c / C n d : Nat) : Int) from (Int.natCast_ediv _ _).symm]
    refine ⟨Nat.zero_le _, fun pd npd => ?_⟩
    have s3 := same_new (o := .lst []) npd
    have hpl3 := s3 _ _ hpl
    have A3 := A2.same s3
    have hpd3 : (upd H2 pd (.lst [])) pd = some (.lst []) := upd_same
    have s03 := s2.trans s3
    have fpd : H pd = none := s2.free npd
    generalize upd H2 pd (.lst []) = H3 at s3 hpl3 A3 hpd3 s03 ⊢
    refine ⟨fun σ H4 => ∃ (ds : List V) (v6 v7 v10 : Option V), σ = [some (.ref pr), some (.int n), some (.int d), some (.int c), some (.ref pl), v5, v6, v7, some (.int ((c / C n d : Nat) : Int)), some (.ref pd), v10] ∧ Same H H4 ∧ H4 pl = some (.lst us) ∧ PlA K H4 us ((List.range c).map (placeF n d c)) ∧ H4 pd = some (.lst ds) ∧ PlA K H4 ds (plL n d c), ?_, ?_⟩
    · refine ⟨.ref pl, rfl, pl, rfl, ⟨_, SqL.of hpl3⟩, fun D nD => ?_⟩
      have hDp := ne_of_none hpd3 nD
      refine lc_list (K := K) (a := pl) (xs := us) (fun z H4 => ∃ ks : List (Addr × List Int), Same H3 H4 ∧ H4 D = some (.lst (ks.map fun p => V.ref p.1)) ∧ ks.map (·.2) = ((List.range z).map fun k => intL (placeF n d c k).1) ∧ ∀ p ∈ ks, SqT K H4 p.1 (p.2.map V.int)) ⟨[], same_new nD, upd_same, rfl, fun _ h => absurd h List.not_mem_nil⟩ (fun _ H4 _ ⟨_, h, _⟩ => SqL.of (h _ _ hpl3)) ?_ ?_
      · rintro z v H4 hz ⟨ks, s4, hD, ek, hk⟩
        obtain ⟨e, he, u, t, rfl, hu, ht⟩ := paired_get (A3.same s4) hz
        have hzc : z < c := by
          have := (List.getElem?_eq_some_iff.mp he).1
          rwa [List.length_map, List.length_range] at this
        obtain rfl : placeF n d c z = e := by
          rw [List.getElem?_map, List.getElem?_range hzc] at he
          exact Option.some.inj he
        have kl := congrArg List.length ek
        rw [List.length_map, List.length_map, List.length_range] at kl
        refine ⟨u, _, rfl, hu, rfl, ?_⟩
        dsimp only [gCons, gName, gNil]
        refine ⟨_, _, rfl, _, _, rfl, rfl, rfl, ?_⟩
        refine ⟨.ref t, rfl, _, hD, by rw [List.length_map, sizeLine_eq]; omega, ks ++ [(t, intL (placeF n d c z).1)], keep_upd s4 nD, by rw [upd_same, List.map_append]; rfl, by rw [List.map_append, ek, List.range_succ, List.map_append]; rfl, fun p hp => ?_⟩
        rcases List.mem_append.mp hp with hp | hp
        · exact SqT_updL (hk p hp) hD
        · rw [List.mem_singleton.mp hp]
          refine SqT_updL ?_ hD
          rw [setV_ints] at ht
          exact ht
      rintro H4 ⟨ks, s4, hD, ek, hk⟩
      have ul : us.length = c := by
        have := A3.len
        rwa [List.length_map, List.length_range] at this
      rw [ul] at ek
      have inks : ∀ p ∈ ks, ∃ ms ∈ combs (List.range' 0 n) d, p.2 = intL ms := fun p hp => by
        have h1 : p.2 ∈ ks.map (·.2) := List.mem_map.mpr ⟨p, hp, rfl⟩
        rw [ek] at h1
        obtain ⟨k, hk1, hk2⟩ := List.mem_map.mp h1
        exact ⟨_, plL_fst ((place_perm st hd1).mem_iff.mp (List.mem_map.mpr ⟨k, hk1, rfl⟩)), hk2.symm⟩
      have good : ∀ ms ∈ combs (List.range' 0 n) d, ms.length = d ∧ ∀ x ∈ ms, x < n := fun ms hm => by
        obtain ⟨g1, g2⟩ := combs_good _ _ ms hm
        exact ⟨g1, fun x hx => mem_range0.mp (g2.subset hx)⟩
      have dn := st.dn
      refine ⟨D, ks, (combs (List.range' 0 n) d).map intL, rfl, SqL.of hD, hk, fun p hp => ?_, by rw [List.length_map, combsLen, List.length_range']; have := C_six n hn6 d (by omega); omega, fun a L na sub all => ?_⟩
      · obtain ⟨ms, hm, e⟩ := inks p hp
        rw [e]
        exact List.mem_map.mpr ⟨ms, hm, rfl⟩
      have s5 := same_new (o := SetTO P w a L) na
      refine ⟨a, L, d, 64, rfl, upd_same, fun p hp => Same.seqT s5 (hk p (sub p hp)), hd1, fun p hp => ?_, fun L' qq pm nd few asc nq => ?_⟩
      · obtain ⟨ms, hm, e⟩ := inks p (sub p hp)
        obtain ⟨g1, g2⟩ := good ms hm
        rw [e]
        refine ⟨by rw [List.length_map, g1], fun m hm => ?_⟩
        obtain ⟨x, hx, rfl⟩ := List.mem_map.mp hm
        have := g2 x hx
        omega
      have key : L'.map (·.2) = (combs (List.range' 0 n) d).map intL := by
        refine sets_sorted (by omega) nd asc fun k => ⟨fun h => ?_, fun ⟨ms, hm, e⟩ => ?_⟩
        · obtain ⟨p, hp, rfl⟩ := List.mem_map.mp h
          exact inks p (sub p (pm.mem_iff.mp hp))
        · have sp := sizes_pos st hd1
          have h1 : (ms, 0) ∈ plL n d c := List.mem_flatMap.mpr ⟨ms, hm, List.mem_map.mpr ⟨0, List.mem_range.mpr (by omega), rfl⟩⟩
          obtain ⟨k0, hk0, e0⟩ := List.mem_map.mp ((place_perm st hd1).mem_iff.mpr h1)
          have h2 : intL ms ∈ ks.map (·.2) := by
            rw [ek]
            exact List.mem_map.mpr ⟨k0, hk0, by rw [e0]⟩
          obtain ⟨p, hp, ep⟩ := List.mem_map.mp h2
          rw [e, ← ep]
          exact ((pm.map (·.2)).mem_iff).mpr (all p hp)
      have s6 := same_new (o := .lst (L'.map fun q => V.ref q.1)) nq
      have s36 := (s4.trans s5).trans s6
      have hq6 : (upd (upd H4 a (SetTO P w a L)) qq (.lst (L'.map fun q => V.ref q.1))) qq = some (.lst (L'.map fun q => V.ref q.1)) := upd_same
      have hL' : ∀ p ∈ L', SqT K (upd (upd H4 a (SetTO P w a L)) qq (.lst (L'.map fun q => V.ref q.1))) p.1 (p.2.map V.int) := fun p hp => Same.seqT (s5.trans s6) (hk p (sub p (pm.mem_iff.mp hp)))
      have hqd : qq ≠ pd := fun e => by
        rw [e, (s4.trans s5) _ _ hpd3] at nq
        cases nq
      generalize upd (upd H4 a (SetTO P w a L)) qq (.lst (L'.map fun q => V.ref q.1)) = H6 at s36 hq6 hL' ⊢
      have hpd6 := s36 _ _ hpd3
      have hpl6 := s36 _ _ hpl3
      have A6 := A3.same s36
      have npd : pl ≠ pd := fun e => by
        rw [← e, hpl] at npd
        cases npd
      refine ⟨qq, rfl, ⟨_, SqL.of hq6⟩, for_list (K := K) (a := qq) (xs := L'.map fun q => V.ref q.1) (fun z σ H7 => ∃ (ds : List V) (v6 v7 : Option V), σ = [some (.ref pr), some (.int n), some (.int d), some (.int c), some (.ref pl), v5, v6, v7, some (.int ((c / C n d : Nat) : Int)), some (.ref pd), none] ∧ Same H H7 ∧ (∀ b o, b ≠ pd → H6 b = some o → H7 b = some o) ∧ H7 pd = some (.lst ds) ∧ PlA K H7 ds (((combs (List.range' 0 n) d).take z).flatMap fun ms => (List.range (c / C n d)).map fun r => (ms, r))) ⟨[], v6, v7, rfl, s03.trans s36, fun _ _ _ h => h, s36 _ _ hpd3, .nil⟩ (fun z σ H7 _ ⟨_, _, _, _, _, k7, _⟩ => SqL.of (k7 _ _ ?_ hq6)) ?_ ?_⟩
      · exact hqd
      · rintro z v σ H7 hz ⟨ds, v6, v7, rfl, s7, k7, hpd7, A7⟩
        rw [List.getElem?_map] at hz
        obtain ⟨p, hp, rfl⟩ := Option.map_eq_some_iff.mp hz
        have hz2 : (L'.map (·.2))[z]? = some p.2 := by rw [List.getElem?_map, hp]; rfl
        rw [key, List.getElem?_map] at hz2
        obtain ⟨ms, hms, ems⟩ := Option.map_eq_some_iff.mp hz2
        have hpp := hL' p (List.mem_of_getElem? hp)
        rw [← ems, show (intL ms).map V.int = setV ms from (setV_ints ms).symm] at hpp
        have hp7 : SqT K H7 p.1 (setV ms) := SqT_butS hpp hpd6 k7
        dsimp only [gName]
        have sz : c / C n d ≤ 1000 := Nat.le_trans (Nat.div_le_self _ _) hc
        have sz1 : ((c / C n d : Nat) : Int) ≤ 1000 := Int.ofNat_le.mpr sz
        have sz0 : (0 : Int) ≤ ((c / C n d : Nat) : Int) := Int.natCast_nonneg _
        refine ⟨.ref pd, rfl, .inl ⟨rfl, _, SqL.of hpd7⟩, _, rfl, ((c / C n d : Nat) : Int), rfl, by omega, by omega, fun D2 nD2 => ?_⟩
        refine lc_range (lo := 0) (n := ((c / C n d : Nat) : Int).toNat) (fun y H8 => ∃ qs, Same H7 H8 ∧ H8 D2 = some (.lst qs) ∧ PlA K H8 qs ((List.range y).map fun r => (ms, r))) ⟨[], same_new nD2, upd_same, .nil⟩ ?_ ?_
        · rintro y H8 hy ⟨qs, s8, hD8, B8⟩
          rw [Int.zero_add]
          have ql := B8.len
          rw [List.length_map, List.length_range] at ql
          refine ⟨rfl, .ref p.1, rfl, _, rfl, by show 2 ≤ sizeLine; decide, fun u nu => ?_⟩
          have s9 := same_new (o := .tup [V.ref p.1, V.int (y : Int)]) nu
          have hD9 := s9 _ _ hD8
          refine ⟨qs, hD9, by rw [sizeLine_eq]; omega, qs ++ [.ref u], keep_upd (s8.trans s9) nD2, upd_same, ?_⟩
          rw [List.range_succ, List.map_append]
          exact PlA.app ((B8.same s9).updL hD9) (.cons ⟨u, p.1, rfl, SqT_updL (SqT.of upd_same) hD9, SqT_updL (Same.seqT (s8.trans s9) hp7) hD9⟩ .nil)
        rintro H8 ⟨qs, s8, hD8, B8⟩
        rw [Int.toNat_natCast] at B8
        have hpd8 := s8 _ _ hpd7
        have dl := A7.len
        have ql := B8.len
        rw [List.length_map, List.length_range] at ql
        rw [flat_lenP (m := c / C n d) _ _ (fun x _ => by rw [List.length_map, List.length_range])] at dl
        have cl : ((combs (List.range' 0 n) d).take z).length ≤ 20 := by
          have h1 := C_six n hn6 d (by omega)
          rw [List.length_take, combsLen, List.length_range']
          omega
        have dl2 : ds.length ≤ 20 * 1000 := by
          rw [dl]
          exact Nat.mul_le_mul cl sz
        have bp : But pd H8 (upd H8 pd (.lst (ds ++ qs))) := fun b o nb e => by rw [upd_ne nb]; exact e
        refine ⟨pd, D2, ds, qs, rfl, rfl, hpd8, hD8, by rw [sizeLine_eq]; omega, ds ++ qs, _, _, rfl, keep_upd (s7.trans s8) fpd, fun b o nb e => bp _ _ nb (s8 _ _ (k7 _ _ nb e)), upd_same, ?_⟩
        rw [fm_step (f := fun ms => (List.range (c / C n d)).map fun r => (ms, r)) hms]
        exact PlA.app ((A7.same s8).updL hpd8) (B8.updL hpd8)
      · rintro σ H7 ⟨ds, v6, v7, rfl, s7, k7, hpd7, A7⟩
        have ll : (L'.map fun q => V.ref q.1).length = (combs (List.range' 0 n) d).length := by
          have := congrArg List.length key
          rw [List.length_map, List.length_map] at this
          rw [List.length_map, this]
        rw [ll, List.take_length] at A7
        exact ⟨ds, _, _, _, rfl, s7, k7 _ _ npd hpl6, A6.but hpd6 k7, hpd7, A7⟩
    rintro σ H4 ⟨ds, v6, v7, v10, rfl, s4, hpl4, A4, hpd4, A5⟩
    have pl1 := plL_len st hd1
    have dl := A5.len
    obtain ⟨bs, b1, b2, b3⟩ := A4.pairs
    have allD : ∀ x ∈ bs.map (·.2), ∃ e : Pl, x = plD e := fun x hx => by
      rw [b2] at hx
      obtain ⟨e, _, rfl⟩ := List.mem_map.mp hx
      exact ⟨e, rfl⟩
    refine ⟨.ref pl, rfl, pl, bs, rfl, by rw [b1]; exact SqL.of hpl4, b3, fun x hx y hy => ?_, .inl fun x hx => ?_, fun b hb => ?_, fun qq nq => ?_⟩
    · obtain ⟨e, rfl⟩ := allD x hx
      obtain ⟨f, rfl⟩ := allD y hy
      unfold plD
      simp only [PySem.W.alike, PySem.W.alikeAll]
      rw [natD_alike]
      rfl
    · obtain ⟨e, rfl⟩ := allD x hx
      exact ⟨_, _, rfl⟩
    · obtain ⟨e, he⟩ := allD b.2 (List.mem_map.mpr ⟨b, hb, rfl⟩)
      rw [he, dep_pl]
      decide
    have srt1 := pl_sorted (bs := bs) (n := n) (d := d) (c := c) (by rw [b2]; exact (place_perm st hd1).map plD)
    have s5 := same_new (o := .lst ((bs.mergeSort dLe).map (·.1))) nq
    have d1 : Dp K (upd H4 qq (.lst ((bs.mergeSort dLe).map (·.1)))) (.ref qq) (.list ((plL n d c).map plD)) := by
      rw [← srt1]
      exact .lst (SqL.of upd_same) (dp_alls _ fun b hb => Dp.mono s5 (b3 b ((dsort_perm bs).mem_iff.mp hb)))
    have hpd5 := s5 _ _ hpd4
    have d2 : Dp K (upd H4 qq (.lst ((bs.mergeSort dLe).map (·.1)))) (.ref pd) (.list ((plL n d c).map plD)) := .lst (SqL.of hpd5) (A5.same s5).dp
    refine ⟨.ref pd, rfl, _, _, d1, d2, sh_pls _, sh_pls _, _, rfl, ?_⟩
    rw [SeqAt.eqv_refl (.list ((plL n d c).map plD)) (can_pls _)]
    refine iteT ?_
    refine ⟨.ref pd, rfl, pd, _, rfl, .inl (SqL.of hpd5), _, rfl, rfl, ?_⟩
    rw [dl, pl1, decide_eq_true rfl]
    exact q _ (s4.trans s5)
end
/-! ### the law -/
def spLaw (K : PySem.W.Frag) : Sp := fun vs H Q _ => ∃ (a : Addr) (ns : List Int), vs = [.ref a] ∧ SqL K H a (ns.map V.int) ∧ ns.length ≤ 63 ∧ ∀ H', Q (.bl true) H'
theorem pot_upd08 {H : Hp} {p q : Addr} {m : Nat} {o : HO} (h : PotAt H p m) (nb : p ≠ q) : PotAt (upd H q o) p m := by
  obtain ⟨x, y, z, e, r⟩ := h
  exact ⟨x, y, z, by rw [upd_ne nb]; exact e, r⟩
theorem least_six : ∀ n, n ≤ 6 → ∀ d, d ≤ n → leastL n d ≤ 60 := by decide +kernel
section
variable {P : Program} {w : World} {K : PySem.W.Frag} {mg : Str → Option Value} {base : Heap}
theorem ok_law {f : Addr} {fd : FuncData} (F : Fun K "law" "law" sLaw f fd) (T : Txt K mg) : FnG P w K mg base CX0 9 f fd ["_law_script"] (spLaw K) := by
  refine Fun_ok0 F scLaw (fun vs H Q E h => ?_) (fun cdv A outer s H vs Q E gd hr h => ?_)
  · obtain ⟨a, ns, rfl, _⟩ := h
    rfl
  · obtain ⟨a, ns, rfl, hS, hlen, q⟩ := h
    refine ⟨_, pss_cons (ps_set (i := 1) scLaw.nd rfl (.inr rfl) (pe_call0 (ok_rows T) hr (by rfl) T.gRows T.FRows.kp T.bRows .nil pass0)) (C8.pss_cut (ps_for PassesOwn.never rfl (pi_range2 (by rfl) T.n_range (pa_cons pe_int (pa_cons pe_int pa_nil))) (pg_name (i := 2) scLaw.nd rfl (.inr rfl)) (pss_one (ps_for PassesOwn.never rfl (pi_range2 (by rfl) T.n_range (pa_cons pe_int (pa_cons (pe_op op_add (pv 2) pe_int) pa_nil))) (pg_name (i := 3) scLaw.nd rfl (.inr rfl)) (pss_cons (ps_set (i := 4) scLaw.nd rfl (.inr rfl) (pe_call (ok_least T) hr (by rfl) T.gLeast T.FLeast.kp T.bLeast .nil pass0 (pa_cons (pv 1) (pa_cons (pv 2) (pa_cons (pv 3) pa_nil))))) (pss_one (ps_if (pt_not (pt_val (pe_callB (cr_allK K) (by rfl) T.n_all (by decide +kernel) (pa_cons (pe_lc (own := [("_law_often", 5)]) (g := (gName 5)) (tt := tYes) rfl scLaw.nd (pi_tup (pe_tup (pa_cons pe_int (pa_cons pe_int pa_nil)))) (blkOk_by (own := [("_law_often", 5)]) (N := NLaw) (sc := defScope sLaw) (by decide +kernel)) (fun _ _ _ _ _ => (pg_name (i := 5) scLaw.nd rfl (.inl rfl))) (fun _ _ _ _ _ => pts_nil) (fun _ _ _ _ _ => (pe_call (ok_small T) hr (by rfl) T.gSmall T.FSmall.kp T.bSmall .nil pass0 (pa_cons (pv 1) (pa_cons (pv 2) (pa_cons (pv 3) (pa_cons (pe_op op_mul (pv 4) (pv 5)) pa_nil))))))) pa_nil)))) (pss_one (ps_ret pe_bl)) pss_nil)))))) (pss_cons (ps_for PassesOwn.never rfl (pi_range1 (by rfl) T.n_range (pa_cons (pe_callB (call_max2 rfl) (by rfl) T.n_max (by decide +kernel) (pa_cons pe_int (pa_cons (pe_callB (call_min2 rfl) (by rfl) T.n_min (by decide +kernel) (pa_cons pe_int (pa_cons (pe_callB (call_lenK K) (by rfl) T.n_len PySem.boot_len (pa_cons (pv 0) pa_nil)) pa_nil))) pa_nil))) pa_nil)) (pg_name (i := 6) scLaw.nd rfl (.inl rfl)) (pss_cons (ps_set (i := 7) scLaw.nd rfl (.inr rfl) (pe_call (ok_pot T) hr (by rfl) T.gPot T.FPot.kp T.bPot .nil pass0 (pa_cons (pv 0) (pa_cons (pv 6) pa_nil)))) (pss_one (ps_if (pt_not (pt_val (pe_callB (cr_allK K) (by rfl) T.n_all (by decide +kernel) (pa_cons (pe_lc (own := [("_law_turn", 8)]) (g := (gName 8)) (tt := tYes) rfl scLaw.nd (pi_range1 (by rfl) T.n_range (pa_cons pe_int pa_nil)) (blkOk_by (own := [("_law_turn", 8)]) (N := NLaw) (sc := defScope sLaw) (by decide +kernel)) (fun _ _ _ _ _ => (pg_name (i := 8) scLaw.nd rfl (.inl rfl))) (fun _ _ _ _ _ => pts_nil) (fun _ _ _ _ _ => (pe_call (ok_great T) hr (by rfl) T.gGreat T.FGreat.kp T.bGreat .nil pass0 (pa_cons (pv 7) (pa_cons (pv 1) pa_nil))))) pa_nil)))) (pss_one (ps_ret pe_bl)) pss_nil)))) (pss_one (ps_ret pe_bl)))), ?_⟩
    refine ⟨rfl, fun H1 pr rs s1 fpr hl R1 => ?_⟩
    dsimp only [gName]
    refine ⟨fun σ H2 => ∃ v2 v3 v4, σ = [some (.ref a), some (.ref pr), v2, v3, v4, none, none, none, none] ∧ Same H1 H2, ?_, ?_⟩
    · refine ⟨_, _, rfl, ⟨by omega, by omega, by omega, by omega⟩, ?_⟩
      refine for_range (lo := 2) (n := ((7 : Int) - 2).toNat) (fun x σ H2 => ∃ v2 v3 v4, σ = [some (.ref a), some (.ref pr), v2, v3, v4, none, none, none, none] ∧ Same H1 H2) ⟨none, none, none, rfl, Same.refl _⟩ ?_ ?_
      · rintro x σ H2 hx ⟨v2, v3, v4, rfl, s2⟩
        have hx5 : x < 5 := by simpa using hx
        rw [show (2 : Int) + (x : Int) = ((2 + x : Nat) : Int) by omega]
        generalize hn0 : 2 + x = n
        have hn2 : 2 ≤ n := by omega
        have hn6 : n ≤ 6 := by omega
        dsimp only [gName]
        refine ⟨_, rfl, _, _, rfl, rfl, _, _, rfl, ⟨by omega, by omega, by omega, by omega⟩, ?_⟩
        refine for_range (lo := 1) (n := ((n : Int) + 1 - 1).toNat) (fun y σ H3 => ∃ v3 v4, σ = [some (.ref a), some (.ref pr), some (.int (n : Int)), v3, v4, none, none, none, none] ∧ Same H1 H3) ⟨v3, v4, rfl, s2⟩ ?_ ?_
        · rintro y σ H3 hy ⟨v3, v4, rfl, s3⟩
          have hyn : y < n := by omega
          rw [show (1 : Int) + (y : Int) = ((1 + y : Nat) : Int) by omega]
          generalize hd0 : 1 + y = d
          have hd1 : 1 ≤ d := by omega
          have hdn : d ≤ n := by omega
          dsimp only [gName]
          have R3 := R1.same s3
          refine ⟨.ref pr, rfl, _, rfl, _, rfl, pr, rs, n, d, rfl, R3, hl, by omega, by omega, hdn, ?_⟩
          dsimp only [gName]
          have L6 := least_six n hn6 d hdn
          refine ⟨by show 2 ≤ sizeLine; decide, fun t nt => ?_⟩
          have st := same_new (o := .tup [V.int 1, V.int 2]) nt
          have ht : (upd H3 t (.tup [V.int 1, V.int 2])) t = some (.tup [V.int 1, V.int 2]) := upd_same
          have s34 := s3.trans st
          generalize upd H3 t (.tup [V.int 1, V.int 2]) = H4 at st ht s34 ⊢
          refine ⟨t, rfl, ⟨_, SqT.of ht⟩, fun D nD => ?_⟩
          refine lc_tup (K := K) (a := t) (xs := [V.int 1, V.int 2]) (fun z H5 => Same H4 H5 ∧ H5 D = some (.lst ((List.replicate z true).map V.bl))) ⟨same_new nD, upd_same⟩ (fun _ H5 _ h5 => SqT.of (h5.1 _ _ ht)) ?_ ?_
          · rintro z v H5 hz ⟨s5, hD5⟩
            obtain ⟨k, rfl, hk1, hk2⟩ : ∃ k : Nat, v = .int (k : Int) ∧ 1 ≤ k ∧ k ≤ 2 := by
              match z, hz with
              | 0, hz => exact ⟨1, (Option.some.inj (show some (V.int 1) = some v from hz)).symm, by omega, by omega⟩
              | 1, hz => exact ⟨2, (Option.some.inj (show some (V.int 2) = some v from hz)).symm, by omega, by omega⟩
              | z + 2, hz => simp at hz
            have zl : z < 2 := (List.getElem?_eq_some_iff.mp hz).1
            have sc := std_of (show n ≤ 60 by omega) (show 1 ≤ n by omega) hdn k hk1
            have cb : leastL n d * k ≤ 60 * 2 := Nat.mul_le_mul L6 hk2
            refine ⟨rfl, .ref pr, rfl, _, rfl, _, rfl, _, rfl, _, rfl, _, _, rfl, rfl, .inl ⟨by omega, by omega⟩, ?_⟩
            dsimp only [tNil]
            rw [show ((leastL n d : Nat) : Int) * (k : Int) = ((leastL n d * k : Nat) : Int) from (Int.natCast_mul _ _).symm]
            refine ⟨pr, rs, n, d, _, rfl, R1.same (s34.trans s5), hl, sc, hd1, hn6, by omega, fun H6 s6 => ?_⟩
            have hD6 := s6 _ _ hD5
            exact ⟨_, hD6, by rw [List.length_map, List.length_replicate, sizeLine_eq]; omega, keep_upd (s5.trans s6) nD, by rw [upd_same, List.replicate_succ', List.map_append]; rfl⟩
          rintro H5 ⟨s5, hD5⟩
          refine ⟨D, List.replicate 2 true, rfl, SqL.of hD5, ?_⟩
          refine ⟨_, rfl, iteF ?_⟩
          exact ⟨_, _, rfl, s34.trans s5⟩
        · rintro σ H3 ⟨v3, v4, rfl, s3⟩
          exact ⟨_, _, _, rfl, s3⟩
      · rintro σ H2 ⟨v2, v3, v4, rfl, s2⟩
        exact ⟨_, _, _, rfl, s2⟩
    rintro σ H2 ⟨v2, v3, v4, rfl, s2⟩
    refine ⟨.ref a, rfl, a, _, rfl, .inl ((s1.trans s2).seq hS), _, _, rfl, _, _, rfl, _, rfl, ?_, ?_, ?_⟩
    · split <;> split <;> omega
    · split <;> split <;> omega
    refine for_range (lo := 0) (fun i σ H3 => ∃ v6 v7, σ = [some (.ref a), some (.ref pr), v2, v3, v4, none, v6, v7, none] ∧ Same H1 H3) ⟨none, none, rfl, s2⟩ ?_ ?_
    · rintro i σ H3 hi ⟨v6, v7, rfl, s3⟩
      have hi3 : i < 4 := by
        refine Nat.lt_of_lt_of_le hi ?_
        split <;> split <;> omega
      rw [Int.zero_add]
      refine ⟨.ref a, rfl, _, rfl, a, ns, i, rfl, (s1.trans s3).seq hS, by omega, fun H4 p s4 np P4 => ?_⟩
      dsimp only [gName]
      have R4 : RowsAt (hide p H4) pr rs := (R1.same s3).same (fun b o e => by rw [hide_ne (ne_of_none e np)]; exact s4 b o e)
      refine ⟨6, rfl, by decide, by decide, fun D nD => ?_⟩
      have nDp := (P4.ne nD).symm
      refine lc_range (lo := 0) (n := (6 : Int).toNat) (fun z H5 => But p H4 H5 ∧ PotAt H5 p (100 * z) ∧ H5 D = some (.lst ((List.replicate z true).map V.bl))) ⟨But.of (same_new nD), P4.same (same_new nD), upd_same⟩ ?_ ?_
      · rintro z H5 hz ⟨B5, P5, hD5⟩
        have hz6 : z < 6 := by simpa using hz
        refine ⟨rfl, .ref p, rfl, .ref pr, rfl, p, _, pr, rs, rfl, P5, by omega, R4.but B5, hl, fun H6 P6 B6 => ?_⟩
        have hD6 := B6 _ _ nDp hD5
        exact ⟨_, hD6, by rw [List.length_map, List.length_replicate, sizeLine_eq]; omega, but_new (B5.trans B6) nD, (pot_upd08 P6 nDp.symm).mono (by omega), by rw [upd_same, List.replicate_succ', List.map_append]; rfl⟩
      rintro H5 ⟨B5, P5, hD5⟩
      refine ⟨D, List.replicate (6 : Int).toNat true, rfl, SqL.of hD5, ?_⟩
      refine ⟨_, rfl, iteF ?_⟩
      exact ⟨_, _, rfl, fun b o e => B5 _ _ (ne_of_none (s3 _ _ e) np) (s4 _ _ (s3 _ _ e))⟩
    · rintro σ H3 ⟨v6, v7, rfl, s3⟩
      exact q _
end
theorem all_mk {l : PySem.W.OpenLaw} {w : World} {K : PySem.W.Frag} {h : Heap} {mg : Str → Option Value} {fa f1 f2 f3 f4 f5 f6 f7 f8 f9 f10 f11 f12 f13 f14 f15 f16 f17 f18 f19 f20 f21 : Addr} (X : K.In h) (G : h.Ns mainGlobals mg) (hfa : mg "law" = some (.ref fa))
    {od1 an1 od2 an2 od3 an3 od4 an4 od5 an5 od6 an6 od7 an7 od8 an8 od9 an9 od10 an10 od11 an11 od12 an12 od13 an13 od14 an14 od15 an15 od16 an16 od17 an17 od18 an18 od19 an19 od20 an20 od21 an21 : Option Addr} {sl1 sl2 sl3 sl4 sl5 sl6 sl7 sl8 sl9 sl10 sl11 sl12 sl13 sl14 sl15 sl16 sl17 sl18 sl19 sl20 sl21 : Array (Option Value)} {oc1 kV1 dc1 pm1 cd1 ct1 oc2 kV2 dc2 pm2 cd2 ct2 oc3 kV3 dc3 pm3 cd3 ct3 oc4 kV4 dc4 pm4 cd4 ct4 oc5 kV5 dc5 pm5 cd5 ct5 oc6 kV6 dc6 pm6 cd6 ct6 oc7 kV7 dc7 pm7 cd7 ct7 oc8 kV8 dc8 pm8 cd8 ct8 oc9 kV9 dc9 pm9 cd9 ct9 oc10 kV10 dc10 pm10 cd10 ct10 oc11 kV11 dc11 pm11 cd11 ct11 oc12 kV12 dc12 pm12 cd12 ct12 oc13 kV13 dc13 pm13 cd13 ct13 oc14 kV14 dc14 pm14 cd14 ct14 oc15 kV15 dc15 pm15 cd15 ct15 oc16 kV16 dc16 pm16 cd16 ct16 oc17 kV17 dc17 pm17 cd17 ct17 oc18 kV18 dc18 pm18 cd18 ct18 oc19 kV19 dc19 pm19 cd19 ct19 oc20 kV20 dc20 pm20 cd20 ct20 oc21 kV21 dc21 pm21 cd21 ct21 : Value}
    {CBase CNoN CNotP fi2 fi3 : Addr}
    {nm2 q2 : Str} {N2 : Addr} {bs2 : List Value} {sn2 : List Str} {sub2 : List Value} {ab2 : Bool} {col2 : Option Bool} {dd2 : Option Addr} {m0_2 m1_2 m2_2 m3_2 m5_2 : Option Value} {odi2 ani2 : Option Addr} {sli2 : Array (Option Value)} {oci2 kVi2 dci2 pmi2 cdi2 cti2 : Value}
    {nm3 q3 : Str} {N3 : Addr} {bs3 : List Value} {sn3 : List Str} {sub3 : List Value} {ab3 : Bool} {col3 : Option Bool} {dd3 : Option Addr} {m0_3 m1_3 m2_3 m3_3 m5_3 : Option Value} {odi3 ani3 : Option Addr} {sli3 : Array (Option Value)} {oci3 kVi3 dci3 pmi3 cdi3 cti3 : Value}
    (a1 : PySem.W.nsIn K mainGlobals "is_plain_int" = some (some (.ref f1)))
    (l1 : K.lookup f1 = some ⟨oc1, od1, .func (PySem.W.fnOf "is_plain_int" "is_plain_int" (defArgs sPlain) (defBody sPlain) (defScope sPlain) .none kV1 dc1 pm1 an1 cd1 ct1), sl1⟩)
    (c1 : PySem.W.codeIn K cd1 "is_plain_int" = true)
    (k1 : PySem.W.keepIn K (.ref f1) = true)
    (a2 : PySem.W.nsIn K mainGlobals "binomial" = some (some (.ref f2)))
    (l2 : K.lookup f2 = some ⟨oc2, od2, .func (PySem.W.fnOf "binomial" "binomial" (defArgs sBin) (defBody sBin) (defScope sBin) .none kV2 dc2 pm2 an2 cd2 ct2), sl2⟩)
    (c2 : PySem.W.codeIn K cd2 "binomial" = true)
    (k2 : PySem.W.keepIn K (.ref f2) = true)
    (a3 : PySem.W.nsIn K mainGlobals "level_parts" = some (some (.ref f3)))
    (l3 : K.lookup f3 = some ⟨oc3, od3, .func (PySem.W.fnOf "level_parts" "level_parts" (defArgs sParts) (defBody sParts) (defScope sParts) .none kV3 dc3 pm3 an3 cd3 ct3), sl3⟩)
    (c3 : PySem.W.codeIn K cd3 "level_parts" = true)
    (k3 : PySem.W.keepIn K (.ref f3) = true)
    (a4 : PySem.W.nsIn K mainGlobals "is_possible" = some (some (.ref f4)))
    (l4 : K.lookup f4 = some ⟨oc4, od4, .func (PySem.W.fnOf "is_possible" "is_possible" (defArgs sPoss) (defBody sPoss) (defScope sPoss) .none kV4 dc4 pm4 an4 cd4 ct4), sl4⟩)
    (c4 : PySem.W.codeIn K cd4 "is_possible" = true)
    (k4 : PySem.W.keepIn K (.ref f4) = true)
    (a5 : PySem.W.nsIn K mainGlobals "check_possible" = some (some (.ref f5)))
    (l5 : K.lookup f5 = some ⟨oc5, od5, .func (PySem.W.fnOf "check_possible" "check_possible" (defArgs sChkP) (defBody sChkP) (defScope sChkP) .none kV5 dc5 pm5 an5 cd5 ct5), sl5⟩)
    (c5 : PySem.W.codeIn K cd5 "check_possible" = true)
    (k5 : PySem.W.keepIn K (.ref f5) = true)
    (a6 : PySem.W.nsIn K mainGlobals "check_number" = some (some (.ref f6)))
    (l6 : K.lookup f6 = some ⟨oc6, od6, .func (PySem.W.fnOf "check_number" "check_number" (defArgs sChkN) (defBody sChkN) (defScope sChkN) .none kV6 dc6 pm6 an6 cd6 ct6), sl6⟩)
    (c6 : PySem.W.codeIn K cd6 "check_number" = true)
    (k6 : PySem.W.keepIn K (.ref f6) = true)
    (a7 : PySem.W.nsIn K mainGlobals "level_widths" = some (some (.ref f7)))
    (l7 : K.lookup f7 = some ⟨oc7, od7, .func (PySem.W.fnOf "level_widths" "level_widths" (defArgs sWid) (defBody sWid) (defScope sWid) .none kV7 dc7 pm7 an7 cd7 ct7), sl7⟩)
    (c7 : PySem.W.codeIn K cd7 "level_widths" = true)
    (k7 : PySem.W.keepIn K (.ref f7) = true)
    (a8 : PySem.W.nsIn K mainGlobals "follow" = some (some (.ref f8)))
    (l8 : K.lookup f8 = some ⟨oc8, od8, .func (PySem.W.fnOf "follow" "follow" (defArgs sFollow) (defBody sFollow) (defScope sFollow) .none kV8 dc8 pm8 an8 cd8 ct8), sl8⟩)
    (c8 : PySem.W.codeIn K cd8 "follow" = true)
    (k8 : PySem.W.keepIn K (.ref f8) = true)
    (a9 : PySem.W.nsIn K mainGlobals "path" = some (some (.ref f9)))
    (l9 : K.lookup f9 = some ⟨oc9, od9, .func (PySem.W.fnOf "path" "path" (defArgs sPath) (defBody sPath) (defScope sPath) .none kV9 dc9 pm9 an9 cd9 ct9), sl9⟩)
    (c9 : PySem.W.codeIn K cd9 "path" = true)
    (k9 : PySem.W.keepIn K (.ref f9) = true)
    (a10 : PySem.W.nsIn K mainGlobals "place_at" = some (some (.ref f10)))
    (l10 : K.lookup f10 = some ⟨oc10, od10, .func (PySem.W.fnOf "place_at" "place_at" (defArgs sPlaceAt) (defBody sPlaceAt) (defScope sPlaceAt) .none kV10 dc10 pm10 an10 cd10 ct10), sl10⟩)
    (c10 : PySem.W.codeIn K cd10 "place_at" = true)
    (k10 : PySem.W.keepIn K (.ref f10) = true)
    (a11 : PySem.W.nsIn K mainGlobals "number_at" = some (some (.ref f11)))
    (l11 : K.lookup f11 = some ⟨oc11, od11, .func (PySem.W.fnOf "number_at" "number_at" (defArgs sNumAt) (defBody sNumAt) (defScope sNumAt) .none kV11 dc11 pm11 an11 cd11 ct11), sl11⟩)
    (c11 : PySem.W.codeIn K cd11 "number_at" = true)
    (k11 : PySem.W.keepIn K (.ref f11) = true)
    (a12 : PySem.W.nsIn K mainGlobals "_law_pot" = some (some (.ref f12)))
    (l12 : K.lookup f12 = some ⟨oc12, od12, .func (PySem.W.fnOf "_law_pot" "_law_pot" (defArgs sPot) (defBody sPot) (defScope sPot) .none kV12 dc12 pm12 an12 cd12 ct12), sl12⟩)
    (c12 : PySem.W.codeIn K cd12 "_law_pot" = true)
    (k12 : PySem.W.keepIn K (.ref f12) = true)
    (a13 : PySem.W.nsIn K mainGlobals "_law_take" = some (some (.ref f13)))
    (l13 : K.lookup f13 = some ⟨oc13, od13, .func (PySem.W.fnOf "_law_take" "_law_take" (defArgs sTake) (defBody sTake) (defScope sTake) .none kV13 dc13 pm13 an13 cd13 ct13), sl13⟩)
    (c13 : PySem.W.codeIn K cd13 "_law_take" = true)
    (k13 : PySem.W.keepIn K (.ref f13) = true)
    (a14 : PySem.W.nsIn K mainGlobals "_law_of" = some (some (.ref f14)))
    (l14 : K.lookup f14 = some ⟨oc14, od14, .func (PySem.W.fnOf "_law_of" "_law_of" (defArgs sOf) (defBody sOf) (defScope sOf) .none kV14 dc14 pm14 an14 cd14 ct14), sl14⟩)
    (c14 : PySem.W.codeIn K cd14 "_law_of" = true)
    (k14 : PySem.W.keepIn K (.ref f14) = true)
    (a15 : PySem.W.nsIn K mainGlobals "_law_rows" = some (some (.ref f15)))
    (l15 : K.lookup f15 = some ⟨oc15, od15, .func (PySem.W.fnOf "_law_rows" "_law_rows" (defArgs sRows) (defBody sRows) (defScope sRows) .none kV15 dc15 pm15 an15 cd15 ct15), sl15⟩)
    (c15 : PySem.W.codeIn K cd15 "_law_rows" = true)
    (k15 : PySem.W.keepIn K (.ref f15) = true)
    (a16 : PySem.W.nsIn K mainGlobals "_law_common" = some (some (.ref f16)))
    (l16 : K.lookup f16 = some ⟨oc16, od16, .func (PySem.W.fnOf "_law_common" "_law_common" (defArgs sCommon) (defBody sCommon) (defScope sCommon) .none kV16 dc16 pm16 an16 cd16 ct16), sl16⟩)
    (c16 : PySem.W.codeIn K cd16 "_law_common" = true)
    (k16 : PySem.W.keepIn K (.ref f16) = true)
    (a17 : PySem.W.nsIn K mainGlobals "_law_least" = some (some (.ref f17)))
    (l17 : K.lookup f17 = some ⟨oc17, od17, .func (PySem.W.fnOf "_law_least" "_law_least" (defArgs sLeast) (defBody sLeast) (defScope sLeast) .none kV17 dc17 pm17 an17 cd17 ct17), sl17⟩)
    (c17 : PySem.W.codeIn K cd17 "_law_least" = true)
    (k17 : PySem.W.keepIn K (.ref f17) = true)
    (a18 : PySem.W.nsIn K mainGlobals "_law_walk" = some (some (.ref f18)))
    (l18 : K.lookup f18 = some ⟨oc18, od18, .func (PySem.W.fnOf "_law_walk" "_law_walk" (defArgs sWalk) (defBody sWalk) (defScope sWalk) .none kV18 dc18 pm18 an18 cd18 ct18), sl18⟩)
    (c18 : PySem.W.codeIn K cd18 "_law_walk" = true)
    (k18 : PySem.W.keepIn K (.ref f18) = true)
    (a19 : PySem.W.nsIn K mainGlobals "_law_small_right" = some (some (.ref f19)))
    (l19 : K.lookup f19 = some ⟨oc19, od19, .func (PySem.W.fnOf "_law_small_right" "_law_small_right" (defArgs sSmall) (defBody sSmall) (defScope sSmall) .none kV19 dc19 pm19 an19 cd19 ct19), sl19⟩)
    (c19 : PySem.W.codeIn K cd19 "_law_small_right" = true)
    (k19 : PySem.W.keepIn K (.ref f19) = true)
    (a20 : PySem.W.nsIn K mainGlobals "_law_great_right" = some (some (.ref f20)))
    (l20 : K.lookup f20 = some ⟨oc20, od20, .func (PySem.W.fnOf "_law_great_right" "_law_great_right" (defArgs sGreat) (defBody sGreat) (defScope sGreat) .none kV20 dc20 pm20 an20 cd20 ct20), sl20⟩)
    (c20 : PySem.W.codeIn K cd20 "_law_great_right" = true)
    (k20 : PySem.W.keepIn K (.ref f20) = true)
    (a21 : PySem.W.nsIn K mainGlobals "law" = some (some (.ref f21)))
    (l21 : K.lookup f21 = some ⟨oc21, od21, .func (PySem.W.fnOf "law" "law" (defArgs sLaw) (defBody sLaw) (defScope sLaw) .none kV21 dc21 pm21 an21 cd21 ct21), sl21⟩)
    (c21 : PySem.W.codeIn K cd21 "law" = true)
    (k21 : PySem.W.keepIn K (.ref f21) = true)
    (ac1 : PySem.W.nsIn K mainGlobals "FailoverError" = some (some (.ref CBase)))
    (bsp : PySem.W.specialIn K (.ref CBase) "__getattribute__" = some (some (.builtin "type.__getattribute__")))
    (bty : PySem.W.typeIn K (.ref CBase) = some (.type "type"))
    (brd : PySem.W.readsIn K CBase (.type "type") = true)
    (bfc : PySem.W.findCls K (.ref CBase) (.type "type") "__init__" = some (.val (.builtin "ValueError.__init__")))
    (bex : PySem.W.subIn K (.ref CBase) (.type "BaseException") = some true)
    (bhd : PySem.W.hasDictIn K CBase = true)
    (ac2 : PySem.W.nsIn K mainGlobals "NoNumber" = some (some (.ref CNoN)))
    (e2_xL : K.lookup CNoN = some (excClassObj nm2 q2 CNoN N2 bs2 [.ref CBase, .type "ValueError", .type "Exception", .type "BaseException", .type "object"] true sn2 sub2 ab2 col2 dd2 m0_2 m1_2 m2_2 m3_2 m5_2 "ValueError.__new__"))
    (e2_sa : PySem.W.findIn K (.ref CNoN) "__setattr__" = some (some (.builtin "object.__setattr__")))
    (e2_ga : PySem.W.findIn K (.ref CNoN) "__getattribute__" = some (some (.builtin "BaseException.__getattribute__")))
    (e2_gg : PySem.W.findIn K (.ref CNoN) "__getattr__" = some none)
    (e2_nb : PySem.W.findIn K (.ref CNoN) "value" = some none)
    (e2_ai : PySem.W.findIn K (.ref CNoN) "__init__" = some (some (.ref fi2)))
    (e2_ti : PySem.W.typeIn K (.ref fi2) = some (.type "function"))
    (e2_li : K.lookup fi2 = some ⟨oci2, odi2, .func (PySem.W.fnOf "__init__" "NoNumber.__init__" (defArgs sNoN) (defBody sNoN) (defScope sNoN) .none kVi2 dci2 pmi2 ani2 cdi2 cti2), sli2⟩)
    (e2_ci : PySem.W.codeIn K cdi2 "NoNumber.__init__" = true)
    (e2_ki : PySem.W.keepIn K (.ref fi2) = true)
    (e2_kC : PySem.W.keepIn K (.ref CNoN) = true)
    (e2_eC : PySem.W.subIn K (.ref CNoN) (.type "BaseException") = some true)
    (e2_tC : PySem.W.typeIn K (.ref CNoN) = some (.type "type"))
    (e2_hC : PySem.W.hasDictIn K CNoN = true)
    (e2_cC : PySem.W.findIn K (.ref CNoN) "__class__" = some (some (.builtin "object.__class__")))
    (e2_gC : PySem.W.specialIn K (.builtin "object.__class__") "__get__" = some (some (.builtin "getset_descriptor.__get__")))
    (e2_kk : PySem.W.takesIn K (.builtin "object.__class__") = some true)
    (e2_mC : PySem.W.mroIn K CNoN (.type "object") = some true)
    (e2_sB : PySem.W.subIn K (.ref CNoN) (.ref CBase) = some true)
    (ac3 : PySem.W.nsIn K mainGlobals "NotPossible" = some (some (.ref CNotP)))
    (e3_xL : K.lookup CNotP = some (excClassObj nm3 q3 CNotP N3 bs3 [.ref CBase, .type "ValueError", .type "Exception", .type "BaseException", .type "object"] true sn3 sub3 ab3 col3 dd3 m0_3 m1_3 m2_3 m3_3 m5_3 "ValueError.__new__"))
    (e3_sa : PySem.W.findIn K (.ref CNotP) "__setattr__" = some (some (.builtin "object.__setattr__")))
    (e3_ga : PySem.W.findIn K (.ref CNotP) "__getattribute__" = some (some (.builtin "BaseException.__getattribute__")))
    (e3_gg : PySem.W.findIn K (.ref CNotP) "__getattr__" = some none)
    (e3_nb : PySem.W.findIn K (.ref CNotP) "count" = some none)
    (e3_ai : PySem.W.findIn K (.ref CNotP) "__init__" = some (some (.ref fi3)))
    (e3_ti : PySem.W.typeIn K (.ref fi3) = some (.type "function"))
    (e3_li : K.lookup fi3 = some ⟨oci3, odi3, .func (PySem.W.fnOf "__init__" "NotPossible.__init__" (defArgs sNotP) (defBody sNotP) (defScope sNotP) .none kVi3 dci3 pmi3 ani3 cdi3 cti3), sli3⟩)
    (e3_ci : PySem.W.codeIn K cdi3 "NotPossible.__init__" = true)
    (e3_ki : PySem.W.keepIn K (.ref fi3) = true)
    (e3_kC : PySem.W.keepIn K (.ref CNotP) = true)
    (e3_eC : PySem.W.subIn K (.ref CNotP) (.type "BaseException") = some true)
    (e3_tC : PySem.W.typeIn K (.ref CNotP) = some (.type "type"))
    (e3_hC : PySem.W.hasDictIn K CNotP = true)
    (e3_cC : PySem.W.findIn K (.ref CNotP) "__class__" = some (some (.builtin "object.__class__")))
    (e3_gC : PySem.W.specialIn K (.builtin "object.__class__") "__get__" = some (some (.builtin "getset_descriptor.__get__")))
    (e3_kk : PySem.W.takesIn K (.builtin "object.__class__") = some true)
    (e3_mC : PySem.W.mroIn K CNotP (.type "object") = some true)
    (e3_sB : PySem.W.subIn K (.ref CNotP) (.ref CBase) = some true)
    (z1 : PySem.W.nsIn K mainGlobals "ValueError" = some none)
    (z2 : PySem.W.nsIn K mainGlobals "abs" = some none)
    (z3 : PySem.W.nsIn K mainGlobals "all" = some none)
    (z4 : PySem.W.nsIn K mainGlobals "bool" = some none)
    (z5 : PySem.W.nsIn K mainGlobals "int" = some none)
    (z6 : PySem.W.nsIn K mainGlobals "isinstance" = some none)
    (z7 : PySem.W.nsIn K mainGlobals "len" = some none)
    (z8 : PySem.W.nsIn K mainGlobals "list" = some none)
    (z9 : PySem.W.nsIn K mainGlobals "max" = some none)
    (z10 : PySem.W.nsIn K mainGlobals "min" = some none)
    (z11 : PySem.W.nsIn K mainGlobals "range" = some none)
    (z12 : PySem.W.nsIn K mainGlobals "reversed" = some none)
    (z13 : PySem.W.nsIn K mainGlobals "set" = some none)
    (z14 : PySem.W.nsIn K mainGlobals "sorted" = some none)
    (z15 : PySem.W.nsIn K mainGlobals "tuple" = some none)
    : ∃ fd : FuncData, (∀ (s : Shared) (v : Value), BindsTo s fd ⟨[v], []⟩ [("_law_script", v)]) ∧ ∀ base : Heap, K.In base → base.Ns mainGlobals mg → FnG l.prog w K mg base CX0 9 fa fd ["_law_script"] (spLaw K) := by
  have e := hfa.symm.trans (PySem.W.mg_of X G a21)
  cases e
  have F1 := fun_mk (st := sPlain) l1 c1 k1
  have b1 := F1.binds (ps := ["thing"]) fun _ _ _ _ _ _ us hl => match us, hl with | [_], _ => rfl
  have F2 := fun_mk (st := sBin) l2 c2 k2
  have b2 := F2.binds (ps := ["n", "k"]) fun _ _ _ _ _ _ us hl => match us, hl with | [_, _], _ => rfl
  have F3 := fun_mk (st := sParts) l3 c3 k3
  have b3 := F3.binds (ps := ["n", "depth"]) fun _ _ _ _ _ _ us hl => match us, hl with | [_, _], _ => rfl
  have F4 := fun_mk (st := sPoss) l4 c4 k4
  have b4 := F4.binds (ps := ["n", "depth", "count"]) fun _ _ _ _ _ _ us hl => match us, hl with | [_, _, _], _ => rfl
  have F5 := fun_mk (st := sChkP) l5 c5 k5
  have b5 := F5.binds (ps := ["n", "depth", "count"]) fun _ _ _ _ _ _ us hl => match us, hl with | [_, _, _], _ => rfl
  have F6 := fun_mk (st := sChkN) l6 c6 k6
  have b6 := F6.binds (ps := ["value", "many"]) fun _ _ _ _ _ _ us hl => match us, hl with | [_, _], _ => rfl
  have F7 := fun_mk (st := sWid) l7 c7 k7
  have b7 := F7.binds (ps := ["n", "depth", "count"]) fun _ _ _ _ _ _ us hl => match us, hl with | [_, _, _], _ => rfl
  have F8 := fun_mk (st := sFollow) l8 c8 k8
  have b8 := F8.binds (ps := ["widths", "servers", "rest"]) fun _ _ _ _ _ _ us hl => match us, hl with | [_, _, _], _ => rfl
  have F9 := fun_mk (st := sPath) l9 c9 k9
  have b9 := F9.binds (ps := ["n", "depth", "count", "number"]) fun _ _ _ _ _ _ us hl => match us, hl with | [_, _, _, _], _ => rfl
  have F10 := fun_mk (st := sPlaceAt) l10 c10 k10
  have b10 := F10.binds (ps := ["n", "depth", "count", "number"]) fun _ _ _ _ _ _ us hl => match us, hl with | [_, _, _, _], _ => rfl
  have F11 := fun_mk (st := sNumAt) l11 c11 k11
  have b11 := F11.binds (ps := ["n", "count", "members", "rest"]) fun _ _ _ _ _ _ us hl => match us, hl with | [_, _, _, _], _ => rfl
  have F12 := fun_mk (st := sPot) l12 c12 k12
  have b12 := F12.binds (ps := ["_law_script", "_law_spot"]) fun _ _ _ _ _ _ us hl => match us, hl with | [_, _], _ => rfl
  have F13 := fun_mk (st := sTake) l13 c13 k13
  have b13 := F13.binds (ps := ["_law_pot_here", "_law_upto"]) fun _ _ _ _ _ _ us hl => match us, hl with | [_, _], _ => rfl
  have F14 := fun_mk (st := sOf) l14 c14 k14
  have b14 := F14.binds (ps := ["_law_pot_here", "_law_some"]) fun _ _ _ _ _ _ us hl => match us, hl with | [_, _], _ => rfl
  have F15 := fun_mk (st := sRows) l15 c15 k15
  have b15 := F15.binds (ps := []) fun _ _ _ _ _ _ us hl => match us, hl with | [], _ => rfl
  have F16 := fun_mk (st := sCommon) l16 c16 k16
  have b16 := F16.binds (ps := ["_law_one", "_law_other"]) fun _ _ _ _ _ _ us hl => match us, hl with | [_, _], _ => rfl
  have F17 := fun_mk (st := sLeast) l17 c17 k17
  have b17 := F17.binds (ps := ["_law_rows_here", "_law_wide", "_law_tall"]) fun _ _ _ _ _ _ us hl => match us, hl with | [_, _, _], _ => rfl
  have F18 := fun_mk (st := sWalk) l18 c18 k18
  have b18 := F18.binds (ps := ["_law_rows_here", "_law_wide", "_law_tall", "_law_total", "_law_spot"]) fun _ _ _ _ _ _ us hl => match us, hl with | [_, _, _, _, _], _ => rfl
  have F19 := fun_mk (st := sSmall) l19 c19 k19
  have b19 := F19.binds (ps := ["_law_rows_here", "_law_wide", "_law_tall", "_law_total"]) fun _ _ _ _ _ _ us hl => match us, hl with | [_, _, _, _], _ => rfl
  have F20 := fun_mk (st := sGreat) l20 c20 k20
  have b20 := F20.binds (ps := ["_law_pot_here", "_law_rows_here"]) fun _ _ _ _ _ _ us hl => match us, hl with | [_, _], _ => rfl
  have F21 := fun_mk (st := sLaw) l21 c21 k21
  have kb1 := Fun_kb (ps := ["n", "count", "members", "rest"]) (ks := ["rest", "members", "count", "n"]) [3, 2, 1, 0] 4 F11 (by decide) fun _ _ _ _ _ _ ws hl => match ws, hl with | [_, _, _, _], _ => rfl
  have FI2 := fun_mk (st := sNoN) e2_li e2_ci e2_ki
  have bI2 := FI2.binds (ps := ["self", "value"]) fun _ _ _ _ _ _ us hl => match us, hl with | [_, _], _ => rfl
  have ER2 : ErrT K CNoN fi2 "value" CBase := ⟨⟨⟨nm2, q2, N2, bs2, _, sn2, sub2, ab2, col2, dd2, m0_2, m1_2, m2_2, m3_2, m5_2, e2_xL, by first | rfl | decide +kernel⟩, e2_sa, e2_eC, e2_tC, e2_kC⟩, ⟨e2_ga, e2_gg, e2_eC, e2_hC⟩, ⟨e2_ga, e2_gg, e2_eC, e2_hC, e2_cC, e2_gC, e2_kk, e2_mC⟩, e2_nb, e2_ai, e2_ti, PySem.W.exm_ref bex bhd bty e2_sB⟩
  have FI3 := fun_mk (st := sNotP) e3_li e3_ci e3_ki
  have bI3 := FI3.binds (ps := ["self", "count"]) fun _ _ _ _ _ _ us hl => match us, hl with | [_, _], _ => rfl
  have ER3 : ErrT K CNotP fi3 "count" CBase := ⟨⟨⟨nm3, q3, N3, bs3, _, sn3, sub3, ab3, col3, dd3, m0_3, m1_3, m2_3, m3_3, m5_3, e3_xL, by first | rfl | decide +kernel⟩, e3_sa, e3_eC, e3_tC, e3_kC⟩, ⟨e3_ga, e3_gg, e3_eC, e3_hC⟩, ⟨e3_ga, e3_gg, e3_eC, e3_hC, e3_cC, e3_gC, e3_kk, e3_mC⟩, e3_nb, e3_ai, e3_ti, PySem.W.exm_ref bex bhd bty e3_sB⟩
  have T : Txt K mg := ⟨f1, _, F1, b1, PySem.W.mg_of X G a1, f2, _, F2, b2, PySem.W.mg_of X G a2, f3, _, F3, b3, PySem.W.mg_of X G a3, f4, _, F4, b4, PySem.W.mg_of X G a4, f5, _, F5, b5, PySem.W.mg_of X G a5, f6, _, F6, b6, PySem.W.mg_of X G a6, f7, _, F7, b7, PySem.W.mg_of X G a7, f8, _, F8, b8, PySem.W.mg_of X G a8, f9, _, F9, b9, PySem.W.mg_of X G a9, f10, _, F10, b10, PySem.W.mg_of X G a10, f11, _, F11, b11, PySem.W.mg_of X G a11, f12, _, F12, b12, PySem.W.mg_of X G a12, f13, _, F13, b13, PySem.W.mg_of X G a13, f14, _, F14, b14, PySem.W.mg_of X G a14, f15, _, F15, b15, PySem.W.mg_of X G a15, f16, _, F16, b16, PySem.W.mg_of X G a16, f17, _, F17, b17, PySem.W.mg_of X G a17, f18, _, F18, b18, PySem.W.mg_of X G a18, f19, _, F19, b19, PySem.W.mg_of X G a19, f20, _, F20, b20, PySem.W.mg_of X G a20, kb1, CBase, PySem.W.mg_of X G ac1, ⟨bsp, bty, brd, bfc⟩, CNoN, PySem.W.mg_of X G ac2, fi2, _, FI2, bI2, ER2, CNotP, PySem.W.mg_of X G ac3, fi3, _, FI3, bI3, ER3, PySem.W.mg_none_of X G z1, PySem.W.mg_none_of X G z2, PySem.W.mg_none_of X G z3, PySem.W.mg_none_of X G z4, PySem.W.mg_none_of X G z5, PySem.W.mg_none_of X G z6, PySem.W.mg_none_of X G z7, PySem.W.mg_none_of X G z8, PySem.W.mg_none_of X G z9, PySem.W.mg_none_of X G z10, PySem.W.mg_none_of X G z11, PySem.W.mg_none_of X G z12, PySem.W.mg_none_of X G z13, PySem.W.mg_none_of X G z14, PySem.W.mg_none_of X G z15⟩
  exact ⟨PySem.W.fnOf "law" "law" (defArgs sLaw) (defBody sLaw) (defScope sLaw) .none kV21 dc21 pm21 an21 cd21 ct21, fun s v => .of_eq rfl, fun base _ _ => ok_law F21 T⟩
end Ef
open PySem PySem.W PyProof.Rows
set_option maxRecDepth 100000 in
set_option maxHeartbeats 0 in
theorem PySem.Challenge.cw_evenfailover_k08_places_and_numbers_holds : PySem.Challenge.rw_evenfailover_k08_places_and_numbers.Holds := by
  w_on; o_law; k_head; (case hw => w_witness2)
  k_fill
  refine Ef.lawG (l := PySem.Challenge.rw_evenfailover_k08_places_and_numbers) (n := 63) (k := 9) (x := "_law_script") (sp := fun w => Ef.spLaw _) rfl (by decide) rfl ⟨rfl, by decide, by decide⟩ (fun w h Y => PySem.W.kIn_of Y) ?F (fun _ _ a ns hl _ hS => ⟨a, ns, rfl, hS, hl, fun _ => rfl⟩)
  case F =>
    intro w mg fa h KX G hmg
    refine' Ef.all_mk KX G hmg ?a1 ?l1 ?c1 ?k1 ?a2 ?l2 ?c2 ?k2 ?a3 ?l3 ?c3 ?k3 ?a4 ?l4 ?c4 ?k4 ?a5 ?l5 ?c5 ?k5 ?a6 ?l6 ?c6 ?k6 ?a7 ?l7 ?c7 ?k7 ?a8 ?l8 ?c8 ?k8 ?a9 ?l9 ?c9 ?k9 ?a10 ?l10 ?c10 ?k10 ?a11 ?l11 ?c11 ?k11 ?a12 ?l12 ?c12 ?k12 ?a13 ?l13 ?c13 ?k13 ?a14 ?l14 ?c14 ?k14 ?a15 ?l15 ?c15 ?k15 ?a16 ?l16 ?c16 ?k16 ?a17 ?l17 ?c17 ?k17 ?a18 ?l18 ?c18 ?k18 ?a19 ?l19 ?c19 ?k19 ?a20 ?l20 ?c20 ?k20 ?a21 ?l21 ?c21 ?k21 ?ac1 ?bsp ?bty ?brd ?bfc ?bex ?bhd ?ac2 ?e2_xL ?e2_sa ?e2_ga ?e2_gg ?e2_nb ?e2_ai ?e2_ti ?e2_li ?e2_ci ?e2_ki ?e2_kC ?e2_eC ?e2_tC ?e2_hC ?e2_cC ?e2_gC ?e2_kk ?e2_mC ?e2_sB ?ac3 ?e3_xL ?e3_sa ?e3_ga ?e3_gg ?e3_nb ?e3_ai ?e3_ti ?e3_li ?e3_ci ?e3_ki ?e3_kC ?e3_eC ?e3_tC ?e3_hC ?e3_cC ?e3_gC ?e3_kk ?e3_mC ?e3_sB ?z1 ?z2 ?z3 ?z4 ?z5 ?z6 ?z7 ?z8 ?z9 ?z10 ?z11 ?z12 ?z13 ?z14 ?z15
    (case a1 => k_is)
    (case l1 => k_is)
    (case c1 => k_is)
    (case k1 => k_is)
    (case a2 => k_is)
    (case l2 => k_is)
    (case c2 => k_is)
    (case k2 => k_is)
    (case a3 => k_is)
    (case l3 => k_is)
    (case c3 => k_is)
    (case k3 => k_is)
    (case a4 => k_is)
    (case l4 => k_is)
    (case c4 => k_is)
    (case k4 => k_is)
    (case a5 => k_is)
    (case l5 => k_is)
    (case c5 => k_is)
    (case k5 => k_is)
    (case a6 => k_is)
    (case l6 => k_is)
    (case c6 => k_is)
    (case k6 => k_is)
    (case a7 => k_is)
    (case l7 => k_is)
    (case c7 => k_is)
    (case k7 => k_is)
    (case a8 => k_is)
    (case l8 => k_is)
    (case c8 => k_is)
    (case k8 => k_is)
    (case a9 => k_is)
    (case l9 => k_is)
    (case c9 => k_is)
    (case k9 => k_is)
    (case a10 => k_is)
    (case l10 => k_is)
    (case c10 => k_is)
    (case k10 => k_is)
    (case a11 => k_is)
    (case l11 => k_is)
    (case c11 => k_is)
    (case k11 => k_is)
    (case a12 => k_is)
    (case l12 => k_is)
    (case c12 => k_is)
    (case k12 => k_is)
    (case a13 => k_is)
    (case l13 => k_is)
    (case c13 => k_is)
    (case k13 => k_is)
    (case a14 => k_is)
    (case l14 => k_is)
    (case c14 => k_is)
    (case k14 => k_is)
    (case a15 => k_is)
    (case l15 => k_is)
    (case c15 => k_is)
    (case k15 => k_is)
    (case a16 => k_is)
    (case l16 => k_is)
    (case c16 => k_is)
    (case k16 => k_is)
    (case a17 => k_is)
    (case l17 => k_is)
    (case c17 => k_is)
    (case k17 => k_is)
    (case a18 => k_is)
    (case l18 => k_is)
    (case c18 => k_is)
    (case k18 => k_is)
    (case a19 => k_is)
    (case l19 => k_is)
    (case c19 => k_is)
    (case k19 => k_is)
    (case a20 => k_is)
    (case l20 => k_is)
    (case c20 => k_is)
    (case k20 => k_is)
    (case a21 => k_is)
    (case l21 => k_is)
    (case c21 => k_is)
    (case k21 => k_is)
    (case ac1 => k_is)
    (case bsp => k_is)
    (case bty => k_is)
    (case brd => k_is)
    (case bfc => k_is)
    (case bex => k_is)
    (case bhd => k_is)
    (case ac2 => k_is)
    (case e2_xL => k_is)
    (case e2_sa => k_is)
    (case e2_ga => k_is)
    (case e2_gg => k_is)
    (case e2_nb => k_is)
    (case e2_ai => k_is)
    (case e2_ti => k_is)
    (case e2_li => k_is)
    (case e2_ci => k_is)
    (case e2_ki => k_is)
    (case e2_kC => k_is)
    (case e2_eC => k_is)
    (case e2_tC => k_is)
    (case e2_hC => k_is)
    (case e2_cC => k_is)
    (case e2_gC => k_is)
    (case e2_kk => k_is)
    (case e2_mC => k_is)
    (case e2_sB => first | k_is | rfl | k_exc | kernel_rfl)
    (case ac3 => k_is)
    (case e3_xL => k_is)
    (case e3_sa => k_is)
    (case e3_ga => k_is)
    (case e3_gg => k_is)
    (case e3_nb => k_is)
    (case e3_ai => k_is)
    (case e3_ti => k_is)
    (case e3_li => k_is)
    (case e3_ci => k_is)
    (case e3_ki => k_is)
    (case e3_kC => k_is)
    (case e3_eC => k_is)
    (case e3_tC => k_is)
    (case e3_hC => k_is)
    (case e3_cC => k_is)
    (case e3_gC => k_is)
    (case e3_kk => k_is)
    (case e3_mC => k_is)
    (case e3_sB => first | k_is | rfl | k_exc | kernel_rfl)
    (case z1 => k_is)
    (case z2 => k_is)
    (case z3 => k_is)
    (case z4 => k_is)
    (case z5 => k_is)
    (case z6 => k_is)
    (case z7 => k_is)
    (case z8 => k_is)
    (case z9 => k_is)
    (case z10 => k_is)
    (case z11 => k_is)
    (case z12 => k_is)
    (case z13 => k_is)
    (case z14 => k_is)
    (case z15 => k_is)

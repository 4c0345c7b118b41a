import PyProof.Rows.All
import Wide.All
import OpenK.AllK
import Wide.FinOn
import HandS.ForMost
import HandS.RaiseMore
import HandS.Strs
import HandS.SetFor
import HandS.Conv
import HandS.Wide
import HandS.IsInst
import HandS.Codes
import HandS.TupAny
import HandS.ForExc
import HandS.ExcInit
import HandS.ExcField
import HandS.ExcIs
import HandS.ExcOwn
import HandS.TupSets
import HandS.Walk
import HandS.RevRange
import HandS.Rev
import HandS.Style
import HandS.DictComp
import KE.GoesMore
import HandS.Strs
import HandS.TupAny
import KE.KTupSum
import HandS.Deep
import KE.SortData
import HandS.Comp
import PyProof.NeKinds
import PyProof.EqKinds
import KE.KeyNested
import HandS.DictSubView
import HandS.TupLen
import KE.KDictSum
import KE.KDictWalk
import KE.KDictList
import HandS.SortKw
import KE.DataMinMax
import PySem.Challenge.RW_evenfailover_k22_witnesses_of_any_value
set_option Elab.async false
set_option linter.all false
set_option maxRecDepth 100000
set_option maxHeartbeats 4000000
namespace Ef
/-- Pascal's triangle -/
def C : Nat → Nat → Nat
  | _, 0 => 1
  | 0, _ + 1 => 0
  | n + 1, k + 1 => C n k + C n (k + 1)
theorem C_zero (n : Nat) : C n 0 = 1 := by cases n <;> rfl
theorem C_zs (k : Nat) : C 0 (k + 1) = 0 := rfl
theorem C_ss (n k : Nat) : C (n + 1) (k + 1) = C n k + C n (k + 1) := rfl
theorem C_big : ∀ (n k : Nat), n < k → C n k = 0
  | 0, k + 1, _ => rfl
  | n + 1, k + 1, h => by
    rw [C_ss, C_big n k (by omega), C_big n (k + 1) (by omega)]
theorem C_self : ∀ n : Nat, C n n = 1
  | 0 => rfl
  | n + 1 => by rw [C_ss, C_self n, C_big n (n + 1) (by omega)]
theorem C_absorb : ∀ (n k : Nat), C (n + 1) (k + 1) * (k + 1) = (n + 1) * C n k
  | 0, 0 => rfl
  | 0, k + 1 => by
    rw [C_ss, C_zs, C_zs]; simp
  | n + 1, 0 => by
    have h := C_absorb n 0
    rw [C_zero] at h
    rw [C_ss, C_zero]
    omega
  | n + 1, j + 1 => by
    have h1 := C_absorb n j
    have h2 := C_absorb n (j + 1)
    have e : C (n + 1) (j + 1) = C n j + C n (j + 1) := C_ss n j
    rw [C_ss (n + 1) (j + 1)]
    have a1 : (C (n + 1) (j + 1) + C (n + 1) (j + 1 + 1)) * (j + 1 + 1) = C (n + 1) (j + 1) * (j + 1) + C (n + 1) (j + 1) + C (n + 1) (j + 1 + 1) * (j + 1 + 1) := by
      rw [Nat.add_mul, Nat.mul_succ (C (n + 1) (j + 1)) (j + 1)]
    rw [a1, h1, h2]
    have a2 : (n + 1 + 1) * C (n + 1) (j + 1) = (n + 1) * C (n + 1) (j + 1) + C (n + 1) (j + 1) := Nat.succ_mul _ _
    rw [a2]
    have a3 : (n + 1) * C (n + 1) (j + 1) = (n + 1) * C n j + (n + 1) * C n (j + 1) := by rw [e, Nat.mul_add]
    rw [a3]
    omega
theorem C_step (n k : Nat) (h : k ≤ n) : C n (k + 1) * (k + 1) = C n k * (n - k) := by
  have h1 := C_absorb n k
  rw [C_ss, Nat.add_mul] at h1
  have h2 : (n + 1) * C n k = C n k * (k + 1) + C n k * (n - k) := by
    rw [← Nat.mul_add, Nat.mul_comm]
    congr 1
    omega
  omega
theorem C_symm : ∀ (n k : Nat), k ≤ n → C n k = C n (n - k)
  | n, 0, _ => by rw [C_zero, Nat.sub_zero, C_self]
  | n + 1, k + 1, h => by
    by_cases e : k = n
    · subst e
      rw [C_self, Nat.sub_self, C_zero]
    · have e1 : n + 1 - (k + 1) = (n - (k + 1)) + 1 := by omega
      rw [e1, C_ss, C_ss, ← C_symm n (k + 1) (by omega), show n - (k + 1) + 1 = n - k by omega, ← C_symm n k (by omega), Nat.add_comm]
theorem C_le : ∀ (n k : Nat), C n k ≤ 2 ^ n
  | n, 0 => by rw [C_zero]; exact Nat.one_le_two_pow
  | 0, k + 1 => by rw [C_zs]; exact Nat.zero_le _
  | n + 1, k + 1 => by
    have a := C_le n k
    have b := C_le n (k + 1)
    rw [C_ss, Nat.pow_succ]
    omega
theorem C_pos : ∀ (n k : Nat), k ≤ n → 0 < C n k
  | n, 0, _ => by rw [C_zero]; decide
  | n + 1, k + 1, h => by
    rw [C_ss]
    have := C_pos n k (by omega)
    omega
theorem C_min (n k : Nat) (h : k ≤ n) : C n (min k (n - k)) = C n k := by
  by_cases e : k ≤ n - k
  · rw [Nat.min_eq_left e]
  · rw [Nat.min_eq_right (by omega), ← C_symm n k h]
theorem C_60 (n k : Nat) (h : n ≤ 60) : C n k ≤ 1152921504606846976 := Nat.le_trans (C_le n k) (Nat.le_trans (Nat.pow_le_pow_right (by decide) h) (by decide))
/-- what the program's binomial answers -/
def binZ (n k : Int) : Int := if k < 0 ∨ n < k then 0 else (C n.toNat k.toNat : Int)
theorem binZ_nat (n k : Nat) : binZ n k = (C n k : Int) := by
  unfold binZ
  by_cases h : n < k
  · rw [if_pos (by omega), C_big n k h]; rfl
  · rw [if_neg (by omega)]; simp
/-- one step of its product -/
theorem C_div (n s : Nat) (h : s < n) : ((C n s : Int) * ((n : Int) + 1 - (1 + (s : Int)))) / (1 + (s : Int)) = (C n (s + 1) : Int) := by
  have e : (C n s : Int) * ((n : Int) + 1 - (1 + (s : Int))) = (C n (s + 1) : Int) * (1 + (s : Int)) := by
    have h1 := C_step n s (by omega)
    have h2 : ((n : Int) + 1 - (1 + (s : Int))) = ((n - s : Nat) : Int) := by omega
    have h3 : (1 + (s : Int)) = ((s + 1 : Nat) : Int) := by omega
    rw [h2, h3, ← Int.natCast_mul, ← Int.natCast_mul, h1]
  rw [e]
  exact Int.mul_ediv_cancel _ (by omega)
end Ef
namespace Ef
/-! ### the least numbers of lists -/
def stepL (a b : Nat) : Nat := a / Nat.gcd a b * b
def leastL (n : Nat) : Nat → Nat
  | 0 => 1
  | d + 1 => stepL (leastL n d) (n * C (n - 1) d)
theorem stepL_pos {a b : Nat} (ha : 0 < a) (hb : 0 < b) : 0 < stepL a b := by
  unfold stepL
  have h1 : Nat.gcd a b ≤ a := Nat.gcd_le_left b ha
  have h2 : 0 < Nat.gcd a b := Nat.gcd_pos_of_pos_left b ha
  exact Nat.mul_pos (Nat.div_pos h1 h2) hb
theorem edge_pos {n d : Nat} (h : d < n) : 0 < n * C (n - 1) d := Nat.mul_pos (by omega) (C_pos _ _ (by omega))
theorem leastL_pos {n : Nat} : ∀ {d : Nat}, d ≤ n → 0 < leastL n d
  | 0, _ => Nat.one_pos
  | d + 1, h => stepL_pos (leastL_pos (by omega)) (edge_pos (by omega))
theorem C_adj : ∀ (n k : Nat), C n k + C n (k + 1) ≤ 2 ^ n
  | 0, 0 => by decide
  | 0, k + 1 => by
    rw [C_zs, C_zs]
    decide
  | n + 1, 0 => by
    have h := C_adj n 0
    have h1 : 1 ≤ 2 ^ n := Nat.one_le_two_pow
    rw [C_zero] at h
    rw [C_ss, C_zero, C_zero, Nat.pow_succ]
    omega
  | n + 1, j + 1 => by
    have h := C_adj n j
    have h2 := C_adj n (j + 1)
    rw [C_ss, C_ss, Nat.pow_succ]
    omega
theorem C_half (n k : Nat) (h : 1 ≤ n) : C n k ≤ 2 ^ (n - 1) := by
  obtain ⟨m, rfl⟩ : ∃ m, n = m + 1 := ⟨n - 1, by omega⟩
  cases k with
  | zero =>
    rw [C_zero]
    exact Nat.one_le_two_pow
  | succ k => exact C_adj m k
theorem edge_lt {n d : Nat} (h : n ≤ 60) : n * C (n - 1) d < 18446744073709551616 := by
  by_cases h1 : n ≤ 1
  · have e : n - 1 = 0 := by omega
    have h2 : C (n - 1) d ≤ 2 ^ 0 := by rw [e]; exact C_le 0 d
    exact Nat.lt_of_le_of_lt (Nat.mul_le_mul h1 h2) (by decide)
  · have h2 : C (n - 1) d ≤ 2 ^ 58 := Nat.le_trans (C_half (n - 1) d (by omega)) (Nat.pow_le_pow_right (by decide) (by omega))
    exact Nat.lt_of_le_of_lt (Nat.mul_le_mul h h2) (by decide)
/-! rows of the triangle, reckoned one from the other -/
def nextRow : List Nat → List Nat := fun r => 1 :: List.zipWith (· + ·) r r.tail
def isRow (n : Nat) (r : List Nat) : Prop := ∀ k, k ≤ 60 → r[k]? = some (C n k)
theorem nextRow_is {n : Nat} {r : List Nat} (h : isRow n r) : ∀ k, k ≤ 60 → (nextRow r)[k]? = some (C (n + 1) k)
  | 0, _ => by
    rw [C_zero]
    rfl
  | k + 1, hk => by
    have h1 := h k (by omega)
    have h2 := h (k + 1) hk
    unfold nextRow
    rw [List.getElem?_cons_succ, List.getElem?_zipWith, h1, List.getElem?_tail, h2]
    rfl
def row0 : List Nat := 1 :: List.replicate 60 0
theorem row0_is : isRow 0 row0 := fun k hk => by
  cases k with
  | zero => rfl
  | succ k =>
    unfold row0
    rw [List.getElem?_cons_succ, List.getElem?_replicate, if_pos (by omega)]
    rfl
/-- P holds along the chain of least numbers: f of each -/
def chainOk (n : Nat) (f : Nat → Nat → Bool) : Nat → Nat → Nat → List Nat → Bool
  | 0, d, a, _ => f d a
  | m + 1, d, a, c :: r => f d a && chainOk n f m (d + 1) (stepL a (n * c)) r
  | _ + 1, _, _, [] => false
theorem chain_all {n : Nat} {f : Nat → Nat → Bool} {row : List Nat} (hr : isRow (n - 1) row) (hn : n ≤ 60) : ∀ (m d : Nat), d + m = n → chainOk n f m d (leastL n d) (row.drop d) = true → ∀ e, d ≤ e → e ≤ n → f e (leastL n e) = true
  | 0, d, h, ok, e, h1, h2 => by
    have e1 : e = d := by omega
    subst e1
    exact ok
  | m + 1, d, h, ok, e, h1, h2 => by
    have hd := hr d (by omega)
    have hlt : d < row.length := (List.getElem?_eq_some_iff.mp hd).1
    have hdr : row.drop d = C (n - 1) d :: row.drop (d + 1) := by
      rw [List.drop_eq_getElem_cons hlt]
      congr 1
      rw [List.getElem?_eq_getElem hlt] at hd
      exact Option.some.inj hd
    rw [hdr] at ok
    have ok2 : (f d (leastL n d) && chainOk n f m (d + 1) (leastL n (d + 1)) (row.drop (d + 1))) = true := ok
    rw [Bool.and_eq_true] at ok2
    by_cases c : e = d
    · rw [c]
      exact ok2.1
    · exact chain_all hr hn m (d + 1) (by omega) ok2.2 e (by omega) h2
def rowsOk (f : Nat → Nat → Nat → Bool) : Nat → Nat → List Nat → Bool
  | 0, _, _ => true
  | m + 1, n, row => chainOk n (f n) n 0 1 row && rowsOk f m (n + 1) (nextRow row)
theorem rows_all {f : Nat → Nat → Nat → Bool} : ∀ (m n : Nat) (row : List Nat), isRow (n - 1) row → 1 ≤ n → rowsOk f m n row = true → ∀ k, n ≤ k → k < n + m → k ≤ 60 → ∀ d, d ≤ k → f k d (leastL k d) = true
  | 0, _, _, _, _, _, k, h1, h2, _, _, _ => by omega
  | m + 1, n, row, hr, h0, ok, k, h1, h2, h6, d, hd => by
    have ok2 : (chainOk n (f n) n 0 1 row && rowsOk f m (n + 1) (nextRow row)) = true := ok
    rw [Bool.and_eq_true] at ok2
    by_cases c : k = n
    · subst c
      exact chain_all hr h6 k 0 (by omega) ok2.1 d (by omega) hd
    · have hr2 : isRow (n + 1 - 1) (nextRow row) := fun j hj => by
        have e : n + 1 - 1 = (n - 1) + 1 := by omega
        rw [e]
        exact nextRow_is hr j hj
      exact rows_all m (n + 1) (nextRow row) hr2 (by omega) ok2.2 k (by omega) (by omega) h6 d hd
theorem small_ok : rowsOk (fun _ _ a => Nat.blt a (2 ^ 100)) 60 1 row0 = true := by decide +kernel
theorem leastL_lt {n d : Nat} (h1 : 1 ≤ n) (h6 : n ≤ 60) (hd : d ≤ n) : leastL n d < 2 ^ 100 := by
  have h := rows_all 60 1 row0 row0_is (by decide) small_ok n h1 (by omega) h6 d hd
  have h2 : Nat.blt (leastL n d) (2 ^ 100) = true := h
  rw [Nat.blt_eq] at h2
  exact h2
end Ef
namespace Ef
/-! ### the standard table -/
theorem stepL_left (a b : Nat) (ha : 0 < a) : a ∣ stepL a b := by
  unfold stepL
  have h1 : Nat.gcd a b ∣ a := Nat.gcd_dvd_left a b
  have h2 : Nat.gcd a b ∣ b := Nat.gcd_dvd_right a b
  refine ⟨b / Nat.gcd a b, ?_⟩
  obtain ⟨x, hx⟩ := h1
  obtain ⟨y, hy⟩ := h2
  have g0 : 0 < Nat.gcd a b := Nat.gcd_pos_of_pos_left b ha
  generalize Nat.gcd a b = g at hx hy g0
  subst hx hy
  rw [Nat.mul_div_cancel_left _ g0, Nat.mul_div_cancel_left _ g0, Nat.mul_comm g x, Nat.mul_assoc]
theorem stepL_right (a b : Nat) : b ∣ stepL a b := ⟨a / Nat.gcd a b, Nat.mul_comm _ _⟩
theorem leastL_dvd {n : Nat} : ∀ {d : Nat}, d ≤ n → ∀ b, b < d → n * C (n - 1) b ∣ leastL n d
  | 0, _, b, h => by omega
  | d + 1, hd, b, h => by
    by_cases e : b = d
    · subst e
      exact stepL_right _ _
    · exact Nat.dvd_trans (leastL_dvd (by omega) b (by omega)) (stepL_left _ _ (leastL_pos (by omega)))
/-- width of a block at a level -/
def wd (n c s : Nat) : Nat := c / (n * C (n - 1) s)
theorem wd_eq {n c s : Nat} (h : n * C (n - 1) s ∣ c) : wd n c s * (n * C (n - 1) s) = c := Nat.div_mul_cancel h
theorem wd_pos {n c s : Nat} (h : n * C (n - 1) s ∣ c) (hc : 0 < c) : 0 < wd n c s := by
  have e := wd_eq h
  cases z : wd n c s with
  | zero =>
    rw [z, Nat.zero_mul] at e
    omega
  | succ k => omega
theorem wd_step {n c b : Nat} (h1 : n * C (n - 1) b ∣ c) (h2 : n * C (n - 1) (b + 1) ∣ c) (hb : b + 1 < n) : wd n c b * (b + 1) = wd n c (b + 1) * (n - (b + 1)) := by
  have e1 := wd_eq h1
  have e2 := wd_eq h2
  have s := C_step (n - 1) b (by omega)
  have p : 0 < n * C (n - 1) b := edge_pos (by omega)
  have x1 : wd n c b * (b + 1) * (n * C (n - 1) b) = c * (b + 1) := by
    rw [Nat.mul_right_comm, e1]
  have x2 : wd n c (b + 1) * (n - (b + 1)) * (n * C (n - 1) b) = c * (b + 1) := by
    have y : wd n c (b + 1) * (n * C (n - 1) (b + 1)) * (b + 1) = c * (b + 1) := by rw [e2]
    rw [← y, Nat.mul_assoc, Nat.mul_assoc (wd n c (b + 1)), Nat.mul_assoc n, s, show n - 1 - b = n - (b + 1) by omega]
    congr 1
    rw [Nat.mul_comm (n - (b + 1)), Nat.mul_assoc]
  exact Nat.eq_of_mul_eq_mul_right p (x1.trans x2.symm)
theorem wd_zero {n c : Nat} (h : n * C (n - 1) 0 ∣ c) : wd n c 0 * n = c := by
  have e := wd_eq h
  rw [C_zero, Nat.mul_one] at e
  exact e
theorem wd_le (n c s : Nat) : wd n c s ≤ c := Nat.div_le_self _ _
/-- what 'follow' takes and what it leaves -/
def fol (n c : Nat) : List Nat → List Nat → Nat → List Nat × Nat
  | [], _, r => ([], r)
  | s :: ss, L, r => (L.getD (r / wd n c s) 0 :: (fol n c ss (L.eraseIdx (r / wd n c s)) (wd n c s * (L.getD (r / wd n c s) 0 - r / wd n c s) + r % wd n c s)).1,
      (fol n c ss (L.eraseIdx (r / wd n c s)) (wd n c s * (L.getD (r / wd n c s) 0 - r / wd n c s) + r % wd n c s)).2)
def FolOk (n c : Nat) : List Nat → List Nat → Nat → Prop
  | [], _, _ => True
  | s :: ss, L, r => 0 < wd n c s ∧ r / wd n c s < L.length ∧ r / wd n c s ≤ L.getD (r / wd n c s) 0 ∧
      FolOk n c ss (L.eraseIdx (r / wd n c s)) (wd n c s * (L.getD (r / wd n c s) 0 - r / wd n c s) + r % wd n c s)
theorem fol_cons (n c s : Nat) (ss L : List Nat) (r : Nat) : fol n c (s :: ss) L r = (L.getD (r / wd n c s) 0 :: (fol n c ss (L.eraseIdx (r / wd n c s)) (wd n c s * (L.getD (r / wd n c s) 0 - r / wd n c s) + r % wd n c s)).1, (fol n c ss (L.eraseIdx (r / wd n c s)) (wd n c s * (L.getD (r / wd n c s) 0 - r / wd n c s) + r % wd n c s)).2) := rfl
theorem fol_len (n c : Nat) : ∀ ss L r, (fol n c ss L r).1.length = ss.length
  | [], _, _ => rfl
  | s :: ss, L, r => congrArg (· + 1) (fol_len n c ss _ _)
/-- ascending -/
abbrev Asc (L : List Nat) : Prop := L.Pairwise (· < ·)
theorem getD_of {L : List Nat} {i : Nat} (h : i < L.length) : L[i]? = some (L.getD i 0) := by
  rw [List.getD_eq_getElem?_getD, List.getElem?_eq_getElem h]
  rfl
/-- an ascending list counted from lo -/
theorem asc_from : ∀ {L : List Nat} {lo : Nat}, Asc L → (∀ x ∈ L, lo ≤ x) → ∀ {i x : Nat}, L[i]? = some x → lo + i ≤ x
  | [], _, _, _, _, _, h => by cases h
  | y :: L, lo, a, hl, 0, x, h => by
    obtain rfl : y = x := Option.some.inj h
    exact hl y List.mem_cons_self
  | y :: L, lo, a, hl, i + 1, x, h => by
    have h1 : L[i]? = some x := h
    have hy := hl y List.mem_cons_self
    have h2 := asc_from (L := L) (lo := lo + 1) (List.pairwise_cons.mp a).2 (fun z hz => by
      have := (List.pairwise_cons.mp a).1 z hz
      omega) h1
    omega
theorem asc_ge {L : List Nat} (a : Asc L) {i x : Nat} (h : L[i]? = some x) : i ≤ x := by
  have := asc_from a (lo := 0) (fun _ _ => Nat.zero_le _) h
  omega
theorem asc_le : ∀ {L : List Nat} {n : Nat}, Asc L → (∀ x ∈ L, x < n) → ∀ {i x : Nat}, L[i]? = some x → x + (L.length - i) ≤ n
  | [], _, _, _, _, _, h => by cases h
  | [y], n, _, hl, 0, x, h => by
    obtain rfl : y = x := Option.some.inj h
    have := hl y List.mem_cons_self
    show y + 1 ≤ n
    omega
  | y :: z :: L, n, a, hl, 0, x, h => by
    obtain rfl : y = x := Option.some.inj h
    have h1 := asc_le (L := z :: L) (List.pairwise_cons.mp a).2 (fun u hu => hl u (List.mem_cons_of_mem _ hu)) (i := 0) (x := z) rfl
    have h2 := (List.pairwise_cons.mp a).1 z List.mem_cons_self
    have e : (y :: z :: L).length = (z :: L).length + 1 := rfl
    omega
  | y :: L, n, a, hl, i + 1, x, h => by
    have h1 := asc_le (L := L) (List.pairwise_cons.mp a).2 (fun u hu => hl u (List.mem_cons_of_mem _ hu)) (i := i) (x := x) h
    have e : (y :: L).length = L.length + 1 := rfl
    omega
theorem asc_erase {L : List Nat} (a : Asc L) (i : Nat) : Asc (L.eraseIdx i) := a.sublist (List.eraseIdx_sublist L i)
/-- the way forward keeps within its bounds -/
theorem folOk_path {n c d : Nat} (hd : ∀ b, b < d → n * C (n - 1) b ∣ c) (hc : 0 < c) (hdn : d ≤ n) : ∀ (m b : Nat) (L : List Nat) (r : Nat), b + m = d → Asc L → (∀ x ∈ L, x < n) → L.length = n - b → (b < d → r < wd n c b * (n - b)) → FolOk n c (List.range' b m) L r
  | 0, _, _, _, _, _, _, _, _ => trivial
  | m + 1, b, L, r, e, a, hl, hlen, hr => by
    have hb := hd b (by omega)
    have w0 := wd_pos hb hc
    have hr2 := hr (by omega)
    have hi : r / wd n c b < L.length := by
      rw [hlen]
      exact Nat.div_lt_of_lt_mul hr2
    have hx := getD_of hi
    have g1 := asc_ge a hx
    have g2 := asc_le a hl hx
    refine ⟨w0, hi, g1, ?_⟩
    refine folOk_path hd hc hdn m (b + 1) _ _ (by omega) (asc_erase a _) (fun x hx => hl x (List.mem_of_mem_eraseIdx hx)) ?_ (fun hlt => ?_)
    · rw [List.length_eraseIdx, if_pos hi]
      omega
    · rw [← wd_step hb (hd (b + 1) hlt) (by omega)]
      have h1 : r % wd n c b < wd n c b := Nat.mod_lt _ w0
      have h2 : L.getD (r / wd n c b) 0 - r / wd n c b ≤ b := by omega
      have h3 : wd n c b * (L.getD (r / wd n c b) 0 - r / wd n c b) ≤ wd n c b * b := Nat.mul_le_mul_left _ h2
      rw [Nat.mul_add, Nat.mul_one]
      omega
/-- count of lists and depth that go together -/
structure Std (n d c : Nat) : Prop where
  n60 : n ≤ 60
  n1 : 1 ≤ n
  dn : d ≤ n
  c0 : 0 < c
  dv : leastL n d ∣ c
theorem Std.dvd {n d c : Nat} (h : Std n d c) (b : Nat) (hb : b < d) : n * C (n - 1) b ∣ c := Nat.dvd_trans (leastL_dvd h.dn b hb) h.dv
def path (n d c k : Nat) : List Nat × Nat := fol n c (List.range' 0 d) (List.range' 0 n) k
theorem asc_range' : ∀ (m b : Nat), Asc (List.range' b m) := fun m b => List.pairwise_lt_range'
theorem mem_range0 {n x : Nat} : x ∈ List.range' 0 n ↔ x < n := by
  rw [List.mem_range']
  exact ⟨fun ⟨i, h1, h2⟩ => by omega, fun h => ⟨x, h, by omega⟩⟩
theorem path_ok {n d c k : Nat} (h : Std n d c) (hk : k < c) : FolOk n c (List.range' 0 d) (List.range' 0 n) k :=
  folOk_path h.dvd h.c0 h.dn d 0 _ _ (by omega) (asc_range' n 0) (fun x hx => mem_range0.mp hx) (by rw [List.length_range']; omega) fun hd => by
    rw [Nat.sub_zero, wd_zero (h.dvd 0 hd)]
    exact hk
theorem fol_mem {n c : Nat} : ∀ {ss L : List Nat} {r : Nat}, FolOk n c ss L r → ∀ x ∈ (fol n c ss L r).1, x ∈ L
  | [], _, _, _, x, hx => by cases hx
  | s :: ss, L, r, ok, x, hx => by
    rw [fol_cons] at hx
    obtain ⟨_, h2, _, ok2⟩ := ok
    rcases List.mem_cons.mp hx with rfl | hx
    · exact List.mem_of_getElem? (getD_of h2)
    · exact List.mem_of_mem_eraseIdx (fol_mem ok2 x hx)
theorem nodup_inj {L : List Nat} (hn : L.Nodup) {i j x : Nat} (h1 : L[i]? = some x) (h2 : L[j]? = some x) : i = j := by
  obtain ⟨a1, a2⟩ := List.getElem?_eq_some_iff.mp h1
  obtain ⟨b1, b2⟩ := List.getElem?_eq_some_iff.mp h2
  rcases Nat.lt_trichotomy i j with c | c | c
  · exact absurd (a2.trans b2.symm) (List.pairwise_iff_getElem.mp hn i j a1 b1 c)
  · exact c
  · exact absurd (b2.trans a2.symm) (List.pairwise_iff_getElem.mp hn j i b1 a1 c)
theorem not_mem_erase {L : List Nat} {i x : Nat} (hn : L.Nodup) (h : L[i]? = some x) : x ∉ L.eraseIdx i := by
  intro hm
  obtain ⟨k, hk⟩ := List.getElem?_of_mem hm
  rw [List.getElem?_eraseIdx] at hk
  split at hk
  · have := nodup_inj hn hk h
    omega
  · have := nodup_inj hn hk h
    omega
theorem fol_nodup {n c : Nat} : ∀ {ss L : List Nat} {r : Nat}, FolOk n c ss L r → L.Nodup → (fol n c ss L r).1.Nodup
  | [], _, _, _, _ => List.nodup_nil
  | s :: ss, L, r, ok, hn => by
    rw [fol_cons]
    obtain ⟨_, h2, _, ok2⟩ := ok
    refine List.nodup_cons.mpr ⟨fun hx => not_mem_erase hn (getD_of h2) (fol_mem ok2 _ hx), fol_nodup ok2 (hn.sublist (List.eraseIdx_sublist _ _))⟩
theorem asc_nodup {L : List Nat} (h : Asc L) : L.Nodup := h.imp fun z => Nat.ne_of_lt z
theorem path_nodup {n d c k : Nat} (h : Std n d c) (hk : k < c) : (path n d c k).1.Nodup := fol_nodup (path_ok h hk) (asc_nodup (asc_range' n 0))
theorem path_lt {n d c k : Nat} (h : Std n d c) (hk : k < c) : ∀ x ∈ (path n d c k).1, x < n := fun x hx => mem_range0.mp (fol_mem (path_ok h hk) x hx)
theorem path_len (n d c k : Nat) : (path n d c k).1.length = d := by
  unfold path
  rw [fol_len, List.length_range']
theorem fol_rest {n c d : Nat} (hd : ∀ b, b < d → n * C (n - 1) b ∣ c) (hc : 0 < c) (hdn : d ≤ n) : ∀ (m b : Nat) (L : List Nat) (r : Nat), b + m = d → Asc L → (∀ x ∈ L, x < n) → L.length = n - b → (b < d → r < wd n c b * (n - b)) → r < c → (fol n c (List.range' b m) L r).2 < c
  | 0, _, _, _, _, _, _, _, _, h => h
  | m + 1, b, L, r, e, a, hl, hlen, hr, h => by
    have hb := hd b (by omega)
    have w0 := wd_pos hb hc
    have hr2 := hr (by omega)
    have hi : r / wd n c b < L.length := by
      rw [hlen]
      exact Nat.div_lt_of_lt_mul hr2
    have hx := getD_of hi
    have g1 := asc_ge a hx
    have g2 := asc_le a hl hx
    have h1 : r % wd n c b < wd n c b := Nat.mod_lt _ w0
    have h2 : L.getD (r / wd n c b) 0 - r / wd n c b ≤ b := by omega
    have h3 : wd n c b * (L.getD (r / wd n c b) 0 - r / wd n c b) ≤ wd n c b * b := Nat.mul_le_mul_left _ h2
    have h4 : wd n c b * (L.getD (r / wd n c b) 0 - r / wd n c b) + r % wd n c b < wd n c b * (b + 1) := by
      rw [Nat.mul_add, Nat.mul_one]
      omega
    have h5 : wd n c b * (b + 1) ≤ c := by
      have p : 0 < C (n - 1) b := C_pos _ _ (by omega)
      have p2 : b + 1 ≤ n * C (n - 1) b := Nat.le_trans (show b + 1 ≤ n * 1 by omega) (Nat.mul_le_mul_left n p)
      have := Nat.mul_le_mul_left (wd n c b) p2
      rw [wd_eq hb] at this
      exact this
    rw [List.range'_succ, fol_cons]
    refine fol_rest hd hc hdn m (b + 1) _ _ (by omega) (asc_erase a _) (fun x hx => hl x (List.mem_of_mem_eraseIdx hx)) ?_ (fun hlt => ?_) (by omega)
    · rw [List.length_eraseIdx, if_pos hi]
      omega
    · rw [← wd_step hb (hd (b + 1) hlt) (by omega)]
      exact h4
theorem path_rest {n d c k : Nat} (h : Std n d c) (hk : k < c) : (path n d c k).2 < c :=
  fol_rest h.dvd h.c0 h.dn d 0 _ _ (by omega) (asc_range' n 0) (fun x hx => mem_range0.mp hx) (by rw [List.length_range']; omega) (fun hd => by
    rw [Nat.sub_zero, wd_zero (h.dvd 0 hd)]
    exact hk) hk
theorem asc_unique {L M : List Nat} (a : Asc L) (b : Asc M) (p : L.Perm M) : L = M :=
  List.Perm.eq_of_pairwise (le := (· ≤ ·)) (fun a b _ _ h1 h2 => Nat.le_antisymm h1 h2) (a.imp fun z => Nat.le_of_lt z) (b.imp fun z => Nat.le_of_lt z) p
theorem std_of {n d : Nat} (h6 : n ≤ 60) (h1 : 1 ≤ n) (hd : d ≤ n) (q : Nat) (hq : 0 < q) : Std n d (leastL n d * q) := ⟨h6, h1, hd, Nat.mul_pos (leastL_pos hd) hq, ⟨q, rfl⟩⟩
/-! what stands outside a set, and the places in it -/
theorem below_at : ∀ {M : List Nat}, Asc M → ∀ {j s : Nat}, M[j]? = some s → (M.filter fun x => decide (x < s)).length = j
  | [], _, _, _, h => by cases h
  | y :: M, a, 0, s, h => by
    obtain rfl : y = s := Option.some.inj h
    rw [List.filter_cons_of_neg (by simp), List.filter_eq_nil_iff.mpr]
    · rfl
    · intro x hx
      have := (List.pairwise_cons.mp a).1 x hx
      simp
      omega
  | y :: M, a, j + 1, s, h => by
    have h1 : M[j]? = some s := h
    have h2 := (List.pairwise_cons.mp a).1 s (List.mem_of_getElem? h1)
    rw [List.filter_cons_of_pos (by simpa using h2)]
    exact congrArg (· + 1) (below_at (List.pairwise_cons.mp a).2 h1)
/-- L: the servers outside I, ascending -/
structure Compl (n : Nat) (I L : List Nat) : Prop where
  aI : Asc I
  aL : Asc L
  bI : ∀ x ∈ I, x < n
  mem : ∀ x, x ∈ L ↔ x < n ∧ x ∉ I
theorem Compl.count {n : Nat} {I L : List Nat} (h : Compl n I L) {i s : Nat} (e : L[i]? = some s) : (I.filter fun x => decide (x < s)).length + i = s := by
  have hs := (h.mem s).mp (List.mem_of_getElem? e)
  have p : ((I.filter fun x => decide (x < s)) ++ (L.filter fun x => decide (x < s))).Perm (List.range' 0 s) := by
    refine (List.perm_ext_iff_of_nodup ?_ (asc_nodup (asc_range' s 0))).mpr fun x => ?_
    · refine List.nodup_append.mpr ⟨(asc_nodup h.aI).filter _, (asc_nodup h.aL).filter _, fun x hx y hy e2 => ?_⟩
      subst e2
      exact ((h.mem x).mp (List.mem_filter.mp hy).1).2 (List.mem_filter.mp hx).1
    · rw [List.mem_append, List.mem_filter, List.mem_filter, mem_range0, h.mem]
      simp only [decide_eq_true_eq]
      constructor
      · rintro (⟨_, h⟩ | ⟨_, h⟩) <;> exact h
      · intro hx
        by_cases c : x ∈ I
        · exact .inl ⟨c, hx⟩
        · exact .inr ⟨⟨by omega, c⟩, hx⟩
  have l := p.length_eq
  rw [List.length_append, below_at h.aL e, List.length_range'] at l
  exact l
theorem Compl.start (n : Nat) : Compl n [] (List.range' 0 n) := ⟨List.Pairwise.nil, asc_range' n 0, fun x hx => absurd hx List.not_mem_nil, fun x => by rw [mem_range0]; simp⟩
theorem Compl.next {n : Nat} {I L I' : List Nat} (h : Compl n I L) {i s : Nat} (e : L[i]? = some s) (hp : I'.Perm (I ++ [s])) (ha : Asc I') : Compl n I' (L.eraseIdx i) := by
  have hs := (h.mem s).mp (List.mem_of_getElem? e)
  refine ⟨ha, asc_erase h.aL i, fun x hx => ?_, fun x => ?_⟩
  · rcases List.mem_append.mp (hp.mem_iff.mp hx) with hx | hx
    · exact h.bI x hx
    · rw [List.mem_singleton.mp hx]
      exact hs.1
  · constructor
    · intro hx
      have h1 := (h.mem x).mp (List.mem_of_mem_eraseIdx hx)
      refine ⟨h1.1, fun hx2 => ?_⟩
      rcases List.mem_append.mp (hp.mem_iff.mp hx2) with z | z
      · exact h1.2 z
      · rw [List.mem_singleton.mp z] at hx
        exact not_mem_erase (asc_nodup h.aL) e hx
    · rintro ⟨h1, h2⟩
      have h3 : x ∉ I := fun z => h2 (hp.mem_iff.mpr (List.mem_append_left _ z))
      have h4 : x ≠ s := fun z => h2 (hp.mem_iff.mpr (List.mem_append_right _ (by rw [z]; exact List.mem_singleton_self s)))
      obtain ⟨k, hk⟩ := List.getElem?_of_mem ((h.mem x).mpr ⟨h1, h3⟩)
      have hki : k ≠ i := fun z => by
        rw [z, e] at hk
        exact h4 (Option.some.inj hk).symm
      rcases Nat.lt_or_gt_of_ne hki with hlt | hgt
      · exact List.mem_of_getElem? (i := k) (by rw [List.getElem?_eraseIdx, if_pos hlt]; exact hk)
      · exact List.mem_of_getElem? (i := k - 1) (by rw [List.getElem?_eraseIdx, if_neg (by omega), show k - 1 + 1 = k by omega]; exact hk)
/-- the place of the new one -/
theorem Compl.index {n : Nat} {I L I' : List Nat} (h : Compl n I L) {i j s : Nat} (e : L[i]? = some s) (hp : I'.Perm (I ++ [s])) (ha : Asc I') (hj : I'[j]? = some s) : j + i = s := by
  have h1 := h.count e
  have h2 := below_at ha hj
  have h3 := (hp.filter fun x => decide (x < s)).length_eq
  rw [List.filter_append, List.length_append] at h3
  have h4 : (List.filter (fun x => decide (x < s)) [s]).length = 0 := by
    rw [List.filter_cons_of_neg (by simp)]
    rfl
  omega
theorem Compl.free {n : Nat} {I L : List Nat} (h : Compl n I L) : (List.range' 0 n).filter (fun x => !decide (x ∈ I)) = L := by
  have a1 : Asc ((List.range' 0 n).filter (fun x => !decide (x ∈ I))) := (asc_range' n 0).filter _
  refine List.Perm.eq_of_pairwise (le := (· ≤ ·)) (fun a b _ _ h1 h2 => Nat.le_antisymm h1 h2) (a1.imp fun z => Nat.le_of_lt z) (h.aL.imp fun z => Nat.le_of_lt z) ?_
  refine (List.perm_ext_iff_of_nodup (asc_nodup a1) (asc_nodup h.aL)).mpr fun x => ?_
  rw [List.mem_filter, mem_range0, h.mem]
  simp
end Ef
namespace Ef
/-! ### the sets of a size among ascending servers -/
def combs : List Nat → Nat → List (List Nat)
  | _, 0 => [[]]
  | [], _ + 1 => []
  | x :: r, k + 1 => (combs r k).map (x :: ·) ++ combs r (k + 1)
theorem combs_zero (l : List Nat) : combs l 0 = [[]] := by cases l <;> rfl
theorem combs_short : ∀ (l : List Nat) (k : Nat), l.length < k → combs l k = []
  | _, 0, h => absurd h (Nat.not_lt_zero _)
  | [], k + 1, _ => rfl
  | x :: r, k + 1, h => by
    have h2 : r.length < k := by
      simp only [List.length_cons] at h
      omega
    show (combs r k).map _ ++ combs r (k + 1) = []
    rw [combs_short r k h2, combs_short r (k + 1) (by omega)]
    rfl
theorem combs_good : ∀ (l : List Nat) (k : Nat), ∀ c ∈ combs l k, c.length = k ∧ c.Sublist l
  | l, 0, c, h => by
    rw [combs_zero] at h
    rw [List.mem_singleton.mp h]
    exact ⟨rfl, List.nil_sublist _⟩
  | [], k + 1, c, h => by cases h
  | x :: r, k + 1, c, h => by
    rcases List.mem_append.mp h with h | h
    · obtain ⟨d, hd, rfl⟩ := List.mem_map.mp h
      obtain ⟨h1, h2⟩ := combs_good r k d hd
      exact ⟨by rw [List.length_cons, h1], h2.cons_cons x⟩
    · obtain ⟨h1, h2⟩ := combs_good r (k + 1) c h
      exact ⟨h1, h2.cons x⟩
theorem combs_ne : ∀ (l : List Nat) (k : Nat), k ≤ l.length → combs l k ≠ []
  | l, 0, _ => by rw [combs_zero]; simp
  | [], k + 1, h => by simp at h
  | x :: r, k + 1, h => by
    have h2 : k ≤ r.length := by
      simp only [List.length_cons] at h
      omega
    show (combs r k).map _ ++ combs r (k + 1) ≠ []
    intro e
    have := (List.append_eq_nil_iff.mp e).1
    exact combs_ne r k h2 (List.map_eq_nil_iff.mp this)
theorem combs_mem : ∀ (l c : List Nat), c.Sublist l → c ∈ combs l c.length
  | l, [], _ => by
    show [] ∈ combs l 0
    rw [combs_zero]
    exact List.mem_singleton.mpr rfl
  | [], _ :: _, h => by cases h
  | x :: r, y :: c, h => by
    show y :: c ∈ (combs r c.length).map (x :: ·) ++ combs r (c.length + 1)
    cases h with
    | cons _ h => exact List.mem_append_right _ (combs_mem r (y :: c) h)
    | cons_cons _ h => exact List.mem_append_left _ (List.mem_map.mpr ⟨c, combs_mem r c h, rfl⟩)
/-- by the place of the first one -/
theorem combs_from (l : List Nat) (m : Nat) : ∀ (d s : Nat), l.length + 1 ≤ s + d + (m + 1) → s + d + (m + 1) ≤ l.length + 1 ∨ d = 0 → combs (l.drop s) (m + 1) = (List.range' s d).flatMap fun i => (combs (l.drop (i + 1)) m).map (l.getD i 0 :: ·)
  | 0, s, h1, _ => by
    rw [combs_short _ _ (by rw [List.length_drop]; omega)]
    rfl
  | d + 1, s, h1, h2 => by
    have hs : s < l.length := by omega
    rw [List.drop_eq_getElem_cons hs]
    show (combs (l.drop (s + 1)) m).map _ ++ combs (l.drop (s + 1)) (m + 1) = _
    rw [combs_from l m d (s + 1) (by omega) (by omega), List.range'_succ, List.flatMap_cons]
    congr 2
    funext c
    rw [List.getD_eq_getElem?_getD, List.getElem?_eq_getElem hs]
    rfl
/-- one server more, in the order of the law -/
def moreC (l : List Nat) (c : List Nat) : List (List Nat) := (l.filter fun y => decide (c = [] ∨ c.getLastD 0 < y)).map fun y => c ++ [y]
theorem last_cons (x : Nat) (c : List Nat) (h : c ≠ []) : (x :: c).getLastD 0 = c.getLastD 0 := by
  cases c with
  | nil => exact absurd rfl h
  | cons a r => rfl
theorem last_mem (c : List Nat) (h : c ≠ []) : c.getLastD 0 ∈ c := by
  cases c with
  | nil => exact absurd rfl h
  | cons a r =>
    have e : (a :: r).getLastD 0 = (a :: r).getLast h := by
      rw [List.getLastD_cons, List.getLast_eq_getLastD]
    rw [e]
    exact List.getLast_mem h
theorem flat_congr {α β : Type} {f g : α → List β} : ∀ {l : List α}, (∀ a ∈ l, f a = g a) → l.flatMap f = l.flatMap g
  | [], _ => rfl
  | a :: l, h => by rw [List.flatMap_cons, List.flatMap_cons, h a List.mem_cons_self, flat_congr fun b hb => h b (List.mem_cons_of_mem _ hb)]
theorem combs_more : ∀ (l : List Nat) (t : Nat), Asc l → (combs l t).flatMap (moreC l) = combs l (t + 1)
  | [], 0, _ => rfl
  | [], t + 1, _ => rfl
  | x :: r, 0, h => by
    obtain ⟨h1, h2⟩ := List.pairwise_cons.mp h
    have ih := combs_more r 0 h2
    rw [combs_zero] at ih ⊢
    rw [List.flatMap_cons, List.flatMap_nil, List.append_nil] at ih ⊢
    show _ = (combs r 0).map (x :: ·) ++ combs r 1
    rw [← ih, combs_zero]
    unfold moreC
    rw [List.filter_cons_of_pos (by simp)]
    rfl
  | x :: r, t + 1, h => by
    obtain ⟨h1, h2⟩ := List.pairwise_cons.mp h
    show ((combs r t).map (x :: ·) ++ combs r (t + 1)).flatMap (moreC (x :: r)) = (combs r (t + 1)).map (x :: ·) ++ combs r (t + 2)
    rw [List.flatMap_append]
    have e2 : (combs r (t + 1)).flatMap (moreC (x :: r)) = combs r (t + 2) := by
      rw [← combs_more r (t + 1) h2]
      refine flat_congr fun c hc => ?_
      obtain ⟨g1, g2⟩ := combs_good r (t + 1) c hc
      have ne : c ≠ [] := fun e => by rw [e] at g1; cases g1
      have hl := h1 _ (g2.subset (last_mem c ne))
      unfold moreC
      rw [List.filter_cons_of_neg]
      simp only [decide_eq_true_eq, not_or]
      exact ⟨ne, by omega⟩
    have e1 : ((combs r t).map (x :: ·)).flatMap (moreC (x :: r)) = (combs r (t + 1)).map (x :: ·) := by
      rw [← combs_more r t h2, List.flatMap_map, List.map_flatMap]
      refine flat_congr fun c hc => ?_
      obtain ⟨g1, g2⟩ := combs_good r t c hc
      unfold moreC
      rw [List.map_map]
      by_cases ne : c = []
      · subst ne
        rw [List.filter_cons_of_neg (by simp)]
        have e : (r.filter fun y => decide (([x] : List Nat) = [] ∨ ([x] : List Nat).getLastD 0 < y)) = r.filter fun y => decide (([] : List Nat) = [] ∨ ([] : List Nat).getLastD 0 < y) := by
          refine List.filter_congr fun y hy => ?_
          have := h1 y hy
          simp [this]
        rw [e]
        rfl
      · have hl := h1 _ (g2.subset (last_mem c ne))
        rw [List.filter_cons_of_neg (by
          simp only [decide_eq_true_eq, not_or]
          exact ⟨by simp, by rw [last_cons x c ne]; omega⟩)]
        have e : (r.filter fun y => decide (x :: c = [] ∨ (x :: c).getLastD 0 < y)) = r.filter fun y => decide (c = [] ∨ c.getLastD 0 < y) := by
          refine List.filter_congr fun y hy => ?_
          rw [last_cons x c ne]
          simp [ne]
        rw [e]
        rfl
    rw [e1, e2]
/-! the program's beginnings -/
def stepB (l : List Nat) (m : Nat) (b : List Nat × Nat) : List (List Nat × Nat) := (List.range' b.2 (l.length + 1 - m - b.2)).map fun i => (b.1 ++ [l.getD i 0], i + 1)
def begB (l : List Nat) (k : Nat) : Nat → List (List Nat × Nat)
  | 0 => [([], 0)]
  | t + 1 => (begB l k t).flatMap (stepB l (k - t))
def restB (l : List Nat) (m : Nat) (b : List Nat × Nat) : List (List Nat) := (combs (l.drop b.2) m).map (b.1 ++ ·)
theorem step_rest (l : List Nat) (m : Nat) (b : List Nat × Nat) : (stepB l (m + 1) b).flatMap (restB l m) = restB l (m + 1) b := by
  unfold stepB restB
  rw [combs_from l m (l.length + 1 - (m + 1) - b.2) b.2 (by omega) (by omega), List.flatMap_map, List.map_flatMap]
  refine flat_congr fun i _ => ?_
  rw [List.map_map]
  refine List.map_congr_left fun c _ => ?_
  show b.1 ++ [l.getD i 0] ++ c = b.1 ++ (l.getD i 0 :: c)
  rw [List.append_assoc]
  rfl
theorem flat_flat {α β γ : Type} (f : α → List β) (g : β → List γ) : ∀ l : List α, (l.flatMap f).flatMap g = l.flatMap fun a => (f a).flatMap g
  | [] => rfl
  | a :: l => by rw [List.flatMap_cons, List.flatMap_append, List.flatMap_cons, flat_flat f g l]
theorem beg_rest (l : List Nat) (k : Nat) : ∀ t, t ≤ k → (begB l k t).flatMap (restB l (k - t)) = combs l k
  | 0, _ => by
    show restB l k ([], 0) ++ [] = _
    unfold restB
    rw [List.append_nil]
    show (combs l k).map _ = _
    exact List.map_id _
  | t + 1, h => by
    rw [← beg_rest l k t (by omega)]
    show ((begB l k t).flatMap (stepB l (k - t))).flatMap _ = _
    rw [flat_flat]
    refine flat_congr fun b _ => ?_
    have e : k - t = (k - (t + 1)) + 1 := by omega
    rw [e]
    exact step_rest l _ b
theorem map_flat {α β : Type} (f : α → β) : ∀ l : List α, l.flatMap (fun a => [f a]) = l.map f
  | [] => rfl
  | a :: l => by rw [List.flatMap_cons, map_flat f l]; rfl
theorem beg_end (l : List Nat) (k : Nat) : (begB l k k).map (·.1) = combs l k := by
  rw [← beg_rest l k k (Nat.le_refl _), ← map_flat]
  refine flat_congr fun b _ => ?_
  unfold restB
  rw [Nat.sub_self, combs_zero]
  show _ = [b.1 ++ []]
  rw [List.append_nil]
theorem beg_fit (l : List Nat) (k : Nat) : ∀ t, t < k → ∀ b ∈ begB l k (t + 1), b.2 + (k - (t + 1)) ≤ l.length := fun t ht b hb => by
  obtain ⟨a, _, hb⟩ := List.mem_flatMap.mp hb
  obtain ⟨i, hi, rfl⟩ := List.mem_map.mp hb
  rw [List.mem_range'_1] at hi
  show i + 1 + _ ≤ _
  omega
theorem len_flat {α β : Type} (f : α → List β) : ∀ l : List α, (∀ a ∈ l, f a ≠ []) → l.length ≤ (l.flatMap f).length
  | [], _ => Nat.zero_le _
  | a :: l, h => by
    rw [List.flatMap_cons, List.length_append, List.length_cons]
    have h1 := len_flat f l fun b hb => h b (List.mem_cons_of_mem _ hb)
    have h2 := List.length_pos_iff.mpr (h a List.mem_cons_self)
    omega
theorem beg_len (l : List Nat) (k : Nat) : ∀ t, t ≤ k → (begB l k t).length ≤ (combs l k).length + 1
  | 0, _ => by show 1 ≤ _; omega
  | t + 1, h => by
    rw [← beg_rest l k (t + 1) h]
    refine Nat.le_succ_of_le (len_flat _ _ fun b hb => ?_)
    have := beg_fit l k t h b hb
    unfold restB
    intro e
    exact combs_ne _ _ (by rw [List.length_drop]; omega) (List.map_eq_nil_iff.mp e)
theorem beg_good (l : List Nat) (k : Nat) : ∀ t, ∀ b ∈ begB l k t, b.1.length = t ∧ b.2 ≤ l.length + 1
  | 0, b, hb => by
    rw [List.mem_singleton.mp hb]
    exact ⟨rfl, Nat.zero_le _⟩
  | t + 1, b, hb => by
    obtain ⟨a, ha, hb⟩ := List.mem_flatMap.mp hb
    obtain ⟨i, hi, rfl⟩ := List.mem_map.mp hb
    rw [List.mem_range'_1] at hi
    obtain ⟨h1, h2⟩ := beg_good l k t a ha
    exact ⟨by show (a.1 ++ _).length = _; rw [List.length_append, h1]; rfl, by show i + 1 ≤ _; omega⟩
theorem fm_le {α β : Type} (f : α → List β) : ∀ (l : List α) (i : Nat), ((l.take i).flatMap f).length ≤ (l.flatMap f).length
  | [], i => by rw [List.take_nil]; exact Nat.le_refl _
  | a :: l, 0 => Nat.zero_le _
  | a :: l, i + 1 => by
    rw [List.take_succ_cons, List.flatMap_cons, List.flatMap_cons, List.length_append, List.length_append]
    have := fm_le f l i
    omega
theorem fm_step {α β : Type} {f : α → List β} {l : List α} {i : Nat} {a : α} (h : l[i]? = some a) : (l.take (i + 1)).flatMap f = (l.take i).flatMap f ++ f a := by
  rw [List.take_add_one, h, List.flatMap_append]
  show _ ++ [a].flatMap f = _
  rw [List.flatMap_cons, List.flatMap_nil, List.append_nil]
theorem take_snoc {α : Type} {l : List α} {i : Nat} {a : α} (h : l[i]? = some a) : l.take (i + 1) = l.take i ++ [a] := by
  rw [List.take_add_one, h]
  rfl
theorem combsLen : ∀ (l : List Nat) (k : Nat), (combs l k).length = C l.length k
  | l, 0 => by rw [combs_zero]; cases l <;> rfl
  | [], k + 1 => rfl
  | x :: r, k + 1 => by
    show ((combs r k).map _ ++ combs r (k + 1)).length = C (r.length + 1) (k + 1)
    rw [List.length_append, List.length_map, combsLen r k, combsLen r (k + 1)]
    rfl
theorem combsNodup : ∀ (l : List Nat) (k : Nat), l.Nodup → (combs l k).Nodup
  | l, 0, _ => by
    rw [combs_zero]
    exact List.nodup_cons.mpr ⟨List.not_mem_nil, List.nodup_nil⟩
  | [], k + 1, _ => List.nodup_nil
  | x :: r, k + 1, h => by
    obtain ⟨h1, h2⟩ := List.nodup_cons.mp h
    refine List.nodup_append.mpr ⟨?_, combsNodup r (k + 1) h2, fun c hc d hd e => ?_⟩
    · refine List.Pairwise.map _ (fun a b hab z => hab ?_) (combsNodup r k h2)
      exact (List.cons.inj z).2
    · obtain ⟨c', _, rfl⟩ := List.mem_map.mp hc
      obtain ⟨_, g⟩ := combs_good r (k + 1) d hd
      rw [← e] at g
      exact h1 (g.subset List.mem_cons_self)
theorem ascSub : ∀ {b a : List Nat}, Asc a → Asc b → (∀ x ∈ a, x ∈ b) → a.Sublist b
  | [], [], _, _, _ => List.Sublist.slnil
  | [], x :: a, _, _, h => absurd (h x List.mem_cons_self) List.not_mem_nil
  | y :: b, [], _, _, _ => List.nil_sublist _
  | y :: b, x :: a, ha, hb, h => by
    obtain ⟨a1, a2⟩ := List.pairwise_cons.mp ha
    obtain ⟨b1, b2⟩ := List.pairwise_cons.mp hb
    by_cases e : x = y
    · subst e
      refine (ascSub a2 b2 fun z hz => ?_).cons_cons x
      rcases List.mem_cons.mp (h z (List.mem_cons_of_mem _ hz)) with rfl | h2
      · have := a1 z hz
        omega
      · exact h2
    · refine (ascSub (a := x :: a) ha b2 fun z hz => ?_).cons y
      rcases List.mem_cons.mp (h z hz) with rfl | h2
      · rcases List.mem_cons.mp hz with rfl | hz
        · exact absurd rfl e
        · have h3 := a1 z hz
          rcases List.mem_cons.mp (h x List.mem_cons_self) with h4 | h4
          · exact absurd h4 e
          · have := b1 x h4
            omega
      · exact h2
/-- all (set, server) with the server outside -/
def without (n x : Nat) : List Nat := (List.range n).filter fun y => !decide (y = x)
def allE (n sz : Nat) : List (List Nat × Nat) := (List.range n).flatMap fun x => (combs (without n x) sz).map fun c => (c, x)
theorem without_len {n x : Nat} (h : x < n) : (without n x).length = n - 1 := by
  unfold without
  have hp : ∀ l : List Nat, (l.filter fun y => !decide (y = x)).length + (l.filter fun y => decide (y = x)).length = l.length := by
    intro l
    induction l with
    | nil => rfl
    | cons a l ih =>
      by_cases e : a = x
      · rw [List.filter_cons_of_neg (by simpa using e), List.filter_cons_of_pos (by simpa using e), List.length_cons, List.length_cons]
        omega
      · rw [List.filter_cons_of_pos (by simpa using e), List.filter_cons_of_neg (by simpa using e), List.length_cons, List.length_cons]
        omega
  replace hp := hp (List.range n)
  rw [List.length_range] at hp
  have h1 : ((List.range n).filter fun y => decide (y = x)).length = 1 := by
    rw [← List.countP_eq_length_filter]
    have e : (List.range n).countP (fun y => decide (y = x)) = (List.range n).count x := by
      unfold List.count
      refine List.countP_congr fun y _ => ?_
      simp
    rw [e]
    exact List.Nodup.count List.nodup_range |>.trans (if_pos (List.mem_range.mpr h))
  omega
theorem without_asc (n x : Nat) : Asc (without n x) := List.Pairwise.filter _ (by
  have := List.pairwise_lt_range (n := n)
  exact this)
theorem flat_const {α β : Type} (f : α → List β) (k : Nat) : ∀ l : List α, (∀ a ∈ l, (f a).length = k) → (l.flatMap f).length = l.length * k
  | [], _ => by simp
  | a :: l, h => by
    rw [List.flatMap_cons, List.length_append, h a List.mem_cons_self, flat_const f k l fun b hb => h b (List.mem_cons_of_mem _ hb), List.length_cons, Nat.succ_mul]
    omega
theorem allE_len (n sz : Nat) : (allE n sz).length = n * C (n - 1) sz := by
  unfold allE
  rw [flat_const _ (C (n - 1) sz) _ fun x hx => ?_, List.length_range]
  rw [List.length_map, combsLen, without_len (List.mem_range.mp hx)]
theorem allE_mem {n sz x : Nat} {c : List Nat} (hx : x < n) (hl : c.length = sz) (ha : Asc c) (hc : ∀ y ∈ c, y < n ∧ y ≠ x) : (c, x) ∈ allE n sz := by
  refine List.mem_flatMap.mpr ⟨x, List.mem_range.mpr hx, List.mem_map.mpr ⟨c, ?_, rfl⟩⟩
  have := combs_mem (without n x) c (ascSub ha (without_asc n x) fun y hy => List.mem_filter.mpr ⟨List.mem_range.mpr (hc y hy).1, by simpa using (hc y hy).2⟩)
  rw [hl] at this
  exact this
theorem subG_len {α : Type} [DecidableEq α] : ∀ {ks ns : List α}, ks.Nodup → (∀ k ∈ ks, k ∈ ns) → ks.length ≤ ns.length
  | [], _, _, _ => Nat.zero_le _
  | k :: r, ns, h, hs => by
    have hk := hs k List.mem_cons_self
    have h1 := subG_len (ks := r) (ns := ns.erase k) (List.nodup_cons.mp h).2 fun x hx => (List.mem_erase_of_ne (fun e : x = k => (List.nodup_cons.mp h).1 (e ▸ hx))).mpr (hs x (List.mem_cons_of_mem _ hx))
    have h2 := List.length_erase_of_mem hk
    have h3 := List.length_pos_of_mem hk
    show r.length + 1 ≤ ns.length
    omega
/-! sorted -/
def srt (l : List Nat) : List Nat := l.mergeSort fun a b => decide (a ≤ b)
theorem srt_perm (l : List Nat) : (srt l).Perm l := List.mergeSort_perm l _
theorem srt_le (l : List Nat) : (srt l).Pairwise (· ≤ ·) := (List.pairwise_mergeSort (le := fun a b : Nat => decide (a ≤ b)) (fun a b c h1 h2 => by simp at *; omega) (fun a b => by simp; omega) l).imp fun h => of_decide_eq_true h
theorem srt_asc {l : List Nat} (h : l.Nodup) : Asc (srt l) := ((srt_le l).and ((srt_perm l).nodup_iff.mpr h)).imp fun ⟨a, b⟩ => by omega
theorem srt_of {l m : List Nat} (p : m.Perm l) (h : m.Pairwise (· ≤ ·)) : m = srt l :=
  List.Perm.eq_of_pairwise (le := fun a b : Nat => a ≤ b) (fun a b _ _ h1 h2 => Nat.le_antisymm h1 h2) h (srt_le l) (p.trans (srt_perm l).symm)
end Ef
namespace Ef
/-! ### the least numbers once more: common multiples of n, n - 1, .. -/
def leastP (n : Nat) : Nat → Nat
  | 0 => 1
  | d + 1 => stepL (leastP n d) (n - d)
theorem parts_ok : rowsOk (fun n d a => Nat.beq (leastP n d) a) 60 1 row0 = true := by decide +kernel
theorem leastP_eq {n d : Nat} (h1 : 1 ≤ n) (h6 : n ≤ 60) (hd : d ≤ n) : leastP n d = leastL n d :=
  Nat.eq_of_beq_eq_true (rows_all 60 1 row0 row0_is (by decide) parts_ok n h1 (by omega) h6 d hd)
theorem stepL_lcm (a b : Nat) : stepL a b = Nat.lcm a b := by
  unfold stepL Nat.lcm
  exact Nat.div_mul_right_comm (Nat.gcd_dvd_left a b) b
theorem stepL_dvd (a b c : Nat) : stepL a b ∣ c ↔ a ∣ c ∧ b ∣ c := by
  rw [stepL_lcm]
  exact ⟨fun h => ⟨Nat.dvd_trans (Nat.dvd_lcm_left a b) h, Nat.dvd_trans (Nat.dvd_lcm_right a b) h⟩, fun h => Nat.lcm_dvd h.1 h.2⟩
theorem leastP_dvd (n c : Nat) : ∀ d, leastP n d ∣ c ↔ ∀ i, i < d → (n - i) ∣ c
  | 0 => ⟨fun _ i h => absurd h (Nat.not_lt_zero i), fun _ => Nat.one_dvd c⟩
  | d + 1 => by
    show stepL (leastP n d) (n - d) ∣ c ↔ _
    rw [stepL_dvd, leastP_dvd n c d]
    constructor
    · intro h i hi
      by_cases e : i = d
      · rw [e]
        exact h.2
      · exact h.1 i (by omega)
    · intro h
      exact ⟨fun i hi => h i (by omega), h d (by omega)⟩
/-- a number is a multiple of the least one exactly if n, n - 1, .. divide it -/
theorem least_parts {n d : Nat} (h1 : 1 ≤ n) (h6 : n ≤ 60) (hd : d ≤ n) (c : Nat) : leastL n d ∣ c ↔ ∀ i, i < d → (n - i) ∣ c := by
  rw [← leastP_eq h1 h6 hd]
  exact leastP_dvd n c d
def partsV (n d : Nat) : List Nat := (List.range d).map fun i => n - i
theorem parts_at {n d i : Nat} (h : i < d) : (partsV n d)[i]? = some (n - i) := by
  unfold partsV
  rw [List.getElem?_map, List.getElem?_range h]
  rfl
theorem parts_len (n d : Nat) : (partsV n d).length = d := by
  unfold partsV
  rw [List.length_map, List.length_range]
def wdsL (n c d : Nat) : List Nat := (List.range d).map (wd n c)
theorem wds_step (n c d : Nat) : wdsL n c (d + 1) = wdsL n c d ++ [wd n c d] := by
  unfold wdsL
  rw [List.range_succ, List.map_append]
  rfl
theorem wds_len (n c d : Nat) : (wdsL n c d).length = d := by
  unfold wdsL
  rw [List.length_map, List.length_range]
/-- one step of the edges -/
theorem edge_step {n s : Nat} (h : s < n) : n * C (n - 1) s * (n - 1 - s) / (s + 1) = n * C (n - 1) (s + 1) := by
  rw [Nat.mul_assoc, ← C_step (n - 1) s (by omega), ← Nat.mul_assoc, Nat.mul_div_cancel _ (Nat.succ_pos s)]
end Ef
namespace Ef
/-! ### from a place back to a number -/
/-- what is left of the servers -/
def folL (n c : Nat) : List Nat → List Nat → Nat → List Nat
  | [], L, _ => L
  | s :: ss, L, r => folL n c ss (L.eraseIdx (r / wd n c s)) (wd n c s * (L.getD (r / wd n c s) 0 - r / wd n c s) + r % wd n c s)
theorem fol_snoc (n c : Nat) (s : Nat) : ∀ (ss L : List Nat) (r : Nat), fol n c (ss ++ [s]) L r =
    ((fol n c ss L r).1 ++ [(folL n c ss L r).getD ((fol n c ss L r).2 / wd n c s) 0],
      wd n c s * ((folL n c ss L r).getD ((fol n c ss L r).2 / wd n c s) 0 - (fol n c ss L r).2 / wd n c s) + (fol n c ss L r).2 % wd n c s)
  | [], L, r => rfl
  | t :: ss, L, r => by
    rw [List.cons_append, fol_cons, fol_snoc n c s ss, fol_cons]
    rfl
theorem folL_snoc (n c : Nat) (s : Nat) : ∀ (ss L : List Nat) (r : Nat), folL n c (ss ++ [s]) L r = (folL n c ss L r).eraseIdx ((fol n c ss L r).2 / wd n c s)
  | [], L, r => rfl
  | t :: ss, L, r => by
    rw [List.cons_append]
    show folL n c (ss ++ [s]) _ _ = _
    rw [folL_snoc n c s ss]
    rfl
theorem wd_back {n c b : Nat} (h : n * C (n - 1) b ∣ c) (hb : b < n) : c / C n (b + 1) = wd n c b * (b + 1) := by
  have e := wd_eq h
  obtain ⟨m, rfl⟩ : ∃ m, n = m + 1 := ⟨n - 1, by omega⟩
  have a := C_absorb m b
  rw [Nat.add_sub_cancel] at e
  rw [← a] at e
  have p := C_pos (m + 1) (b + 1) (by omega)
  generalize wd (m + 1) c b = w at e ⊢
  have e2 : c = w * (b + 1) * C (m + 1) (b + 1) := by
    rw [← e, Nat.mul_comm (C (m + 1) (b + 1)), Nat.mul_assoc]
  rw [e2, Nat.mul_div_cancel _ p]
theorem wd_out {n c b : Nat} (h : n * C (n - 1) b ∣ c) (hb : b < n) : wd n c b * (n - b) * C n b = c := by
  have e := wd_eq h
  obtain ⟨m, rfl⟩ : ∃ m, n = m + 1 := ⟨n - 1, by omega⟩
  have a := C_absorb m b
  have s := C_step (m + 1) b (by omega)
  rw [Nat.add_sub_cancel] at e
  rw [Nat.mul_assoc, Nat.mul_comm (m + 1 - b), ← s, a]
  exact e
theorem erasePerm : ∀ (l : List Nat) (k x : Nat), l[k]? = some x → (x :: l.eraseIdx k).Perm l
  | [], _, _, h => by cases h
  | a :: r, 0, x, h => by
    obtain rfl : a = x := Option.some.inj h
    exact List.Perm.refl _
  | a :: r, k + 1, x, h => (List.Perm.swap a x _).trans ((erasePerm r k x h).cons a)
theorem range'_end (b : Nat) : List.range' 0 (b + 1) = List.range' 0 b ++ [b] := by
  rw [← List.range_eq_range', ← List.range_eq_range', List.range_succ]
theorem rev_range (b : Nat) : (List.range' 0 (b + 1)).reverse = b :: (List.range' 0 b).reverse := by
  rw [range'_end, List.reverse_append]
  rfl
/-- one step back -/
structure Place (n c b : Nat) (ms : List Nat) (r : Nat) : Prop where
  asc : Asc ms
  lt : ∀ x ∈ ms, x < n
  len : ms.length = b
  rest : r < c / C n b
theorem Place.ix {n c b r : Nat} {ms : List Nat} (h : Place n c (b + 1) ms r) (hd : n * C (n - 1) b ∣ c) (hb : b < n) : r / wd n c b < ms.length := by
  have h1 := h.rest
  rw [wd_back hd hb] at h1
  rw [h.len]
  exact Nat.div_lt_of_lt_mul h1
theorem Place.prev {n c b r : Nat} {ms : List Nat} (h : Place n c (b + 1) ms r) (hd : ∀ k, k ≤ b → n * C (n - 1) k ∣ c) (hb : b < n) (hc : 0 < c) :
    Place n c b (ms.eraseIdx (r / wd n c b)) (wd n c b * (ms.getD (r / wd n c b) 0 - r / wd n c b) + r % wd n c b) := by
  have hi := h.ix (hd b (Nat.le_refl _)) hb
  have w0 := wd_pos (hd b (Nat.le_refl _)) hc
  have hx := getD_of hi
  have g1 := asc_ge h.asc hx
  have g2 := asc_le h.asc h.lt hx
  have hl := h.len
  refine ⟨asc_erase h.asc _, fun x hx => h.lt x (List.mem_of_mem_eraseIdx hx), ?_, ?_⟩
  · rw [List.length_eraseIdx, if_pos hi, hl]
    rfl
  · have h1 : r % wd n c b < wd n c b := Nat.mod_lt _ w0
    have h2 : ms.getD (r / wd n c b) 0 - r / wd n c b + 1 ≤ n - b := by omega
    have h3 : wd n c b * (ms.getD (r / wd n c b) 0 - r / wd n c b + 1) ≤ wd n c b * (n - b) := Nat.mul_le_mul_left _ h2
    have h4 : c / C n b = wd n c b * (n - b) := by
      have e := wd_out (hd b (Nat.le_refl _)) hb
      have p := C_pos n b (by omega)
      conv => lhs; rw [← e]
      exact Nat.mul_div_cancel _ p
    rw [h4]
    rw [Nat.mul_add, Nat.mul_one] at h3
    omega
theorem back_ok {n c : Nat} (hc : 0 < c) : ∀ (b : Nat) (ms : List Nat) (r : Nat), b ≤ n → (∀ k, k < b → n * C (n - 1) k ∣ c) → Place n c b ms r → FolOk n c (List.range' 0 b).reverse ms r
  | 0, _, _, _, _, _ => trivial
  | b + 1, ms, r, hb, hd, h => by
    rw [rev_range]
    have hi := h.ix (hd b (by omega)) (by omega)
    exact ⟨wd_pos (hd b (by omega)) hc, hi, asc_ge h.asc (getD_of hi), back_ok hc b _ _ (by omega) (fun k hk => hd k (by omega)) (h.prev (fun k hk => hd k (by omega)) (by omega) hc)⟩
theorem Std.less {n d c : Nat} (h : Std n (d + 1) c) : Std n d c := by
  have hd := h.dn
  exact ⟨h.n60, h.n1, by omega, h.c0, Nat.dvd_trans (stepL_left _ _ (leastL_pos (by omega))) h.dv⟩
/-- the number of the list that has this place -/
def back (n c : Nat) (ms : List Nat) (r : Nat) : Nat := (fol n c (List.range' 0 ms.length).reverse ms r).2
theorem back_fwd {n c : Nat} (hc : 0 < c) : ∀ (b : Nat) (ms : List Nat) (r : Nat), b ≤ n → (∀ k, k < b → n * C (n - 1) k ∣ c) → Place n c b ms r →
    (fol n c (List.range' 0 b).reverse ms r).2 < c ∧
    (fol n c (List.range' 0 b) (List.range' 0 n) (fol n c (List.range' 0 b).reverse ms r).2).1.Perm ms ∧
    (fol n c (List.range' 0 b) (List.range' 0 n) (fol n c (List.range' 0 b).reverse ms r).2).2 = r ∧
    Compl n ms (folL n c (List.range' 0 b) (List.range' 0 n) (fol n c (List.range' 0 b).reverse ms r).2)
  | 0, ms, r, _, _, h => by
    have e : ms = [] := List.length_eq_zero_iff.mp h.len
    have hr := h.rest
    rw [C_zero, Nat.div_one] at hr
    subst e
    exact ⟨hr, List.Perm.refl _, rfl, Compl.start n⟩
  | b + 1, ms, r, hb, hd, h => by
    have hi := h.ix (hd b (by omega)) (by omega)
    have w0 := wd_pos (hd b (by omega)) hc
    have hx := getD_of hi
    have g1 := asc_ge h.asc hx
    have pv := h.prev (fun k hk => hd k (by omega)) (by omega) hc
    obtain ⟨i1, i2, i3, i4⟩ := back_fwd hc b _ _ (by omega) (fun k hk => hd k (by omega)) pv
    rw [rev_range, fol_cons]
    show (fol n c (List.range' 0 b).reverse (ms.eraseIdx (r / wd n c b)) (wd n c b * (ms.getD (r / wd n c b) 0 - r / wd n c b) + r % wd n c b)).2 < c ∧ _
    generalize (fol n c (List.range' 0 b).reverse (ms.eraseIdx (r / wd n c b)) (wd n c b * (ms.getD (r / wd n c b) 0 - r / wd n c b) + r % wd n c b)).2 = k at i1 i2 i3 i4 ⊢
    show k < c ∧ (fol n c (List.range' 0 (b + 1)) (List.range' 0 n) k).1.Perm ms ∧ (fol n c (List.range' 0 (b + 1)) (List.range' 0 n) k).2 = r ∧ Compl n ms (folL n c (List.range' 0 (b + 1)) (List.range' 0 n) k)
    rw [range'_end, fol_snoc, folL_snoc, i3]
    have hm : r % wd n c b < wd n c b := Nat.mod_lt _ w0
    have e1 : (wd n c b * (ms.getD (r / wd n c b) 0 - r / wd n c b) + r % wd n c b) / wd n c b = ms.getD (r / wd n c b) 0 - r / wd n c b := by
      rw [Nat.mul_add_div w0, Nat.div_eq_of_lt hm, Nat.add_zero]
    have e2 : (wd n c b * (ms.getD (r / wd n c b) 0 - r / wd n c b) + r % wd n c b) % wd n c b = r % wd n c b := by
      rw [Nat.mul_add_mod, Nat.mod_mod]
    rw [e1, e2]
    generalize folL n c (List.range' 0 b) (List.range' 0 n) k = L at i4
    have hdm := Nat.div_add_mod r (wd n c b)
    generalize r / wd n c b = i at hi hx g1 pv i1 i2 i3 i4 hdm e1 e2 ⊢
    generalize ms.getD i 0 = x at hx g1 pv i1 i2 i3 i4 e1 e2 ⊢
    have pm : ms.Perm (ms.eraseIdx i ++ [x]) := ((List.perm_append_singleton x _).trans (erasePerm ms i x hx)).symm
    have hmem : x ∈ L := (i4.mem _).mpr ⟨h.lt _ (List.mem_of_getElem? hx), not_mem_erase (asc_nodup h.asc) hx⟩
    obtain ⟨j, hj⟩ := List.getElem?_of_mem hmem
    have hjx := i4.index hj pm h.asc hx
    obtain rfl : x - i = j := by omega
    have ex : L.getD (x - i) 0 = x := by
      have := getD_of (L := L) (i := x - i) (List.getElem?_eq_some_iff.mp hj).1
      rw [hj] at this
      exact (Option.some.inj this).symm
    rw [ex]
    refine ⟨i1, (i2.append_right _).trans pm.symm, ?_, i4.next hj pm h.asc⟩
    show wd n c b * (x - (x - i)) + r % wd n c b = r
    rw [show x - (x - i) = i by omega]
    exact hdm
end Ef
namespace Ef
/-! ### counts by formula -/
def sumTo (g : Nat → Nat) : Nat → Nat
  | 0 => 0
  | n + 1 => sumTo g n + g n
theorem sumTo_congr {g h : Nat → Nat} : ∀ {n : Nat}, (∀ i, i < n → g i = h i) → sumTo g n = sumTo h n
  | 0, _ => rfl
  | n + 1, e => by
    show sumTo g n + g n = sumTo h n + h n
    rw [sumTo_congr (n := n) fun i hi => e i (by omega), e n (by omega)]
theorem sumTo_add (g h : Nat → Nat) : ∀ n : Nat, sumTo (fun i => g i + h i) n = sumTo g n + sumTo h n
  | 0 => rfl
  | n + 1 => by
    show sumTo _ n + (g n + h n) = sumTo g n + g n + (sumTo h n + h n)
    rw [sumTo_add g h n]
    omega
theorem sumTo_mul (k : Nat) (g : Nat → Nat) : ∀ n : Nat, sumTo (fun i => k * g i) n = k * sumTo g n
  | 0 => rfl
  | n + 1 => by
    show sumTo _ n + k * g n = k * (sumTo g n + g n)
    rw [sumTo_mul k g n, Nat.mul_add]
theorem sumTo_zero {g : Nat → Nat} : ∀ {n : Nat}, (∀ i, i < n → g i = 0) → sumTo g n = 0
  | 0, _ => rfl
  | n + 1, e => by
    show sumTo g n + g n = 0
    rw [sumTo_zero (n := n) fun i hi => e i (by omega), e n (by omega)]
theorem sumTo_shift (g : Nat → Nat) : ∀ n : Nat, sumTo g (n + 1) = g 0 + sumTo (fun i => g (i + 1)) n
  | 0 => by
    show 0 + g 0 = g 0 + 0
    omega
  | n + 1 => by
    show sumTo g (n + 1) + g (n + 1) = g 0 + (sumTo (fun i => g (i + 1)) n + g (n + 1))
    rw [sumTo_shift g n]
    omega
theorem sumTo_cut (g : Nat → Nat) (a : Nat) : ∀ b : Nat, sumTo g (a + b) = sumTo g a + sumTo (fun i => g (a + i)) b
  | 0 => rfl
  | b + 1 => by
    show sumTo g (a + b) + g (a + b) = sumTo g a + (sumTo (fun i => g (a + i)) b + g (a + b))
    rw [sumTo_cut g a b]
    omega
theorem edge_alt {n i : Nat} (h : i < n) : C n i * (n - i) = n * C (n - 1) i := by
  obtain ⟨m, rfl⟩ : ∃ m, n = m + 1 := ⟨n - 1, by omega⟩
  have s := C_step (m + 1) i (by omega)
  have a := C_absorb m i
  rw [← s, a, Nat.add_sub_cancel]
theorem edge_alt2 {n i : Nat} (h : i < n) : C n (i + 1) * (i + 1) = n * C (n - 1) i := by
  obtain ⟨m, rfl⟩ : ∃ m, n = m + 1 := ⟨n - 1, by omega⟩
  rw [C_absorb m i, Nat.add_sub_cancel]
/-- the harmonic triangle -/
theorem leib {n i T : Nat} (hi : i < n) (h1 : (n + 1) * C n i ∣ T) (h2 : (n + 1) * C n (i + 1) ∣ T) : n * C (n - 1) i ∣ T ∧ wd n T i = wd (n + 1) T i + wd (n + 1) T (i + 1) := by
  have e1 : wd (n + 1) T i * ((n + 1) * C n i) = T := Nat.div_mul_cancel h1
  have e2 : wd (n + 1) T (i + 1) * ((n + 1) * C n (i + 1)) = T := Nat.div_mul_cancel h2
  have a1 := edge_alt hi
  have a2 := edge_alt2 hi
  have key : (wd (n + 1) T i + wd (n + 1) T (i + 1)) * (n * C (n - 1) i) = T := by
    refine Nat.eq_of_mul_eq_mul_left (show 0 < n + 1 by omega) ?_
    generalize wd (n + 1) T i = a at e1
    generalize wd (n + 1) T (i + 1) = b at e2
    have x1 : (n + 1) * (a * (n * C (n - 1) i)) = T * (n - i) := by
      rw [← a1, ← e1]
      simp only [Nat.mul_assoc, Nat.mul_comm, Nat.mul_left_comm]
    have x2 : (n + 1) * (b * (n * C (n - 1) i)) = T * (i + 1) := by
      rw [← a2, ← e2]
      simp only [Nat.mul_assoc, Nat.mul_comm, Nat.mul_left_comm]
    have x3 : (n + 1) * ((a + b) * (n * C (n - 1) i)) = (n + 1) * (a * (n * C (n - 1) i)) + (n + 1) * (b * (n * C (n - 1) i)) := by
      rw [Nat.add_mul a b, Nat.mul_add (n + 1)]
    rw [x3, x1, x2, ← Nat.mul_add T, Nat.mul_comm T]
    congr 1
    omega
  have p : 0 < n * C (n - 1) i := edge_pos hi
  refine ⟨⟨_, by rw [Nat.mul_comm]; exact key.symm⟩, ?_⟩
  show T / (n * C (n - 1) i) = _
  conv => lhs; rw [← key]
  exact Nat.mul_div_cancel _ p
theorem sum_leib {T u f : Nat} (hf : f < u) : ∀ m : Nat, (∀ i, i ≤ m + f → (u + m) * C (u + m - 1) i ∣ T) → (u * C (u - 1) f ∣ T) ∧ sumTo (fun j => C m j * wd (u + m) T (j + f)) (m + 1) = wd u T f
  | 0, h => by
    have h0 := h f (by omega)
    refine ⟨h0, ?_⟩
    show 0 + C 0 0 * wd (u + 0) T (0 + f) = wd u T f
    rw [Nat.zero_add, Nat.zero_add, C_zero, Nat.one_mul, Nat.add_zero]
  | m + 1, h => by
    have hd : ∀ i, i ≤ m + f → (u + m) * C (u + m - 1) i ∣ T ∧ wd (u + m) T i = wd (u + m + 1) T i + wd (u + m + 1) T (i + 1) := fun i hi => by
      have a := h i (by omega)
      have b := h (i + 1) (by omega)
      rw [show u + (m + 1) = u + m + 1 from rfl, Nat.add_sub_cancel] at a b
      exact leib (show i < u + m by omega) a b
    obtain ⟨r1, r2⟩ := sum_leib hf m fun i hi => (hd i hi).1
    refine ⟨r1, ?_⟩
    rw [← r2]
    -- the right side split by the triangle
    have e1 : sumTo (fun j => C m j * wd (u + m) T (j + f)) (m + 1) = sumTo (fun j => C m j * wd (u + m + 1) T (j + f)) (m + 1) + sumTo (fun j => C m j * wd (u + m + 1) T (j + 1 + f)) (m + 1) := by
      rw [← sumTo_add]
      refine sumTo_congr fun j hj => ?_
      rw [(hd (j + f) (by omega)).2, Nat.mul_add, show j + f + 1 = j + 1 + f by omega]
    -- the left side split by Pascal
    have e2 : sumTo (fun j => C (m + 1) j * wd (u + (m + 1)) T (j + f)) (m + 1 + 1) = sumTo (fun j => C m j * wd (u + m + 1) T (j + f)) (m + 1 + 1) + sumTo (fun j => C m j * wd (u + m + 1) T (j + 1 + f)) (m + 1) := by
      rw [sumTo_shift, sumTo_shift (fun j => C m j * wd (u + m + 1) T (j + f)), Nat.add_assoc, ← sumTo_add, C_zero, C_zero]
      congr 1
      refine sumTo_congr fun j hj => ?_
      show C (m + 1) (j + 1) * wd (u + m + 1) T (j + 1 + f) = C m (j + 1) * wd (u + m + 1) T (j + 1 + f) + C m j * wd (u + m + 1) T (j + 1 + f)
      rw [C_ss, Nat.add_mul, Nat.add_comm]
    have e3 : sumTo (fun j => C m j * wd (u + m + 1) T (j + f)) (m + 1 + 1) = sumTo (fun j => C m j * wd (u + m + 1) T (j + f)) (m + 1) := by
      show sumTo _ (m + 1) + C m (m + 1) * _ = _
      rw [C_big m (m + 1) (by omega), Nat.zero_mul, Nat.add_zero]
    rw [e2, e3, e1]
/-- in how many lists the live server number f + 1 stands at index i -/
def fndAt (n T u f i : Nat) : Nat := if i < f ∨ n - u + f < i then 0 else C u f * C (n - u) (i - f) * (u - f) * wd n T i
theorem fnd_sum {n T u f : Nat} (hu : u ≤ n) (hf : f < u) (h : ∀ i, i ≤ n - u + f → n * C (n - 1) i ∣ T) : sumTo (fndAt n T u f) n = T := by
  have en : n = u + (n - u) := by omega
  obtain ⟨r1, r2⟩ := sum_leib (T := T) hf (n - u) fun i hi => by
    rw [← en]
    exact h i hi
  rw [← en] at r2
  have e1 : sumTo (fndAt n T u f) n = sumTo (fndAt n T u f) f + sumTo (fun i => fndAt n T u f (f + i)) (n - f) := by
    have := sumTo_cut (fndAt n T u f) f (n - f)
    rw [show f + (n - f) = n by omega] at this
    exact this
  have e2 : sumTo (fndAt n T u f) f = 0 := sumTo_zero fun i hi => if_pos (.inl hi)
  have e3 : sumTo (fun i => fndAt n T u f (f + i)) (n - f) = sumTo (fun i => fndAt n T u f (f + i)) (n - u + 1) + sumTo (fun i => fndAt n T u f (f + (n - u + 1 + i))) (n - f - (n - u + 1)) := by
    have := sumTo_cut (fun i => fndAt n T u f (f + i)) (n - u + 1) (n - f - (n - u + 1))
    rw [show n - u + 1 + (n - f - (n - u + 1)) = n - f by omega] at this
    exact this
  have e4 : sumTo (fun i => fndAt n T u f (f + (n - u + 1 + i))) (n - f - (n - u + 1)) = 0 := sumTo_zero fun i hi => if_pos (.inr (by omega))
  have e5 : sumTo (fun i => fndAt n T u f (f + i)) (n - u + 1) = (C u f * (u - f)) * sumTo (fun j => C (n - u) j * wd n T (j + f)) (n - u + 1) := by
    rw [← sumTo_mul]
    refine sumTo_congr fun i hi => ?_
    show fndAt n T u f (f + i) = _
    unfold fndAt
    rw [if_neg (by omega), show f + i - f = i by omega, show f + i = i + f by omega]
    simp only [Nat.mul_assoc, Nat.mul_comm, Nat.mul_left_comm]
  rw [e1, e2, e3, e4, e5, r2, Nat.zero_add, Nat.add_zero, edge_alt hf, Nat.mul_comm]
  exact wd_eq r1
end Ef
namespace Ef
/-! ### the numbers of the lists with a beginning -/
/-- what 'numbers_with' keeps on its way: the numbers from lo to hi - 1 have the beginning, the rest of number k is k + mv, L is left -/
structure Wst where
  lo : Int
  hi : Int
  mv : Int
  L : List Nat
def wStep (n c b s : Nat) (x : Wst) : Wst :=
  ⟨max x.lo ((wd n c b : Int) * (x.L.idxOf s : Int) - x.mv), min x.hi ((wd n c b : Int) * ((x.L.idxOf s : Int) + 1) - x.mv), x.mv + (wd n c b : Int) * ((s : Int) - (x.L.idxOf s : Int) - (x.L.idxOf s : Int)), x.L.eraseIdx (x.L.idxOf s)⟩
/-- from level b on -/
def wRun (n c : Nat) : Nat → List Nat → Wst → Option Wst
  | _, [], x => some x
  | b, s :: r, x => if s ∈ x.L then (if (wStep n c b s x).hi ≤ (wStep n c b s x).lo then none else wRun n c (b + 1) r (wStep n c b s x)) else none
/-- the lists whose beginning is t, in the table of depth b -/
structure Beg (n c : Nat) (t : List Nat) (x : Wst) : Prop where
  nd : x.L.Nodup
  asc : Asc x.L
  lo0 : 0 ≤ x.lo
  hic : x.hi ≤ (c : Int)
  iff : ∀ k : Nat, k < c → ((fol n c (List.range' 0 t.length) (List.range' 0 n) k).1 = t ↔ x.lo ≤ (k : Int) ∧ (k : Int) < x.hi)
  rest : ∀ k : Nat, x.lo ≤ (k : Int) → (k : Int) < x.hi → ((fol n c (List.range' 0 t.length) (List.range' 0 n) k).2 : Int) = (k : Int) + x.mv ∧ folL n c (List.range' 0 t.length) (List.range' 0 n) k = x.L
  len : x.L.length = n - t.length
  lt : ∀ y ∈ x.L, y < n
  mem : ∀ z, z ∈ x.L ↔ z < n ∧ z ∉ t
theorem Beg.start (n c : Nat) : Beg n c [] ⟨0, (c : Int), 0, List.range' 0 n⟩ :=
  ⟨asc_nodup (asc_range' n 0), asc_range' n 0, Int.le_refl _, Int.le_refl _, fun k hk => ⟨fun _ => ⟨by show (0 : Int) ≤ _; omega, by show (k : Int) < (c : Int); omega⟩, fun _ => rfl⟩, fun k h1 h2 => ⟨by show (k : Int) = (k : Int) + 0; omega, rfl⟩, by rw [List.length_range']; rfl, fun y hy => mem_range0.mp hy, fun z => by rw [mem_range0]; simp⟩
theorem mem_erase_iff {L : List Nat} {i s : Nat} (nd : L.Nodup) (e : L[i]? = some s) (z : Nat) : z ∈ L.eraseIdx i ↔ z ∈ L ∧ z ≠ s := by
  have pm := erasePerm L i s e
  constructor
  · intro h
    refine ⟨List.mem_of_mem_eraseIdx h, fun c => ?_⟩
    rw [c] at h
    exact not_mem_erase nd e h
  · rintro ⟨h1, h2⟩
    rcases List.mem_cons.mp (pm.mem_iff.mpr h1) with h | h
    · exact absurd h h2
    · exact h
theorem idx_at {L : List Nat} {s : Nat} (h : s ∈ L) : L[L.idxOf s]? = some s := by
  rw [List.getElem?_eq_getElem (List.idxOf_lt_length_of_mem h), List.getElem_idxOf]
theorem div_block {w r i : Nat} (w0 : 0 < w) : r / w = i ↔ w * i ≤ r ∧ r < w * (i + 1) := by
  rw [Nat.div_eq_iff w0]
  rw [Nat.mul_comm i w]
  constructor
  · rintro ⟨h1, h2⟩
    rw [Nat.mul_add, Nat.mul_one]
    exact ⟨h1, by omega⟩
  · rintro ⟨h1, h2⟩
    rw [Nat.mul_add, Nat.mul_one] at h2
    exact ⟨h1, by omega⟩
/-- the rest stays within its bounds, on every way -/
theorem fwd_bound {n c d : Nat} (hd : ∀ b, b < d → n * C (n - 1) b ∣ c) (hc : 0 < c) (hdn : d ≤ n) {k : Nat} (hk : k < c) : ∀ b, b ≤ d →
    (folL n c (List.range' 0 b) (List.range' 0 n) k).length = n - b ∧ Asc (folL n c (List.range' 0 b) (List.range' 0 n) k) ∧ (∀ y ∈ folL n c (List.range' 0 b) (List.range' 0 n) k, y < n) ∧ (fol n c (List.range' 0 b) (List.range' 0 n) k).2 < c / C n b
  | 0, _ => ⟨by show (List.range' 0 n).length = n; rw [List.length_range'], asc_range' n 0, fun y hy => mem_range0.mp hy, by rw [C_zero, Nat.div_one]; exact hk⟩
  | b + 1, h => by
    obtain ⟨h1, h2, h3, h4⟩ := fwd_bound hd hc hdn hk b (by omega)
    have dv := hd b (by omega)
    have w0 := wd_pos dv hc
    have e := wd_out dv (show b < n by omega)
    have p := C_pos n b (by omega)
    have h5 : c / C n b = wd n c b * (n - b) := by
      conv => lhs; rw [← e]
      exact Nat.mul_div_cancel _ p
    rw [h5] at h4
    rw [range'_end, folL_snoc, fol_snoc]
    have hi : (fol n c (List.range' 0 b) (List.range' 0 n) k).2 / wd n c b < (folL n c (List.range' 0 b) (List.range' 0 n) k).length := by
      rw [h1]
      exact Nat.div_lt_of_lt_mul h4
    have hm : (fol n c (List.range' 0 b) (List.range' 0 n) k).2 % wd n c b < wd n c b := Nat.mod_lt _ w0
    have hx := getD_of hi
    have g2 := asc_le h2 h3 hx
    refine ⟨?_, asc_erase h2 _, fun y hy => h3 y (List.mem_of_mem_eraseIdx hy), ?_⟩
    · rw [List.length_eraseIdx, if_pos hi]
      omega
    · rw [wd_back dv (by omega)]
      show wd n c b * _ + _ < _
      have h6 : (folL n c (List.range' 0 b) (List.range' 0 n) k).getD ((fol n c (List.range' 0 b) (List.range' 0 n) k).2 / wd n c b) 0 - (fol n c (List.range' 0 b) (List.range' 0 n) k).2 / wd n c b ≤ b := by omega
      have h7 := Nat.mul_le_mul_left (wd n c b) h6
      rw [Nat.mul_add, Nat.mul_one]
      omega
theorem Beg.step {n c d : Nat} {t : List Nat} {x : Wst} (h : Beg n c t x) (hd : ∀ b, b < d → n * C (n - 1) b ∣ c) (hc : 0 < c) (hdn : d ≤ n) (hb : t.length < d) {s : Nat} (hs : s ∈ x.L) : Beg n c (t ++ [s]) (wStep n c t.length s x) := by
  have dv := hd t.length hb
  have w0 := wd_pos dv hc
  have hix := idx_at hs
  have hil := List.idxOf_lt_length_of_mem hs
  have his := asc_ge h.asc hix
  have ea : (t ++ [s]).length = t.length + 1 := by rw [List.length_append]; rfl
  have e := wd_out dv (show t.length < n by omega)
  have p := C_pos n t.length (by omega)
  have h5 : c / C n t.length = wd n c t.length * (n - t.length) := by
    conv => lhs; rw [← e]
    exact Nat.mul_div_cancel _ p
  -- where the rest lies
  have key : ∀ k : Nat, k < c → x.lo ≤ (k : Int) → (k : Int) < x.hi → ((fol n c (List.range' 0 t.length) (List.range' 0 n) k).2 / wd n c t.length = x.L.idxOf s ↔ (wd n c t.length : Int) * (x.L.idxOf s : Int) - x.mv ≤ (k : Int) ∧ (k : Int) < (wd n c t.length : Int) * ((x.L.idxOf s : Int) + 1) - x.mv) := by
    intro k hk h1 h2
    obtain ⟨r1, _⟩ := h.rest k h1 h2
    rw [div_block w0]
    have c1 : ((wd n c t.length * x.L.idxOf s : Nat) : Int) = (wd n c t.length : Int) * (x.L.idxOf s : Int) := Int.natCast_mul _ _
    have c2 : ((wd n c t.length * (x.L.idxOf s + 1) : Nat) : Int) = (wd n c t.length : Int) * ((x.L.idxOf s : Int) + 1) := Int.natCast_mul _ _
    constructor
    · rintro ⟨a, b⟩
      exact ⟨by omega, by omega⟩
    · rintro ⟨a, b⟩
      exact ⟨by omega, by omega⟩
  have got : ∀ k : Nat, k < c → x.lo ≤ (k : Int) → (k : Int) < x.hi → ((folL n c (List.range' 0 t.length) (List.range' 0 n) k).getD ((fol n c (List.range' 0 t.length) (List.range' 0 n) k).2 / wd n c t.length) 0 = s ↔ (fol n c (List.range' 0 t.length) (List.range' 0 n) k).2 / wd n c t.length = x.L.idxOf s) := by
    intro k hk h1 h2
    obtain ⟨r1, r2⟩ := h.rest k h1 h2
    obtain ⟨b1, _, _, b4⟩ := fwd_bound hd hc hdn hk t.length (by omega)
    rw [h5] at b4
    have hi : (fol n c (List.range' 0 t.length) (List.range' 0 n) k).2 / wd n c t.length < x.L.length := by
      rw [h.len]
      exact Nat.div_lt_of_lt_mul b4
    rw [r2]
    constructor
    · intro z
      have h8 := getD_of hi
      rw [z] at h8
      exact nodup_inj h.nd h8 hix
    · intro z
      rw [z]
      have h8 := getD_of hil
      rw [hix] at h8
      exact (Option.some.inj h8).symm
  refine ⟨h.nd.sublist (List.eraseIdx_sublist _ _), asc_erase h.asc _, ?_, ?_, fun k hk => ?_, fun k h1 h2 => ?_, ?_, fun y hy => h.lt y (List.mem_of_mem_eraseIdx hy), fun z => ?_⟩
  · have := h.lo0
    show 0 ≤ max x.lo _
    omega
  · have := h.hic
    show min x.hi _ ≤ _
    omega
  · rw [ea, range'_end, fol_snoc]
    show _ ++ [_] = t ++ [s] ↔ max x.lo _ ≤ (k : Int) ∧ (k : Int) < min x.hi _
    constructor
    · intro z
      obtain ⟨z1, z2⟩ := List.append_inj' z rfl
      obtain ⟨a, b⟩ := (h.iff k hk).mp z1
      have z3 := (got k hk a b).mp (List.singleton_inj.mp z2)
      have z4 := (key k hk a b).mp z3
      omega
    · intro z
      have a : x.lo ≤ (k : Int) ∧ (k : Int) < x.hi := by omega
      have z3 := (key k hk a.1 a.2).mpr (by omega)
      have z4 := (got k hk a.1 a.2).mpr z3
      rw [(h.iff k hk).mpr a, z4]
  · have h1' : max x.lo ((wd n c t.length : Int) * (x.L.idxOf s : Int) - x.mv) ≤ (k : Int) := h1
    have h2' : (k : Int) < min x.hi ((wd n c t.length : Int) * ((x.L.idxOf s : Int) + 1) - x.mv) := h2
    have a : x.lo ≤ (k : Int) ∧ (k : Int) < x.hi := by omega
    have hk : k < c := by
      have := h.hic
      omega
    have z3 := (key k hk a.1 a.2).mpr (by omega)
    have z4 := (got k hk a.1 a.2).mpr z3
    obtain ⟨r1, r2⟩ := h.rest k a.1 a.2
    rw [ea, range'_end, fol_snoc, folL_snoc, z3, r2]
    rw [z3, r2] at z4
    refine ⟨?_, rfl⟩
    show ((wd n c t.length * (x.L.getD (x.L.idxOf s) 0 - x.L.idxOf s) + (fol n c (List.range' 0 t.length) (List.range' 0 n) k).2 % wd n c t.length : Nat) : Int) = (k : Int) + (x.mv + (wd n c t.length : Int) * ((s : Int) - (x.L.idxOf s : Int) - (x.L.idxOf s : Int)))
    rw [z4]
    have dm := Nat.div_add_mod (fol n c (List.range' 0 t.length) (List.range' 0 n) k).2 (wd n c t.length)
    rw [z3] at dm
    generalize (fol n c (List.range' 0 t.length) (List.range' 0 n) k).2 % wd n c t.length = u at dm
    generalize x.L.idxOf s = i at *
    generalize wd n c t.length = w at *
    rw [Int.natCast_add, Int.natCast_mul, Int.natCast_sub his]
    have dm2 : (w : Int) * (i : Int) + (u : Int) = (k : Int) + x.mv := by
      rw [← r1, ← dm, Int.natCast_add, Int.natCast_mul]
    rw [Int.mul_sub, Int.mul_sub, Int.mul_sub]
    omega
  · rw [ea]
    show (x.L.eraseIdx _).length = _
    rw [List.length_eraseIdx, if_pos hil, h.len]
    omega
  · show z ∈ x.L.eraseIdx _ ↔ _
    rw [mem_erase_iff h.nd hix, h.mem, List.mem_append, List.mem_singleton]
    constructor
    · rintro ⟨⟨a, b⟩, e⟩
      exact ⟨a, fun q => q.elim b e⟩
    · rintro ⟨a, b⟩
      exact ⟨⟨a, fun q => b (.inl q)⟩, fun q => b (.inr q)⟩
theorem fol_take (n c k : Nat) (b : Nat) : ∀ m : Nat, (fol n c (List.range' 0 (b + m)) (List.range' 0 n) k).1.take b = (fol n c (List.range' 0 b) (List.range' 0 n) k).1
  | 0 => by
    have := fol_len n c (List.range' 0 b) (List.range' 0 n) k
    rw [List.length_range'] at this
    exact List.take_of_length_le (by rw [Nat.add_zero]; omega)
  | m + 1 => by
    rw [show b + (m + 1) = b + m + 1 from rfl, range'_end, fol_snoc]
    have := fol_len n c (List.range' 0 (b + m)) (List.range' 0 n) k
    rw [List.length_range'] at this
    show (_ ++ [_]).take b = _
    rw [List.take_append_of_le_length (by omega)]
    exact fol_take n c k b m
theorem wRun_some {n c d : Nat} (hd : ∀ b, b < d → n * C (n - 1) b ∣ c) (hc : 0 < c) (hdn : d ≤ n) {k : Nat} (hk : k < c) : ∀ (r t : List Nat) (x : Wst), t.length + r.length ≤ d → Beg n c t x → (fol n c (List.range' 0 (t.length + r.length)) (List.range' 0 n) k).1 = t ++ r → ∃ y, wRun n c t.length r x = some y ∧ Beg n c (t ++ r) y
  | [], t, x, _, h, _ => ⟨x, rfl, by rw [List.append_nil]; exact h⟩
  | s :: r, t, x, hl, h, he => by
    have el : (s :: r).length = r.length + 1 := rfl
    have e1 : (fol n c (List.range' 0 t.length) (List.range' 0 n) k).1 = t := by
      have := fol_take n c k t.length (s :: r).length
      rw [he, List.take_left] at this
      exact this.symm
    have ea : (t ++ [s]).length = t.length + 1 := by rw [List.length_append]; rfl
    have e2 : (fol n c (List.range' 0 (t.length + 1)) (List.range' 0 n) k).1 = t ++ [s] := by
      have := fol_take n c k (t.length + 1) r.length
      rw [show t.length + 1 + r.length = t.length + (s :: r).length by omega, he] at this
      rw [← this, show t ++ s :: r = (t ++ [s]) ++ r by simp, ← ea, List.take_left]
    have in1 := (h.iff k hk).mp e1
    obtain ⟨r1, r2⟩ := h.rest k in1.1 in1.2
    have dv := hd t.length (by omega)
    have w0 := wd_pos dv hc
    obtain ⟨b1, b2, b3, b4⟩ := fwd_bound hd hc hdn hk t.length (by omega)
    have hs : s ∈ x.L := by
      have e3 := e2
      rw [range'_end, fol_snoc] at e3
      obtain ⟨_, z2⟩ := List.append_inj' e3 rfl
      have z3 := List.singleton_inj.mp z2
      rw [← r2, ← z3]
      refine List.mem_of_getElem? (getD_of ?_)
      rw [b1]
      have e := wd_out dv (show t.length < n by omega)
      have p := C_pos n t.length (by omega)
      have h5 : c / C n t.length = wd n c t.length * (n - t.length) := by
        conv => lhs; rw [← e]
        exact Nat.mul_div_cancel _ p
      rw [h5] at b4
      exact Nat.div_lt_of_lt_mul b4
    have st := h.step hd hc hdn (by omega) hs
    have in2 := (st.iff k hk).mp (by rw [ea]; exact e2)
    obtain ⟨y, y1, y2⟩ := wRun_some hd hc hdn hk r (t ++ [s]) _ (by rw [ea]; omega) st (by rw [ea, show t.length + 1 + r.length = t.length + (s :: r).length by omega, he]; simp)
    refine ⟨y, ?_, by rw [show t ++ s :: r = (t ++ [s]) ++ r by simp]; exact y2⟩
    show (if s ∈ x.L then _ else none) = _
    rw [if_pos hs, if_neg (by omega)]
    rw [ea] at y1
    exact y1
theorem wRun_snoc (n c s : Nat) : ∀ (r : List Nat) (b : Nat) (x : Wst), wRun n c b (r ++ [s]) x = (wRun n c b r x).bind fun y => wRun n c (b + r.length) [s] y
  | [], b, x => rfl
  | u :: r, b, x => by
    show (if u ∈ x.L then _ else none) = Option.bind (if u ∈ x.L then _ else none) _
    by_cases h1 : u ∈ x.L
    · rw [if_pos h1, if_pos h1]
      by_cases h2 : (wStep n c b u x).hi ≤ (wStep n c b u x).lo
      · rw [if_pos h2, if_pos h2]
        rfl
      · rw [if_neg h2, if_neg h2]
        have := wRun_snoc n c s r (b + 1) (wStep n c b u x)
        rw [show (u :: r).length = r.length + 1 from rfl, show b + (r.length + 1) = b + 1 + r.length by omega]
        exact this
    · rw [if_neg h1, if_neg h1]
      rfl
/-- where the numbers of the first i continuations end -/
def cutAt (w : Nat) (y : Wst) (i : Nat) : Int := min y.hi (max y.lo ((w : Int) * (i : Int) - y.mv))
end Ef
namespace Ef
/-! ### sets and their numbers -/
def many (k : Nat) : Nat → Nat
  | 0 => 0
  | j + 1 => C k j
theorem C_many (k j : Nat) : C (k + 1) j = many k j + C k j := by
  cases j with
  | zero => rw [C_zero, C_zero]; rfl
  | succ j => exact C_ss k j
theorem binZ_many (k j : Nat) : binZ (k : Int) ((j : Int) - 1) = (many k j : Int) := by
  cases j with
  | zero => exact if_pos (.inl (by decide))
  | succ j =>
    rw [show ((j + 1 : Nat) : Int) - 1 = (j : Int) by omega]
    exact binZ_nat k j
/-- the set with the number r among those of j of the k servers from s on -/
def unr : Nat → Nat → Nat → Nat → List Nat
  | _, 0, _, _ => []
  | s, k + 1, j, r => if r < many k j then s :: unr (s + 1) k (j - 1) r else unr (s + 1) k j (r - many k j)
/-- the number of a set among those of its size of the k servers from s on -/
def rnk : Nat → Nat → List Nat → Nat
  | _, 0, _ => 0
  | s, k + 1, ms => if ms.head? = some s then rnk (s + 1) k ms.tail else many k ms.length + rnk (s + 1) k ms
def Sub (s k : Nat) (ms : List Nat) : Prop := ms.Pairwise (· < ·) ∧ ∀ m ∈ ms, s ≤ m ∧ m < s + k
theorem unr_spec : ∀ (k s j r : Nat), r < C k j → (unr s k j r).length = j ∧ Sub s k (unr s k j r) ∧ rnk s k (unr s k j r) = r
  | 0, s, j, r, h => by
    cases j with
    | zero =>
      have h0 : r < 1 := h
      exact ⟨rfl, ⟨List.Pairwise.nil, fun m hm => absurd hm List.not_mem_nil⟩, by show 0 = r; omega⟩
    | succ j => exact absurd h (Nat.not_lt_zero _)
  | k + 1, s, j, r, h => by
    rw [C_many] at h
    by_cases c : r < many k j
    · have e : unr s (k + 1) j r = s :: unr (s + 1) k (j - 1) r := if_pos c
      cases j with
      | zero => exact absurd c (Nat.not_lt_zero _)
      | succ j =>
        obtain ⟨h1, h2, h3⟩ := unr_spec k (s + 1) j r c
        rw [e]
        refine ⟨?_, ⟨?_, ?_⟩, ?_⟩
        · show (unr (s + 1) k j r).length + 1 = j + 1
          rw [h1]
        · refine List.Pairwise.cons (fun m hm => ?_) h2.1
          have := h2.2 m hm
          omega
        · intro m hm
          rcases List.mem_cons.mp hm with rfl | hm
          · omega
          · have := h2.2 m hm
            omega
        · have e3 : rnk s (k + 1) (s :: unr (s + 1) k j r) = rnk (s + 1) k (unr (s + 1) k j r) := if_pos rfl
          exact e3.trans h3
    · have e : unr s (k + 1) j r = unr (s + 1) k j (r - many k j) := if_neg c
      obtain ⟨h1, h2, h3⟩ := unr_spec k (s + 1) j (r - many k j) (by omega)
      rw [e]
      refine ⟨h1, ⟨h2.1, fun m hm => by have := h2.2 m hm; omega⟩, ?_⟩
      have hh : ¬ (unr (s + 1) k j (r - many k j)).head? = some s := fun z => by
        have hm : s ∈ unr (s + 1) k j (r - many k j) := List.mem_of_mem_head? z
        have := h2.2 s hm
        omega
      show (if (unr (s + 1) k j (r - many k j)).head? = some s then _ else many k (unr (s + 1) k j (r - many k j)).length + rnk (s + 1) k (unr (s + 1) k j (r - many k j))) = r
      rw [if_neg hh, h1, h3]
      omega
theorem rnk_spec : ∀ (k s : Nat) (ms : List Nat), Sub s k ms → rnk s k ms < C k ms.length ∧ unr s k ms.length (rnk s k ms) = ms
  | 0, s, ms, h => by
    cases ms with
    | nil => exact ⟨Nat.one_pos, rfl⟩
    | cons m r =>
      have := h.2 m List.mem_cons_self
      omega
  | k + 1, s, ms, h => by
    by_cases c : ms.head? = some s
    · cases ms with
      | nil => cases c
      | cons m t =>
        obtain rfl : m = s := Option.some.inj c
        have ht : Sub (m + 1) k t := ⟨(List.pairwise_cons.mp h.1).2, fun x hx => by
          have h1 := (List.pairwise_cons.mp h.1).1 x hx
          have h2 := h.2 x (List.mem_cons_of_mem _ hx)
          omega⟩
        obtain ⟨h1, h2⟩ := rnk_spec k (m + 1) t ht
        have e : rnk m (k + 1) (m :: t) = rnk (m + 1) k t := if_pos rfl
        rw [e]
        have hm : rnk (m + 1) k t < many k (t.length + 1) := h1
        refine ⟨?_, ?_⟩
        · rw [C_many]
          exact Nat.lt_of_lt_of_le hm (Nat.le_add_right _ _)
        · show unr m (k + 1) (t.length + 1) (rnk (m + 1) k t) = m :: t
          have e2 : unr m (k + 1) (t.length + 1) (rnk (m + 1) k t) = m :: unr (m + 1) k t.length (rnk (m + 1) k t) := if_pos hm
          rw [e2, h2]
    · have hs : Sub (s + 1) k ms := ⟨h.1, fun x hx => by
        have h2 := h.2 x hx
        have hne : x ≠ s := fun z => by
          subst z
          cases ms with
          | nil => cases hx
          | cons m t =>
            rcases List.mem_cons.mp hx with z | hx
            · exact c (by rw [z]; rfl)
            · have h3 := (List.pairwise_cons.mp h.1).1 x hx
              have h4 := h.2 m List.mem_cons_self
              omega
        omega⟩
      obtain ⟨h1, h2⟩ := rnk_spec k (s + 1) ms hs
      have e : rnk s (k + 1) ms = many k ms.length + rnk (s + 1) k ms := if_neg c
      rw [e]
      refine ⟨by rw [C_many]; omega, ?_⟩
      have e2 : unr s (k + 1) ms.length (many k ms.length + rnk (s + 1) k ms) = unr (s + 1) k ms.length (many k ms.length + rnk (s + 1) k ms - many k ms.length) := if_neg (by omega)
      rw [e2, Nat.add_sub_cancel_left, h2]
/-! the small sets, one after the other -/
def allG (few : Nat) : Nat → List (List Nat)
  | 0 => [[]]
  | i + 1 => allG few i ++ ((allG few i).filter fun s => decide (s.length < few)).map fun s => s ++ [i]
def allS (n few : Nat) : List (List Nat) := (allG few n).filter fun s => decide (s.length = few)
def inOrder (n few : Nat) : List (List Nat) := (List.range (C n few)).map (unr 0 n few)
def codeN : List Nat → Nat
  | [] => 0
  | d :: r => d * 8 ^ r.length + codeN r
def smallOk (n few : Nat) : Bool := (allS n few).isPerm (inOrder n few) && decide ((inOrder n few).Pairwise fun a b => codeN a < codeN b)
theorem small_sets : ((List.range 6).all fun i => (List.range (i + 3)).all fun few => smallOk (i + 2) few) = true := by decide +kernel
theorem small_lens : ((List.range 6).all fun i => (List.range (i + 3)).all fun few => decide (C (i + 2) few < 64) && (allS (i + 2) few).all fun s => decide (s.length = few) && s.all fun m => decide (m < 8)) = true := by decide +kernel
theorem gen_lens : ((List.range 6).all fun i => (List.range (i + 3)).all fun few => (List.range (i + 3)).all fun t => decide ((allG few t).length ≤ 200) && (allG few t).all fun s => decide (s.length ≤ 8)) = true := by decide +kernel
theorem small_sets' {n k : Nat} (h2 : 2 ≤ n) (h7 : n ≤ 7) (hk : k ≤ n) : (allS n k).Perm (inOrder n k) ∧ (inOrder n k).Pairwise (fun a b => codeN a < codeN b) ∧ C n k < 64 ∧ ∀ s ∈ allS n k, s.length = k ∧ ∀ m ∈ s, m < 8 := by
  obtain ⟨i, rfl⟩ : ∃ i, n = i + 2 := ⟨n - 2, by omega⟩
  have h1 := List.all_eq_true.mp (List.all_eq_true.mp small_sets i (List.mem_range.mpr (by omega))) k (List.mem_range.mpr (by omega))
  unfold smallOk at h1
  rw [Bool.and_eq_true] at h1
  have h3 := List.all_eq_true.mp (List.all_eq_true.mp small_lens i (List.mem_range.mpr (by omega))) k (List.mem_range.mpr (by omega))
  rw [Bool.and_eq_true] at h3
  refine ⟨List.isPerm_iff.mp h1.1, of_decide_eq_true h1.2, of_decide_eq_true h3.1, fun s hs => ?_⟩
  have h4 := List.all_eq_true.mp h3.2 s hs
  rw [Bool.and_eq_true] at h4
  exact ⟨of_decide_eq_true h4.1, fun m hm => of_decide_eq_true (List.all_eq_true.mp h4.2 m hm)⟩
theorem gen_lens' {n k t : Nat} (h2 : 2 ≤ n) (h7 : n ≤ 7) (hk : k ≤ n) (ht : t ≤ n) : (allG k t).length ≤ 200 ∧ ∀ s ∈ allG k t, s.length ≤ 8 := by
  obtain ⟨i, rfl⟩ : ∃ i, n = i + 2 := ⟨n - 2, by omega⟩
  have h1 := List.all_eq_true.mp (List.all_eq_true.mp (List.all_eq_true.mp gen_lens i (List.mem_range.mpr (by omega))) k (List.mem_range.mpr (by omega))) t (List.mem_range.mpr (by omega))
  rw [Bool.and_eq_true] at h1
  exact ⟨of_decide_eq_true h1.1, fun s hs => of_decide_eq_true (List.all_eq_true.mp h1.2 s hs)⟩
theorem code_inj {L : List (List Nat)} (h : L.Pairwise fun a b => codeN a < codeN b) {a b : List Nat} (ha : a ∈ L) (hb : b ∈ L) (e : codeN a = codeN b) : a = b := by
  induction L with
  | nil => cases ha
  | cons x r ih =>
    obtain ⟨h1, h2⟩ := List.pairwise_cons.mp h
    rcases List.mem_cons.mp ha with e1 | ha2
    · rcases List.mem_cons.mp hb with e2 | hb2
      · rw [e1, e2]
      · have := h1 b hb2
        rw [← e1] at this
        omega
    · rcases List.mem_cons.mp hb with e2 | hb2
      · have := h1 a ha2
        rw [← e2] at this
        omega
      · exact ih h2 ha2 hb2
theorem order_unique {L M : List (List Nat)} (hM : M.Pairwise fun a b => codeN a < codeN b) (hL : L.Pairwise fun a b => codeN a ≤ codeN b) (h : L.Perm M) : L = M := by
  induction M generalizing L with
  | nil => exact List.perm_nil.mp h
  | cons x r ih =>
    cases L with
    | nil => exact absurd h.length_eq (by simp)
    | cons y t =>
      obtain ⟨h1, h2⟩ := List.pairwise_cons.mp hM
      obtain ⟨h3, h4⟩ := List.pairwise_cons.mp hL
      have hyx : y = x := by
        have hy : y ∈ x :: r := h.mem_iff.mp List.mem_cons_self
        have hx : x ∈ y :: t := h.mem_iff.mpr List.mem_cons_self
        rcases List.mem_cons.mp hy with e | hy
        · exact e
        · rcases List.mem_cons.mp hx with e | hx
          · exact e.symm
          · have h5 := h1 y hy
            have h6 := h3 x hx
            omega
      subst hyx
      rw [ih h2 h4 h.cons_inv]
end Ef
namespace Ef
open PySem PySem.Spec PyProof.Rows L2
/-! ### a call whose arguments are all given by name -/
def permL {α : Type} (perm : List Nat) (n : Nat) (us ws : List α) : List α :=
  if us.length = 0 ∧ ws.length = n then perm.filterMap (fun i => ws[i]?) else []
theorem paired_len {α β : Type} {F : α → β → Prop} : ∀ {l : List α} {m : List β}, Paired F l m → l.length = m.length
  | _, _, .nil => rfl
  | _, _, .cons _ t => congrArg (· + 1) (paired_len t)
theorem paired_at {α β : Type} {F : α → β → Prop} : ∀ {l : List α} {m : List β}, Paired F l m → ∀ i : Nat, (l[i]? = none ∧ m[i]? = none) ∨ ∃ x y, l[i]? = some x ∧ m[i]? = some y ∧ F x y
  | _, _, .nil, _ => .inl ⟨rfl, rfl⟩
  | _, _, .cons h _, 0 => .inr ⟨_, _, rfl, rfl, h⟩
  | _, _, .cons _ t, i + 1 => by
    rw [List.getElem?_cons_succ, List.getElem?_cons_succ]
    exact paired_at t i
theorem paired_pick {α β : Type} {F : α → β → Prop} {l : List α} {m : List β} (h : Paired F l m) : ∀ perm : List Nat, Paired F (perm.filterMap (fun i => l[i]?)) (perm.filterMap (fun i => m[i]?))
  | [] => .nil
  | i :: r => by
    rcases paired_at h i with ⟨e1, e2⟩ | ⟨x, y, e1, e2, f⟩
    · rw [List.filterMap_cons_none e1, List.filterMap_cons_none e2]
      exact paired_pick h r
    · rw [List.filterMap_cons_some e1, List.filterMap_cons_some e2]
      exact .cons f (paired_pick h r)
theorem permL_rel {perm : List Nat} {n : Nat} {vs zs : List V} {us ws : List Value} (r : Vals vs us) (rz : Vals zs ws) : Vals (permL perm n vs zs) (permL perm n us ws) := by
  unfold permL
  rw [paired_len r, paired_len rz]
  by_cases h : us.length = 0 ∧ ws.length = n
  · rw [if_pos h, if_pos h]
    exact paired_pick rz perm
  · rw [if_neg h, if_neg h]
    exact .nil
theorem kb_of {K : PySem.W.Frag} {fd : FuncData} {ps ks : List Str} {perm : List Nat} {n : Nat} (h0 : ps ≠ [])
    (h : ∀ ws : List Value, ws.length = n → bindArgs fd ⟨[], ks.zip ws⟩ = pure (ps.zip (perm.filterMap (fun i => ws[i]?)))) :
    KBinds K fd ps ks (permL perm n) (permL perm n) := by
  refine ⟨fun s us ws _ hl => ?_, fun r rz => permL_rel r rz⟩
  unfold permL at hl ⊢
  by_cases c : us.length = 0 ∧ ws.length = n
  · rw [if_pos c]
    have e : us = [] := List.length_eq_zero_iff.mp c.1
    subst e
    exact .of_eq (h ws c.2)
  · rw [if_neg c] at hl
    exact absurd (List.length_eq_zero_iff.mp hl.symm) h0
theorem Fun_kb {K : PySem.W.Frag} {x qual : Str} {st : Stmt} {f : Addr} {fd : FuncData} {ps ks : List Str} (perm : List Nat) (n : Nat) (F : Fun K x qual st f fd) (h0 : ps ≠ [])
    (h : ∀ (kV doc pm : Value) (an : Option Addr) (cdv ct : Value) (ws : List Value), ws.length = n → bindArgs (PySem.W.fnOf x qual (defArgs st) (defBody st) (defScope st) .none kV doc pm an cdv ct) ⟨[], ks.zip ws⟩ = pure (ps.zip (perm.filterMap (fun i => ws[i]?)))) :
    KBinds K fd ps ks (permL perm n) (permL perm n) := by
  obtain ⟨oc, od, kV, doc, pm, an, cdv, ct, osl, rfl, lk, hcd⟩ := F.ex
  exact kb_of h0 (h kV doc pm an cdv ct)
section
variable {X : Cx} {CX : CXT} {k : Nat} {f : Addr} {fd : FuncData} {ps ks : List Str} {sp : Sp} {E : XK} {x : Str} {p pos : Pos} {kws : List Keyword} {tk : TA}
variable {g : List Value → List Value → List Value} {gV : List V → List V → List V}
/-- f(k = v, ..) -/
theorem pe_kw (F : FnOk X.prog X.w X.K X.mg X.base CX k f fd ps sp) (hr : Room k X.A) (hg : Gl X x) (hm : X.mg x = some (.ref f))
    (hk : PySem.W.keepIn X.K (.ref f) = true) (hb : KBinds X.K fd ps ks g gV) (hx : Passes CX X E) (hkw : PK X kws tk)
    (a1 : (backToKw pos (keywordEach kws X.env)).all (fun z => z.1.isSome) = true := by rfl)
    (a2 : (backToKw pos (keywordEach kws X.env)).filterMap (fun z => z.1) = ks := by rfl)
    (a3 : (x == ("__debug__" : Str)) = false := by decide)
    (a4 : ((backTo pos (starEach [] X.env)).any (fun z => z.1) || (backToKw pos (keywordEach kws X.env)).any (fun z => z.1.isNone)) = false := by rfl) :
    PE X (.Call (.Name x p) [] kws pos) (tCallK sp gV E tNil tk) := by
  refine ⟨fun pins s σ H Q I h => wpAny_Call_Name_kw (ld_glob I hg hm ?_ a3)⟩
  refine PySem.W.callWith_KW0 (h₀ := X.base) I.ok.mod.kin hk a1 ?_ a4
  refine thn (hkw.run pos pins s σ H _ I h) fun ws s2 z => ?_
  obtain ⟨zs, H2, I2, rz, q2⟩ := z
  refine ⟨I2.kIn, ?_⟩
  rw [a2]
  exact run_fnk (us := []) (vs := []) F hr hb hx I2 .nil rz q2
end
/-! ### heaps -/
theorem same_new {H : Hp} {p : Addr} {o : HO} (h : H p = none) : Same H (upd H p o) := fun b x e => by
  rw [upd_ne (ne_of_none e h)]
  exact e
theorem keep_upd {H H1 : Hp} {p : Addr} {o : HO} (s : Same H H1) (h : H p = none) : Same H (upd H1 p o) := fun b x e => by
  rw [upd_ne (ne_of_none e h)]
  exact s b x e
/-- all but what stands at p is as it was -/
def But (p : Addr) (H H' : Hp) : Prop := ∀ b o, b ≠ p → H b = some o → H' b = some o
theorem But.refl (p : Addr) (H : Hp) : But p H H := fun _ _ _ e => e
theorem But.trans {p : Addr} {H H1 H2 : Hp} (s : But p H H1) (t : But p H1 H2) : But p H H2 := fun b o n e => t b o n (s b o n e)
theorem But.same {p : Addr} {H H1 H2 : Hp} (s : But p H H1) (t : Same H1 H2) : But p H H2 := fun b o n e => t b o (s b o n e)
theorem But.of {p : Addr} {H H1 : Hp} (t : Same H H1) : But p H H1 := fun b o _ e => t b o e
theorem But.upd {p : Addr} {H H1 : Hp} {o : HO} (s : But p H H1) : But p H (upd H1 p o) := fun b x n e => by
  rw [upd_ne n]
  exact s b x n e
theorem But.to {p : Addr} {H H1 : Hp} (s : But p H H1) (h : H p = none) : Same H H1 := fun b x e => s b x (ne_of_none e h) e
theorem But.seq {K : PySem.W.Frag} {p a : Addr} {H H' : Hp} {xs : List V} (e : But p H H') (n : a ≠ p) (h : SqL K H a xs) : SqL K H' a xs := by
  rcases h with (h | ⟨o, h⟩) | h
  · exact .inl (.inl (e _ _ n h))
  · exact .inl (.inr ⟨o, e _ _ n h⟩)
  · exact .inr h
end Ef
namespace Ef
open PySem PySem.Spec PyProof.Rows L2
/-! ### promises of defs that are called where no repr is under way -/
structure FnG (P : Program) (w : World) (K : PySem.W.Frag) (mg : Str → Option Value) (base : Heap) (CX : CXT) (k : Nat) (f : Addr) (fd : FuncData) (ps : List Str) (sp : Sp) : Prop where
  len : ∀ vs H Q E, sp vs H Q E → vs.length = ps.length
  run : ∀ (A : Around), A.guards = some [] → ∀ (outer : List Env) (s : Shared) (H : Hp) (args : Args) (us : List Value) (vs : List V) (Q : VK) (E : XK),
    Room k A → Env0 P w K mg base A outer s H → BindsTo s fd args (ps.zip us) → Vals vs us → sp vs H Q E →
      codeAny (model P w) A (.call (.ref f) args) (CR CX outer P w H s Q E) s
section
variable {P : Program} {w : World} {K : PySem.W.Frag} {mg : Str → Option Value} {base : Heap} {CX : CXT}
theorem FnG.of {k : Nat} {f : Addr} {fd : FuncData} {ps : List Str} {sp : Sp} (F : FnOk P w K mg base CX k f fd ps sp) : FnG P w K mg base CX k f fd ps sp :=
  ⟨F.len, fun A _ outer s H args us vs Q E => F.run A outer s H args us vs Q E⟩
theorem Fun_okG {x qual : Str} {st : Stmt} {f : Addr} {fd : FuncData} {N ps : List Str} {k : Nat} {sp : Sp} (F : Fun K x qual st f fd) (S : FnScope N ps (defScope st)) (len : ∀ vs H Q E, sp vs H Q E → vs.length = ps.length)
    (bod : ∀ (cdv : Value) (A : Around) (outer : List Env) (s : Shared) (H : Hp) (vs : List V) (Q : VK) (E : XK), A.guards = some [] → Room k (A.deeper (envOfC qual (defScope st) s.heap.objs.size f cdv)) → sp vs H Q E →
      ∃ t, PSs (cxOf CX P w K mg base N qual (defScope st) f cdv A outer s H E) (defBody st) t ∧ t { nx := fun _ H' => Q .non H', rt := Q } (start N vs) H) :
    FnG P w K mg base CX (k + 1) f fd ps sp := by
  obtain ⟨oc, od, kV, doc, pm, an, cdv, ct, osl, rfl, lk, hcd⟩ := F.ex
  refine ⟨len, fun A gd outer s H args us vs Q E room e0 bnd rel wish => ?_⟩
  have kin : K.In s.heap := e0.mod.kin.keeps fun b o z => (e0.bs b o z).1
  have nolim : s.heap.NoLimit := e0.mod.nolimit.keeps fun b o z => (e0.bs b o z).1
  refine codeAny_call_function room.depth (kin _ _ lk) rfl S.co S.gen rfl (PySem.W.codeRec_of kin hcd) (bnd _ _ _ _ ?_)
  refine wpAny_newFunctionEnv_cells S.kind ?_ fun env hev s1 ic => ?_
  · rintro ⟨n, v⟩ hy
    rcases S.par n (List.of_mem_zip hy).1 with z | z
    · exact .inl z
    · exact .inr ⟨z, PySem.W.cellsFrom_some _ _ _ (.inl z)⟩
  · subst hev
    refine ⟨nolim.keeps ic.toInCall.keep, codeAny_func ?_⟩
    obtain ⟨t, pt, rd⟩ := bod cdv A outer s H vs Q E gd (room.deeper _) wish
    have J0 := inv_start (CX := CX) (E := E) S room.hd e0 (len _ _ _ _ wish) rel ic
    refine wpAny_mono (pt.run [] s1 (start N vs) H _ J0 rd) (fun fl s' got => ?_) fun e s' got => got
    cases fl with
    | brk =>
      obtain ⟨_, _, _, z⟩ := got
      exact z.elim
    | cont =>
      obtain ⟨_, _, _, z⟩ := got
      exact z.elim
    | next =>
      obtain ⟨σ', H', J, z⟩ := got
      exact ⟨V.non, H', J.os, J.bare, J.base, J.hok, (rfl : RelV V.non Value.none), z⟩
    | ret u =>
      obtain ⟨v, σ', H', J, rv, z⟩ := got
      exact ⟨v, H', J.os, J.bare, J.base, J.hok, rv, z⟩
end
/-- the same of a def that lets no exception out -/
theorem Fun_ok0 {P : Program} {w : World} {K : PySem.W.Frag} {mg : Str → Option Value} {base : Heap} {x qual : Str} {st : Stmt} {f : Addr} {fd : FuncData} {N ps : List Str} {k : Nat} {sp : Sp} (F : Fun K x qual st f fd) (S : FnScope N ps (defScope st)) (len : ∀ vs H Q E, sp vs H Q E → vs.length = ps.length)
    (bod : ∀ (cdv : Value) (A : Around) (outer : List Env) (s : Shared) (H : Hp) (vs : List V) (Q : VK) (E : XK), A.guards = some [] → Room k (A.deeper (envOfC qual (defScope st) s.heap.objs.size f cdv)) → sp vs H Q E →
      ∃ t, PSs (cxOf CX0 P w K mg base N qual (defScope st) f cdv A outer s H E).nox (defBody st) t ∧ t { nx := fun _ H' => Q .non H', rt := Q } (start N vs) H) :
    FnG P w K mg base CX0 (k + 1) f fd ps sp :=
  Fun_okG F S len fun cdv A outer s H vs Q E gd room wish => by
    obtain ⟨t, pt, rd⟩ := bod cdv A outer s H vs Q E gd room wish
    exact ⟨t, pt.nox, rd⟩
section
variable {X : Cx} {CX : CXT} {k : Nat} {f : Addr} {fd : FuncData} {ps : List Str} {sp : Sp} {E : XK} {x : Str} {p pos : Pos} {e : Expr} {es : List Expr} {t : TA}
theorem run_G {pins : List (Addr × Obj)} {σ : L2.St} {H : Hp} {s : Shared} {Q : VK} {us : List Value} {vs : List V} (F : FnG X.prog X.w X.K X.mg X.base CX k f fd ps sp)
    (gd : X.A.guards = some []) (room : Room k X.A) (bnd : Binds X.K fd ps []) (pass : Passes CX X E) (I : Inv X pins σ H s) (rel : Vals vs us) (wish : sp vs H Q E) :
    wpAny (model X.prog X.w) X.A (call (.ref f) us) (EP X pins σ Q) X.xe s := by
  have hl : (us ++ []).length = ps.length := by
    rw [List.append_nil, ← rel.length]
    exact F.len _ _ _ _ wish
  have b1 := bnd s us I.kIn hl
  rw [List.append_nil] at b1
  refine wpAny_call (codeAny_mono (F.run X.A gd X.stack s H ⟨us, []⟩ us vs Q E room I.env0 b1 rel wish) fun res s' got => ?_)
  cases res with
  | error z => exact pass pins σ H s z s' I got
  | ok fl =>
    cases fl with
    | ret u => exact I.after got
    | next => exact got.elim
    | brk => exact got.elim
    | cont => exact got.elim
/-- f(e, ..) of a def whose promise holds where no repr is under way -/
theorem pe_callG (F : FnG X.prog X.w X.K X.mg X.base CX k f fd ps sp) (gd : X.A.guards = some []) (room : Room k X.A) (hg : Gl X x) (hm : X.mg x = some (.ref f))
    (hk : PySem.W.keepIn X.K (.ref f) = true) (bnd : Binds X.K fd ps []) (pass : Passes CX X E) (ha : PA X (e :: es) t)
    (a1 : (x == ("__debug__" : Str)) = false := by decide) (a2 : starEach (e :: es) X.env = (false, eval e X.env) :: starEach es X.env := by rfl)
    (a3 : (backTo pos (starEach es X.env)).any (fun z => z.1) = false := by rfl) :
    PE X (.Call (.Name x p) (e :: es) [] pos) (tCall sp [] E t) := by
  refine ⟨fun pins s σ H Q I h => wpAny_Call_Name_kw (ld_glob I hg hm ?_ a1)⟩
  refine PySem.W.callWith_K (h₀ := X.base) I.ok.mod.kin hk (thn (ha.run pos pins s σ H _ I h) fun us s1 z => ?_) a2 a3
  obtain ⟨vs, H1, I1, r, q⟩ := z
  rw [List.append_nil] at q
  exact ⟨I1.kIn, run_G F gd room bnd pass I1 r q⟩
end
/-! ### the law's own end, where no repr is under way -/
def scriptObj (vs : List Value) : Obj := { cls := .type "list", data := .seq vs.toArray }
def scriptHp (K : PySem.W.Frag) (a : Addr) (vs : List Value) (ns : List Int) : Hp := fun b => if b = a ∧ K.lookup a = none then some (.frz (scriptObj vs) (.lst (ns.map V.int))) else none
section
variable {K : PySem.W.Frag} {a : Addr} {vs : List Value} {ns : List Int}
theorem scriptHp_only : Only (scriptHp K a vs ns) := fun b => by
  unfold scriptHp
  by_cases c : b = a ∧ K.lookup a = none
  · exact .inr ⟨_, _, if_pos c⟩
  · exact .inl (if_neg c)
theorem scriptHp_some {b : Addr} {u : HO} (h : scriptHp K a vs ns b = some u) : b = a ∧ K.lookup a = none ∧ u = .frz (scriptObj vs) (.lst (ns.map V.int)) := by
  unfold scriptHp at h
  by_cases c : b = a ∧ K.lookup a = none
  · rw [if_pos c] at h
    exact ⟨c.1, c.2, (Option.some.inj h).symm⟩
  · rw [if_neg c] at h
    cases h
theorem scriptHp_none {b : Addr} {o : Obj} {h : Heap} (ha : h.get? a = some (scriptObj vs)) (e : h.get? b = some o) (hd : ∀ its n, o.data ≠ .seq its n) : scriptHp K a vs ns b = none := by
  cases q : scriptHp K a vs ns b with
  | none => rfl
  | some u =>
    obtain ⟨rfl, _, _⟩ := scriptHp_some q
    rw [ha] at e
    cases e
    exact absurd rfl (hd vs.toArray _)
theorem lawG {l : PySem.W.OpenLaw} {n k : Nat} {q : Program} {loose : List Str} {XP : (Str → Option Value) → Heap → Prop} {YP : World → Heap → Prop} {d : DefRec} {K : Params → PySem.W.Frag} {sp : World → Sp} {x : Str}
    (hn : l.most = some n) (hn2 : n ≤ sizeLine) (hdf : d.params.defaults = []) (room : Room k callerA)
    (hY : ∀ (w : World) (h : Heap), YP w h → (K w.params).In h)
    (F : ∀ (w : World) (mg : Str → Option Value) (fa : Addr) (h : Heap), (K w.params).In h → h.Ns mainGlobals mg → mg d.name = some (.ref fa) →
      ∃ fd : FuncData, (∀ (s : Shared) (u : Value), BindsTo s fd ⟨[u], []⟩ [(x, u)]) ∧
        ∀ base : Heap, (K w.params).In base → base.Ns mainGlobals mg → FnG l.prog w (K w.params) mg base CX0 k fa fd [x] (sp w))
    (hsp : ∀ (w : World) (H : Hp) (a : Addr) (ns : List Int), ns.length ≤ n → Only H → SqL (K w.params) H a (ns.map V.int) → sp w [.ref a] H (fun v _ => v = .bl true) fun _ _ _ => False) :
    PySem.W.WalkO q loose XP YP l.row.toRowW d [] (fun f vs => PySem.call f vs) := by
  refine Att.attach_call hn hdf fun w s₀ s₁ mg mb fa o pm cd doc a vs ns G Y ho hd hcd hmg hobj hints hlen hgen => ?_
  have kin := hY w _ Y
  obtain ⟨fd, bnd, FF⟩ := F w mg fa _ kin G.T.g hmg
  have ha : s₁.heap.get? a = some (scriptObj vs) := hobj
  have short : ns.length ≤ sizeLine := Nat.le_trans hlen hn2
  have keep0 : ∀ {b : Addr} {o : Obj}, s₁.heap.get? b = some o → scriptHp (K w.params) a vs ns b = none → (hidT s₁.heap (scriptHp (K w.params) a vs ns)).get? b = some o := fun e z => hidT_get e z
  have nsK : ∀ {b : Addr} {m : Str → Option Value}, s₁.heap.Ns b m → (hidT s₁.heap (scriptHp (K w.params) a vs ns)).Ns b m := by
    rintro b m ⟨o, es, ep, e, dd, r⟩
    exact ⟨o, es, ep, keep0 e (scriptHp_none ha e fun its n z => by rw [dd] at z; cases z), dd, r⟩
  have kinB : (K w.params).In (hidT s₁.heap (scriptHp (K w.params) a vs ns)) := fun b o e => keep0 (kin b o e) (by
    cases z : scriptHp (K w.params) a vs ns b with
    | none => rfl
    | some u =>
      obtain ⟨rfl, z2, _⟩ := scriptHp_some z
      rw [z2] at e
      cases e)
  have hM : Mod (K w.params) mg (hidT s₁.heap (scriptHp (K w.params) a vs ns)) := by
    obtain ⟨mc, h1, h2⟩ := G.T.nolimit
    exact ⟨kinB, nsK G.T.g, ⟨mb, nsK G.T.b, G.T.builtins⟩, ⟨mc, nsK h1, h2⟩⟩
  have hok : HOk l.prog w (scriptHp (K w.params) a vs ns) s₁.heap := fun b u z => by
    obtain ⟨rfl, _, rfl⟩ := scriptHp_some z
    exact ⟨ha, by rw [List.length_map]; exact short, vs, _, vals_ints hints, ha⟩
  have hS : SqL (K w.params) (scriptHp (K w.params) a vs ns) a (ns.map V.int) := by
    cases hk : (K w.params).lookup a with
    | none => exact .inl (.inr ⟨scriptObj vs, if_pos ⟨rfl, hk⟩⟩)
    | some o =>
      have e := kin a o hk
      rw [ha] at e
      obtain rfl := Option.some.inj e
      exact .inr ⟨_, vs.toArray, _, hk, rfl, rfl, rfl, by rw [List.size_toArray, hints.length]; exact short, by simpa using vals_ints hints⟩
  have e0 : Env0 l.prog w (K w.params) mg (hidT s₁.heap (scriptHp (K w.params) a vs ns)) callerA [] s₁ (scriptHp (K w.params) a vs ns) :=
    ⟨rfl, hM, fun b o e => of_hidT e, Nat.le_of_eq (hidT_size _ _), trivial, fun b z => absurd (show b ∈ ([] : List Addr) from z) (by simp), hok, .of_eq hgen⟩
  refine codeAny_mono ((FF _ kinB (nsK G.T.g)).run callerA rfl [] s₁ _ ⟨[.ref a], []⟩ [.ref a] [.ref a] _ _ room e0 (bnd s₁ (.ref a)) (.cons rfl .nil) (hsp w _ a ns hlen scriptHp_only hS)) fun r s' got => ?_
  cases r with
  | error e => exact got.elim
  | ok fl =>
    cases fl with
    | next => exact got.elim
    | brk => exact got.elim
    | cont => exact got.elim
    | ret u =>
      obtain ⟨v, H', os, bare, un, hok', rv, z⟩ := got
      obtain rfl : v = .bl true := z
      obtain rfl : u = Value.bool true := rv
      refine ⟨rfl, OldK.of_keep fun b o e => ?_, os, bare⟩
      cases z : scriptHp (K w.params) a vs ns b with
      | none => exact un.keep b o e z (fun y => absurd (show b ∈ ([] : List Addr) from y) (by simp)) (by simp)
      | some u =>
        obtain ⟨_, _, rfl⟩ := scriptHp_some z
        have z2 := un.frzs b _ _ z
        obtain ⟨e1, _⟩ := hok b _ z
        obtain ⟨e2, _⟩ := hok' b _ z2
        rw [e] at e1
        obtain rfl := Option.some.inj e1
        exact e2
end
/-! ### repr of data -/
theorem Dp_ref {K : PySem.W.Frag} {H : Hp} {v : V} {d : PyData} (h : Dp K H v d) : (∃ a, v = .ref a) ∨ (v = .non ∧ d = .none) ∨ (∃ b, v = .bl b ∧ d = .bool b) ∨ (∃ i, v = .int i ∧ d = .int i) ∨ ∃ x, v = .str x ∧ d = .str x := by
  cases h with
  | non => exact .inr (.inl ⟨rfl, rfl⟩)
  | bl b => exact .inr (.inr (.inl ⟨b, rfl, rfl⟩))
  | int i => exact .inr (.inr (.inr (.inl ⟨i, rfl, rfl⟩)))
  | str x => exact .inr (.inr (.inr (.inr ⟨x, rfl, rfl⟩)))
  | lst _ _ => exact .inl ⟨_, rfl⟩
  | tup _ _ => exact .inl ⟨_, rfl⟩
/-- data that can be shown: not deeper than dp, not heavier than wt -/
structure Sh (dp wt : Nat) (d : PyData) : Prop where
  can : d.canLay0 = true
  dep : d.depth ≤ dp
  shw : d.showable = true
  lvs : d.leavesShort 200 = true
  wgt : d.weight ≤ wt
structure ShAll (dp wt : Nat) (ds : List PyData) : Prop where
  can : PyData.canLayAll0 ds = true
  dep : PyData.depthAll ds ≤ dp
  shw : PyData.showableAll ds = true
  lvs : PyData.leavesShortAll 200 ds = true
  wgt : PyData.weightAll ds ≤ wt
theorem Sh.mono {dp wt dp' wt' : Nat} {d : PyData} (h : Sh dp wt d) (h1 : dp ≤ dp') (h2 : wt ≤ wt') : Sh dp' wt' d := ⟨h.can, Nat.le_trans h.dep h1, h.shw, h.lvs, Nat.le_trans h.wgt h2⟩
theorem ShAll.mono {dp wt dp' wt' : Nat} {ds : List PyData} (h : ShAll dp wt ds) (h1 : dp ≤ dp') (h2 : wt ≤ wt') : ShAll dp' wt' ds := ⟨h.can, Nat.le_trans h.dep h1, h.shw, h.lvs, Nat.le_trans h.wgt h2⟩
theorem Sh.none : Sh 0 0 .none := ⟨rfl, Nat.le_refl _, rfl, rfl, Nat.le_refl _⟩
theorem Sh.bool (b : Bool) : Sh 0 0 (.bool b) := ⟨rfl, Nat.le_refl _, rfl, rfl, Nat.le_refl _⟩
theorem Sh.int {b : Nat} (h0 : 0 < b) (h6 : b ≤ 600) {i : Int} (h : i.natAbs < 2 ^ b) : Sh 0 b (.int i) := by
  have l2 := PySem.Flt.log2_lt_of h0 h
  refine ⟨rfl, Nat.le_refl _, decide_eq_true (by omega), decide_eq_true ?_, ?_⟩
  · have h1 : i.natAbs < 10 ^ 199 := Nat.lt_of_lt_of_le h (Nat.le_trans (Nat.pow_le_pow_right (by decide) h6) (by decide +kernel))
    have e := int_text_length_le10 (k := 199) (by decide) h1
    show (Str.ofString (toString i)).length ≤ 200
    rw [PySem.ofString_length]
    exact e
  · show (if i == 0 then 0 else i.natAbs.log2 + 1) ≤ b
    split <;> omega
theorem Sh.tup {dp wt : Nat} {ds : List PyData} (h : ShAll dp wt ds) : Sh (dp + 1) wt (.tuple ds) := ⟨h.can, Nat.add_le_add_right h.dep 1, h.shw, h.lvs, h.wgt⟩
theorem Sh.lst {dp wt : Nat} {ds : List PyData} (h : ShAll dp wt ds) : Sh (dp + 1) wt (.list ds) := ⟨h.can, Nat.add_le_add_right h.dep 1, h.shw, h.lvs, h.wgt⟩
theorem ShAll.nil : ShAll 0 0 [] := ⟨rfl, Nat.le_refl _, rfl, rfl, Nat.le_refl _⟩
theorem ShAll.cons {dp wt wt' : Nat} {d : PyData} {ds : List PyData} (h : Sh dp wt d) (t : ShAll dp wt' ds) : ShAll dp (wt + 1 + wt') (d :: ds) := by
  refine ⟨?_, Nat.max_le.mpr ⟨h.dep, t.dep⟩, ?_, ?_, ?_⟩
  · show (d.canLay0 && PyData.canLayAll0 ds) = true
    rw [h.can, t.can]
    rfl
  · show (d.showable && PyData.showableAll ds) = true
    rw [h.shw, t.shw]
    rfl
  · show (d.leavesShort 200 && PyData.leavesShortAll 200 ds) = true
    rw [h.lvs, t.lvs]
    rfl
  · show d.weight + 1 + PyData.weightAll ds ≤ wt + 1 + wt'
    have h1 := h.wgt
    have h2 := t.wgt
    omega
theorem ShAll.ints {b : Nat} (h0 : 0 < b) (h6 : b ≤ 600) : ∀ {ns : List Int}, (∀ x ∈ ns, x.natAbs < 2 ^ b) → ShAll 0 ((b + 1) * ns.length) (ns.map PyData.int)
  | [], _ => ShAll.nil
  | x :: r, h => by
    have h1 := ShAll.cons (Sh.int h0 h6 (h x List.mem_cons_self)) (ShAll.ints h0 h6 fun y hy => h y (List.mem_cons_of_mem _ hy))
    exact h1.mono (Nat.le_refl _) (by rw [List.length_cons, Nat.mul_succ]; omega)
theorem Sh.shaped {dp wt : Nat} {d : PyData} (h : Sh dp wt d) (h1 : dp ≤ 64) : SeqAt.shaped d = true := by
  unfold SeqAt.shaped
  rw [h.can]
  exact decide_eq_true (Nat.le_trans h.dep h1)
theorem Sh.fits {dp wt : Nat} {d : PyData} (h : Sh dp wt d) (h1 : wt ≤ 80000) : d.shown.length ≤ sizeLine := by
  have h2 := PyData.shown_le 200 (by decide) d h.lvs
  have h3 := h.wgt
  have h4 : (200 + 2) * d.weight ≤ 202 * 80000 := Nat.mul_le_mul (by omega) (by omega)
  have h5 : sizeLine = 16777216 := by decide
  omega
theorem dp_ints {K : PySem.W.Frag} {H : Hp} : ∀ ns : List Int, DpAll K H (ns.map V.int) (ns.map PyData.int)
  | [] => .nil
  | n :: r => .cons (.int n) (dp_ints r)
theorem eqvAll_ints : ∀ ns : List Int, PyData.eqvAll (ns.map PyData.int) (ns.map PyData.int) = true
  | [] => rfl
  | n :: r => by
    show (PyData.eqv (.int n) (.int n) && PyData.eqvAll (r.map PyData.int) (r.map PyData.int)) = true
    rw [eqvAll_ints r]
    show ((n == n) && true) = true
    rw [beq_self_eq_true]
    rfl
section
variable {X : Cx}
/-- repr(x), x data: its text -/
theorem call_reprD (gd : X.A.guards = some []) (hu : X.A.units + 66 < cLine) : CallR X (.builtin "repr") (fun xs H Q => ∃ v d, xs = [v] ∧ Dp X.K H v d ∧ Sh 60 80000 d ∧ Q (.str d.shown) H) := by
  intro pins s σ H xs us Q I r h
  obtain ⟨v, d, rfl, hD, hd, q⟩ := h
  have hsh := hd.shaped (by decide)
  have hsz := hd.fits (by decide)
  obtain ⟨u, rfl, ru⟩ := vals1 r
  rcases Dp_ref hD with ⟨a, rfl⟩ | ⟨rfl, rfl⟩ | ⟨b, rfl, rfl⟩ | ⟨i, rfl, rfl⟩ | ⟨x, rfl, rfl⟩
  · obtain rfl : u = Value.ref a := ru
    obtain ⟨as, rd⟩ := Dp.reads I d _ _ hD rfl
    have hdp := hd.dep
    refine repr_of_reads' rd hd.shw (PyData.noDict_hsm (PyData.hasDict_of_canLay d hd.can)) gd (by omega) (fun _ _ e => e) (fun h' u tk hk => ?_) hsz
    exact ⟨.str _, H, I.kept hk, ⟨u, rfl⟩, q⟩
  · obtain rfl : u = Value.none := ru
    exact P.repr_of_none ⟨.str _, H, I.tok _, ⟨_, rfl⟩, q⟩
  · obtain rfl : u = Value.bool b := ru
    exact P.repr_of_bool ⟨.str _, H, I.tok _, ⟨_, rfl⟩, q⟩
  · obtain ⟨t, rfl⟩ := ru
    exact P.repr_of_int (of_decide_eq_true hd.shw) ⟨.str _, H, I.tok _, ⟨_, rfl⟩, q⟩
  · obtain ⟨t, rfl⟩ := ru
    exact P.repr_of_str ⟨.str _, H, I.tok _, ⟨_, rfl⟩, q⟩ hsz
/-- a ** b of greater numbers -/
theorem op_powB : OpR X (binaryOp .Pow) (rI (fun i j => 0 ≤ j ∧ (Builtin.Int.intBits i : Int) * j ≤ 2 ^ 27) fun i j => .int (i ^ j.toNat)) := opI fun _ _ _ _ _ _ _ hc q => pow_int hc.1 hc.2 q
/-- set(t), t a tuple of ints -/
theorem cr_setT (hc : X.calm = true) : CallR X (.type "set") (fun xs H Q => ∃ (l : Addr) (ns : List Int), xs = [.ref l] ∧ SqT X.K H l (ns.map V.int) ∧ ns.length ≤ 1000 ∧
    ∀ (p : Addr) (c : Nat), H p = none → Q (.ref p) (upd H p (SetO X.w p (fun j => decide (j ∈ ns)) c))) := by
  intro pins s σ H xs us Q I r h
  obtain ⟨l, ns, rfl, hq, hl, q⟩ := h
  obtain ⟨u, rfl, ru⟩ := vals1 r
  obtain rfl : u = Value.ref l := ru
  obtain ⟨its, rv, pt, hz⟩ := I.tuple hq
  refine call_set_tupI ns (I.ok.hd hc) (show s.heap.IsTuple l its.toArray from pt) (ints_of_vals rv) (by unfold scanBound; omega) fun h' tk c R1 hcn k => ?_
  exact ⟨.ref _, _, I.laid (t' := tk) k (Nat.le_refl _) (setO_new R1), rfl, q _ c (I.hok.fresh (Nat.le_refl _))⟩
end

/-! ### the same rules with the written part as a letter (for comprehensions) -/
section
variable {X : Cx} (K : PySem.W.Frag)
theorem ix_listK (h : X.K = K := by rfl) : IxR X (rIxL K) := h ▸ ix_list
theorem ix_tupK (h : X.K = K := by rfl) : IxR X (rIxT K) := h ▸ ix_tup
theorem op_inK (h : X.K = K := by rfl) : OpR X (compareOp .In) (rIn K false) := h ▸ op_in_seq
theorem op_notInK (h : X.K = K := by rfl) : OpR X (compareOp .NotIn) (rIn K true) := h ▸ op_notIn_seq
def rLenK (K : PySem.W.Frag) : List V → Hp → VK → Prop := fun xs H Q => ∃ p ys, xs = [.ref p] ∧ (SqL K H p ys ∨ SqT K H p ys) ∧ Q (.int ys.length) H
theorem call_lenK (h : X.K = K := by rfl) : CallR X (.builtin "len") (rLenK K) := h ▸ call_len_seq
def rReprK (K : PySem.W.Frag) : List V → Hp → VK → Prop := fun xs H Q => ∃ v d, xs = [v] ∧ Dp K H v d ∧ Sh 60 80000 d ∧ Q (.str d.shown) H
theorem call_reprK (gd : X.A.guards = some []) (hu : X.A.units + 66 < cLine) (h : X.K = K := by rfl) : CallR X (.builtin "repr") (rReprK K) := h ▸ call_reprD gd hu
theorem call_isiK1 (h : X.K = K := by rfl) : CallR X (.builtin "isinstance") (rIsi K) := h ▸ call_isi
def rTupleK (K : PySem.W.Frag) : List V → Hp → VK → Prop := fun xs H Q => ∃ p ys, xs = [.ref p] ∧ ((SqL K H p ys ∧ ∀ l, H l = none → Q (.ref l) (upd H l (.tup ys))) ∨ (SqT K H p ys ∧ Q (.ref p) H))
theorem call_tupleK (h : X.K = K := by rfl) : CallR X (.type "tuple") (rTupleK K) := h ▸ call_tuple_of
def rListK (K : PySem.W.Frag) : List V → Hp → VK → Prop := fun xs H Q => ∃ p ys, xs = [.ref p] ∧ (SqL K H p ys ∨ SqT K H p ys) ∧ ∀ l, H l = none → Q (.ref l) (upd H l (.lst ys))
theorem call_listK (h : X.K = K := by rfl) : CallR X (.type "list") (rListK K) := h ▸ call_list_of
theorem op_eqDK (hu : X.A.units + 64 < cLine) (h : X.K = K := by rfl) : OpR X (compareOp .Eq) (rEqD K) := h ▸ op_eqD hu
theorem op_neDK (hu : X.A.units + 64 < cLine) (h : X.K = K := by rfl) : OpR X (compareOp .NotEq) (rNeD K) := h ▸ op_neD hu
end
end Ef
namespace Ef
open PySem PySem.Spec PyProof.Rows L2
/-! ### tuples: sums, parts, the other way round -/
theorem Same.seqT {K : PySem.W.Frag} {H H' : Hp} {a : Addr} {xs : List V} (e : Same H H') (h : SqT K H a xs) : SqT K H' a xs := by
  rcases h with (h | ⟨o, h⟩) | h
  · exact .inl (.inl (e _ _ h))
  · exact .inl (.inr ⟨o, e _ _ h⟩)
  · exact .inr h
theorem But.seqT {K : PySem.W.Frag} {p a : Addr} {H H' : Hp} {xs : List V} (e : But p H H') (n : ∀ o, H p = some o → a = p → False) (h : SqT K H a xs) : SqT K H' a xs := by
  rcases h with (h | ⟨o, h⟩) | h
  · exact .inl (.inl (e _ _ (fun z => n _ (z ▸ h) z) h))
  · exact .inl (.inr ⟨o, e _ _ (fun z => n _ (z ▸ h) z) h⟩)
  · exact .inr h
/-- t + u -/
def rCatS (K : PySem.W.Frag) : R2 := fun x y H Q => ∃ a b xs ys, x = .ref a ∧ y = .ref b ∧ SqT K H a xs ∧ SqT K H b ys ∧ xs.length + ys.length ≤ sizeLine ∧ ∀ p H', Same H H' → SqT K H' p (xs ++ ys) → Q (.ref p) H'
/-- t[lo:hi] -/
def rSlS (K : PySem.W.Frag) : V → Option Int → Option Int → Hp → VK → Prop := fun x lo hi H Q => ∃ a xs, x = .ref a ∧ SqT K H a xs ∧ ∀ p H', Same H H' → SqT K H' p (cutV xs lo hi) → Q (.ref p) H'
theorem cut_whole {xs : List V} {lo hi : Option Int} (h : HT.sIx xs.length 0 lo = 0 ∧ HT.sIx xs.length xs.length hi = xs.length) : cutV xs lo hi = xs := by
  unfold cutV
  rw [h.1, h.2]
  show (xs.drop 0).take (xs.length - 0) = xs
  rw [List.drop_zero, Nat.sub_zero]
  exact List.take_length
section
variable {X : Cx} (K : PySem.W.Frag)
theorem op_catS (h : X.K = K := by rfl) : OpR X (binaryOp .Add) (rCatS K) := by
  subst h
  intro pins s σ H x y v u Q I rx ry h
  obtain ⟨a, b, xs, ys, rfl, rfl, ha, hb, hz, q⟩ := h
  refine op_catA pins s σ H _ _ v u Q I rx ry ⟨a, b, xs, ys, rfl, rfl, ha, hb, hz, fun z => ?_, fun _ z => ?_, fun _ _ p np => ?_⟩
  · subst z
    exact q b H (Same.refl H) hb
  · subst z
    refine q a H (Same.refl H) ?_
    rw [List.append_nil]
    exact ha
  · exact q p _ (same_new np) (SqT.of upd_same)
theorem sl_tupS (h : X.K = K := by rfl) : SlR X (rSlS K) := by
  subst h
  intro pins s σ H x v vl vu lo hi sl Q I rx hs pl pu h
  obtain ⟨a, xs, rfl, hx, q⟩ := h
  refine sl_tupA pins s σ H _ v vl vu lo hi sl Q I rx hs pl pu ⟨a, xs, rfl, hx, fun z => ?_, fun _ p np => ?_⟩
  · refine q a H (Same.refl H) ?_
    rw [cut_whole z]
    exact hx
  · exact q p _ (same_new np) (SqT.of upd_same)
end
theorem fm_congr {α β : Type} {f g : α → Option β} : ∀ l : List α, (∀ x ∈ l, f x = g x) → l.filterMap f = l.filterMap g
  | [], _ => rfl
  | x :: r, h => by
    have h1 := h x List.mem_cons_self
    have h2 := fm_congr r fun y hy => h y (List.mem_cons_of_mem _ hy)
    cases e : f x with
    | none => rw [List.filterMap_cons_none e, List.filterMap_cons_none (h1 ▸ e), h2]
    | some b => rw [List.filterMap_cons_some e, List.filterMap_cons_some (h1 ▸ e), h2]
theorem range_pick {α : Type} : ∀ (n : Nat) (ys : List α), ys.length = n → (List.range n).filterMap (fun m => ys[m]?) = ys
  | 0, ys, h => by
    rw [List.length_eq_zero_iff.mp h]
    rfl
  | n + 1, ys, h => by
    have hne : ys ≠ [] := fun z => by
      rw [z] at h
      cases h
    have hl : ys.dropLast.length = n := by
      rw [List.length_dropLast]
      omega
    have e : ys = ys.dropLast ++ [ys.getLast hne] := (List.dropLast_concat_getLast hne).symm
    rw [List.range_succ, List.filterMap_append]
    have e1 : (List.range n).filterMap (fun m => ys[m]?) = ys.dropLast := by
      have e3 : (List.range n).filterMap (fun m => ys[m]?) = (List.range n).filterMap (fun m => ys.dropLast[m]?) := by
        refine fm_congr _ fun m hm => ?_
        have hm' : m < ys.dropLast.length := by
          rw [hl]
          exact List.mem_range.mp hm
        have e4 : (ys.dropLast ++ [ys.getLast hne])[m]? = ys.dropLast[m]? := List.getElem?_append_left hm'
        rw [← e4, List.dropLast_concat_getLast hne]
      rw [e3]
      exact range_pick n ys.dropLast hl
    have e2 : [n].filterMap (fun m => ys[m]?) = [ys.getLast hne] := by
      have : ys[n]? = some (ys.getLast hne) := by
        rw [List.getLast_eq_getElem hne, ← List.getElem?_eq_getElem]
        congr 1
        omega
      rw [List.filterMap_cons_some this]
      rfl
    rw [e1, e2]
    exact e.symm
theorem pick_back (xs : Array Value) : ((List.range xs.size).filterMap fun (m : Nat) => xs[(((xs.size : Int) - 1) + (m : Int) * (-1)).toNat]?).toArray = xs.toList.reverse.toArray := by
  congr 1
  have h : xs.toList.reverse.length = xs.size := by
    rw [List.length_reverse, Array.length_toList]
  rw [← range_pick xs.size xs.toList.reverse h]
  refine fm_congr _ fun m hm => ?_
  have hm' : m < xs.size := List.mem_range.mp hm
  have e : (((xs.size : Int) - 1) + (m : Int) * (-1)).toNat = xs.size - 1 - m := by omega
  rw [e, List.getElem?_reverse (by rw [Array.length_toList]; exact hm'), Array.length_toList, Array.getElem?_toList]
section
variable {prog : Program} {w : World} {A : Around} {E : Value → Shared → Prop} {s : Shared}
theorem tuple_back {t sl : Addr} {items : Array Value} {vl vu vs : Value} {Q : Value → Shared → Prop} (ht : IsTup s.heap t items) (hs : s.heap.IsSliceOf sl vl vu vs) (pl : PySem.IsPart vl none) (pu : PySem.IsPart vu none) (ps : PySem.IsPart vs (some (-1)))
    (h : Q (.ref s.heap.objs.size) { s with heap := s.heap.push { cls := .type "tuple", data := .seq items.toList.reverse.toArray } })
    (hsz : items.size ≤ sizeLine) : wpAny (model prog w) A (getItem (.ref t) (.ref sl)) Q E s := by
  have hfit : sizeOk (.seq items.toList.reverse.toArray) := by
    show items.toList.reverse.toArray.size ≤ sizeLine
    rw [List.size_toArray, List.length_reverse, Array.length_toList]
    exact hsz
  obtain ⟨os, hos, hcs, hds⟩ := id hs
  have tys : s.TypeIs (.ref sl) "slice" := ⟨os, hos, hcs⟩
  unfold getItem
  try with_reducible refine wpAny_holding ?_
  first | refine wpAny_bind (wpAny_pure ?_) | skip
  refine wpAny_bind (wpAny_sequenceKey ht.typeIs (by decide) ?_)
  refine wpAny_bind (wpAny_callSpecial?_slot (name := Str.ofString "__getitem__") ht.typeIs PyProof.Rows.slot_tuple_getitem
    (wpAny_call_entry PyProof.Rows.slot_tuple_getitem ht.typeIs PyProof.Rows.entry_tuple_getitem ?_ (PyProof.Rows.args_tuple_getitem _ _)))
  show wpAny _ _ (Builtin.Tuple.tupleItemsOf (.ref t) >>= _) _ _ s
  refine wpAny_bind (PyProof.Rows.tupleItemsOf_ ht ?_)
  refine wpAny_bind (wpAny_typeOf tys ?_)
  rw [if_pos (by decide)]
  have look : ∀ {B : Around} {E : Value → Shared → Prop} {R : Int × Int × Nat → Shared → Prop}, R (((items.size : Int) - 1), -1, items.size) s → wpAny (model prog w) B (Builtin.Slice.sliceApplied (.ref sl) (pure (items.size : Int))) R E s := fun {B E R} hR => by
    unfold Builtin.Slice.sliceApplied Builtin.Slice.sliceFields
    refine wpAny_bind (wpAny_bind (wpAny_field hos hds (x := vl) rfl (wpAny_bind (wpAny_field hos hds (x := vu) rfl (wpAny_bind (wpAny_field hos hds (x := vs) rfl (wpAny_pure ?_)))))))
    refine wpAny_bind (HT.slicePart_ ps ?_)
    show wpAny _ _ (if ((-1 : Int) == 0) = true then _ else _) _ _ s
    rw [if_neg (by decide)]
    refine wpAny_bind (HT.slicePart_ pl (wpAny_bind (HT.slicePart_ pu (wpAny_bind (wpAny_pure ?_)))))
    show wpAny _ _ (pure (((items.size : Int) - 1), (-1 : Int), Builtin.Slice.slicePlaces ((items.size : Int) - 1) (-1) (-1))) _ _ s
    have e : Builtin.Slice.slicePlaces ((items.size : Int) - 1) (-1) (-1) = items.size := by
      unfold Builtin.Slice.slicePlaces
      rw [if_neg (by decide)]
      by_cases c : ((items.size : Int) - 1) > -1
      · rw [if_pos c, show -(-1 : Int) = 1 from rfl, Int.ediv_one]
        omega
      · rw [if_neg c]
        omega
    rw [e]
    exact wpAny_pure hR
  refine wpAny_bind (look ?_)
  have no : ¬ ((((items.size : Int) - 1) == 0 && (-1 : Int) == 1 && items.size == items.size) = true) := by
    intro z
    rw [Bool.and_eq_true, Bool.and_eq_true] at z
    exact absurd z.1.2 (by decide)
  show wpAny _ _ (if (((items.size : Int) - 1) == 0 && (-1 : Int) == 1 && items.size == items.size) = true then _ else _) _ _ s
  rw [if_neg no, pick_back]
  first
    | exact wpAny_bind (m := Builtin.Tuple.tupleExact _) (wpAny_newObj_type (wpAny_pure ⟨_, rfl, wpAny_pure h⟩) hfit)
    | exact wpAny_bind (m := Builtin.Tuple.tupleExact _) (wpAny_newObj_type (wpAny_bind (wpAny_pure (wpAny_pure ⟨_, rfl, wpAny_pure h⟩))) hfit)
    | exact wpAny_bind (wpAny_bind (m := Builtin.Tuple.tupleExact _) (wpAny_newObj_type (wpAny_pure (wpAny_pure ⟨_, rfl, wpAny_pure h⟩)) hfit))
    | exact wpAny_bind (wpAny_bind (m := Builtin.Tuple.tupleExact _) (wpAny_newObj_type (wpAny_pure ⟨_, rfl, wpAny_pure h⟩) hfit))
end
/-! ### t[::-1] -/
def tRevT (K : PySem.W.Frag) (te : TE) : TE := fun σ H Q => te σ H fun x H1 => ∃ a xs, x = .ref a ∧ SqT K H1 a xs ∧ ∀ p, H1 p = none → Q (.ref p) (upd H1 p (.tup xs.reverse))
theorem pe_revT {X : Cx} {e : Expr} {te : TE} {k : Nat} {p1 p2 p3 pos : Pos} (he : PE X e te) : PE X (.Subscript e (.Slice none none (some (.UnaryOp .USub (.Constant (.int 1) k p1) p2)) p3) pos) (tRevT X.K te) := by
  refine ⟨fun pins s σ H Q I h => ?_⟩
  refine Subscript_ (thn (he.run pins s σ H _ I h) fun v s1 z1 => ?_)
  obtain ⟨x, H1, I1, r1, a, xs, ex, hx, q⟩ := z1
  subst ex
  cases r1
  have hst : PO X (some (.UnaryOp .USub (.Constant (.int 1) k p1) p2)) (tPart (tUn (rU fun i => .int (-i)) (tC (.int 1)))) := po_some (pe_un un_neg pe_int)
  refine wpAny_Slice (thn (po_none.run pins s1 σ H1 (fun o H2 => o = none ∧ H2 = H1) I1 ⟨rfl, rfl⟩) fun vl s2 z2 => ?_)
  obtain ⟨l, H2, I2, pl, rfl, rfl⟩ := z2
  refine thn (po_none.run pins s2 σ H2 (fun o H3 => o = none ∧ H3 = H2) I2 ⟨rfl, rfl⟩) fun vu s3 z3 => ?_
  obtain ⟨u, H3, I3, pu, rfl, rfl⟩ := z3
  refine thn (hst.run pins s3 σ H3 (fun o H4 => o = some (-1) ∧ H4 = H3) I3 ⟨1, rfl, -1, rfl, rfl, rfl⟩) fun vs s4 z4 => ?_
  obtain ⟨o, H4, I4, ps, rfl, rfl⟩ := z4
  have I5 : Inv X pins σ H4 { s4 with heap := s4.heap.push { cls := .type "slice", data := .fields #[vl, vu, vs] } } := I4.kept (t' := s4.toks) fun b ob z => Heap.get?_push_of_some _ z
  obtain ⟨its, r, ht, hz⟩ := I5.tuple hx
  show wpAny (model X.prog X.w) X.A (subscriptTail e (.Slice none none (some (.UnaryOp .USub (.Constant (.int 1) k p1) p2)) p3) (.ref a) (.ref s4.heap.objs.size)) (EP X pins σ Q) X.xe _
  refine tail_any (ops := [.ref a, .ref s4.heap.objs.size]) ht.typeIs (PyProof.Rows.slot_tuple_getitem.lookup) ?_ (by with_unfolding_all rfl)
  refine tuple_back ht (Heap.IsSliceOf.new _ vl vu vs) pl pu ps ?_ (by rw [List.size_toArray, ← r.length]; exact hz)
  refine ⟨.ref _, _, I5.laid (t' := s4.toks) (o := .tup xs.reverse) (fun b ob z => Heap.get?_push_of_some _ z) (Nat.le_refl _) ?_, rfl, q _ (I5.hok.fresh (Nat.le_refl _))⟩
  exact ⟨by rw [List.length_reverse]; exact hz, _, r.reverse, IsTup.new _ _⟩
end Ef
namespace Ef
open PySem PySem.Spec PyProof.Rows L2
/-! ### values of all sorts -/
mutual
theorem Dp.mono {K : PySem.W.Frag} {H H' : Hp} (s : Same H H') : ∀ {v : V} {d : PyData}, Dp K H v d → Dp K H' v d
  | _, _, .non => .non
  | _, _, .bl b => .bl b
  | _, _, .int i => .int i
  | _, _, .str x => .str x
  | _, _, .lst h t => .lst (s.seq h) (DpAll.mono s t)
  | _, _, .tup h t => .tup (Same.seqT s h) (DpAll.mono s t)
theorem DpAll.mono {K : PySem.W.Frag} {H H' : Hp} (s : Same H H') : ∀ {vs : List V} {ds : List PyData}, DpAll K H vs ds → DpAll K H' vs ds
  | _, _, .nil => .nil
  | _, _, .cons h t => .cons (Dp.mono s h) (DpAll.mono s t)
end
theorem DpAll.app {K : PySem.W.Frag} {H : Hp} : ∀ {xs ys : List V} {ds es : List PyData}, DpAll K H xs ds → DpAll K H ys es → DpAll K H (xs ++ ys) (ds ++ es)
  | _, _, _, _, .nil, t => t
  | _, _, _, _, .cons h r, t => .cons h (DpAll.app r t)
theorem dpAll_at {K : PySem.W.Frag} {H : Hp} : ∀ {xs : List V} {ds : List PyData}, DpAll K H xs ds → ∀ {i : Nat} {x : V}, xs[i]? = some x → ∃ d, ds[i]? = some d ∧ Dp K H x d
  | _, _, .nil, _, _, h => by cases h
  | _, _, .cons h _, 0, x, e => ⟨_, rfl, by rw [← Option.some.inj e]; exact h⟩
  | _, _, .cons _ t, i + 1, x, e => by
    rw [List.getElem?_cons_succ] at e ⊢
    exact dpAll_at t e
theorem dpAll_len {K : PySem.W.Frag} {H : Hp} : ∀ {xs : List V} {ds : List PyData}, DpAll K H xs ds → ds.length = xs.length
  | _, _, .nil => rfl
  | _, _, .cons _ t => congrArg (· + 1) (dpAll_len t)
theorem ShAll.app {dp w1 w2 : Nat} : ∀ {ds es : List PyData}, ShAll dp w1 ds → ShAll dp w2 es → ShAll dp (w1 + w2) (ds ++ es)
  | [], es, _, t => t.mono (Nat.le_refl _) (by omega)
  | d :: r, es, h, t => by
    have hc : (d.canLay0 && PyData.canLayAll0 r) = true := h.can
    have hs : (d.showable && PyData.showableAll r) = true := h.shw
    have hl : (d.leavesShort 200 && PyData.leavesShortAll 200 r) = true := h.lvs
    have hw : d.weight + 1 + PyData.weightAll r ≤ w1 := h.wgt
    have hd : max d.depth (PyData.depthAll r) ≤ dp := h.dep
    rw [Bool.and_eq_true] at hc hs hl
    rw [Nat.max_le] at hd
    have h1 : Sh dp d.weight d := ⟨hc.1, hd.1, hs.1, hl.1, Nat.le_refl _⟩
    have h2 : ShAll dp (PyData.weightAll r) r := ⟨hc.2, hd.2, hs.2, hl.2, Nat.le_refl _⟩
    exact (ShAll.cons h1 (ShAll.app h2 t)).mono (Nat.le_refl _) (by omega)
/-- all but what stands at p -/
def hide (p : Addr) (H : Hp) : Hp := fun b => if b = p then none else H b
theorem hide_ne {p b : Addr} {H : Hp} (n : b ≠ p) : hide p H b = H b := if_neg n
theorem hide_same (p : Addr) (H : Hp) : Same (hide p H) H := fun b o e => by
  by_cases c : b = p
  · unfold hide at e
    rw [if_pos c] at e
    cases e
  · rw [hide_ne c] at e
    exact e
theorem But.hide {p : Addr} {H H' : Hp} (s : But p H H') : Same (Ef.hide p H) (Ef.hide p H') := fun b o e => by
  by_cases c : b = p
  · unfold Ef.hide at e
    rw [if_pos c] at e
    cases e
  · rw [hide_ne c] at e ⊢
    exact s b o c e
theorem hide_lst {K : PySem.W.Frag} {p a : Addr} {H : Hp} {xs : List V} (n : a ≠ p) (h : H a = some (.lst xs)) : SqL K (hide p H) a xs := SqL.of (by rw [hide_ne n]; exact h)
theorem hide_tup {K : PySem.W.Frag} {p a : Addr} {H : Hp} {xs ys : List V} (hp : H p = some (.lst ys)) (h : SqT K H a xs) : SqT K (hide p H) a xs := by
  rcases h with (h | ⟨o, h⟩) | h
  · have n : a ≠ p := fun z => by
      rw [z, hp] at h
      cases h
    exact .inl (.inl (by rw [hide_ne n]; exact h))
  · have n : a ≠ p := fun z => by
      rw [z, hp] at h
      cases h
    exact .inl (.inr ⟨o, by rw [hide_ne n]; exact h⟩)
  · exact .inr h
/-- data, or an empty dict -/
def ItemV (K : PySem.W.Frag) (H : Hp) (v : V) (d : PyData) : Prop := (Dp K H v d ∧ Sh 60 80000 d) ∨ (d = .dict [] ∧ ∃ p, v = .ref p ∧ H p = some (.dK []))
theorem ItemV.mono {K : PySem.W.Frag} {H H' : Hp} {v : V} {d : PyData} (s : Same H H') (h : ItemV K H v d) : ItemV K H' v d := by
  rcases h with ⟨h, h2⟩ | ⟨e, p, e2, h⟩
  · exact .inl ⟨Dp.mono s h, h2⟩
  · exact .inr ⟨e, p, e2, s _ _ h⟩
def tyN : PyData → String
  | .none => "NoneType"
  | .bool _ => "bool"
  | .int _ => "int"
  | .str _ => "str"
  | .list _ => "list"
  | .tuple _ => "tuple"
  | .dict _ => "dict"
theorem Dp.ty {K : PySem.W.Frag} {H : Hp} {v : V} {d : PyData} (h : Dp K H v d) : TyX K H v (.type (tyN d)) := by
  cases h with
  | non => exact .base .non
  | bl b => exact .base (.bl b)
  | int i => exact .base (.int i)
  | str x => exact .base (.str x)
  | lst h _ =>
    rcases h with (h | ⟨o, h⟩) | ⟨o, its, n, h1, h2, _⟩
    · exact .base (.lst h)
    · exact .base (.frz h)
    · exact .kList h1 h2
  | tup h _ =>
    rcases h with (h | ⟨o, h⟩) | ⟨o, its, n, h1, h2, _⟩
    · exact .base (.tup h)
    · exact .fTuple h
    · exact .kTuple h1 h2
theorem ItemV.ty {K : PySem.W.Frag} {H : Hp} {v : V} {d : PyData} (h : ItemV K H v d) : TyX K H v (.type (tyN d)) := by
  rcases h with ⟨h, _⟩ | ⟨rfl, p, rfl, h⟩
  · exact Ef.Dp.ty h
  · exact .base (.dK h)
section
variable {X : Cx} (K : PySem.W.Frag)
def rReprI (K : PySem.W.Frag) : List V → Hp → VK → Prop := fun xs H Q => ∃ v d, xs = [v] ∧ ItemV K H v d ∧ Q (.str d.shown) H
theorem call_reprI (gd : X.A.guards = some []) (hu : X.A.units + 66 < cLine) (h : X.K = K := by rfl) : CallR X (.builtin "repr") (rReprI K) := by
  subst h
  intro pins s σ H xs us Q I r h
  obtain ⟨v, d, rfl, hI, q⟩ := h
  rcases hI with ⟨hD, hS⟩ | ⟨rfl, p, rfl, hp⟩
  · exact call_reprD gd hu pins s σ H _ us Q I r ⟨v, d, rfl, hD, hS, q⟩
  · obtain ⟨u, rfl, ru⟩ := vals1 r
    obtain rfl : u = Value.ref p := ru
    obtain ⟨_, hsys, vs, kv, o, es, ep, ho, hx, hd, hk, hpr, hn⟩ := dk_of I.hok hp
    have e1 : vs = [] := by
      cases kv
      rfl
    subst e1
    have e2 : es.toList = [] := by
      generalize es.toList = l at hpr ⊢
      cases hpr
      rfl
    have dep : PyData.depth (.dict []) ≤ 2 := by decide
    have rd : Reads s.heap (.ref p) (.dict []) (p :: [] ++ []) := by
      refine .dict ho hx.1 hd ?_ ?_
      · rw [e2]
        exact .nil
      · rw [e2]
        exact .nil
    refine repr_of_reads' rd rfl (fun _ hm => ?_) gd (by omega) (fun _ _ e => e) (fun h' u tk hk => ?_) (by decide +kernel)
    · have e3 : sysModules = p := by simpa using hm
      rw [← e3] at hsys
      exact absurd hsys (by simp)
    · exact ⟨.str _, H, I.kept hk, ⟨u, rfl⟩, q⟩
end
end Ef
set_option maxHeartbeats 4000000
namespace Ef
open PySem PySem.Spec PyProof.Rows L2
/-! ### sum of a list, of a tuple of whole numbers -/
theorem cr_sumK {X : Cx} (K : PySem.W.Frag) (hc : X.calm = true := by rfl) (h : X.K = K := by rfl) : CallR X (.builtin "sum") (rSum K) := by
  subst h
  exact cr_sum hc
def rSumT (K : PySem.W.Frag) : List V → Hp → VK → Prop := fun vs H Q => ∃ (a : Addr) (ns : List Int), vs = [V.ref a] ∧ SqT K H a (ns.map V.int) ∧ Q (.int ns.sum) H
theorem cr_sumT {X : Cx} (K : PySem.W.Frag) (hc : X.calm = true := by rfl) (h : X.K = K := by rfl) : CallR X (.builtin "sum") (rSumT K) := by
  subst h
  intro pins s σ H vs us Q I r h
  obtain ⟨a, ns, rfl, hs, q⟩ := h
  obtain ⟨its, rv, hl, _⟩ := I.tuple hs
  rw [Vals.ref1 r]
  have hi := rv.ints
  obtain ⟨xs, hx⟩ := hi.allInts.items
  have hn : numsOf its.toArray.toList = ns := by rw [show its.toArray.toList = its from rfl, hi.numsOf]
  rw [hx] at hl hn
  rw [nums_intItems] at hn
  refine PySem.W.ktm_sumG (I.ok.hd hc) hl fun h' tk t' hk => ?_
  rw [preSum_eq, List.take_of_length_le (by simp), hn]
  exact ⟨.int _, H, I.kept hk, ⟨_, rfl⟩, q⟩
end Ef
set_option maxHeartbeats 4000000
namespace Ef
open PySem PySem.Spec PyProof.Rows L2
/-! ### Base.__init__(self, ..) where Base is an own class without an __init__ of its own -/
section
variable {X : Cx} {e : Expr} {es : List Expr} {ta : TA} {x : Str} {p1 p2 pos : Pos} {B : Addr}
theorem pe_baseInit {pl : Sem Bool} (hg : Gl X x) (hm : X.mg x = some (.ref B))
    (h1 : PySem.W.specialIn X.K (.ref B) "__getattribute__" = some (some (.builtin "type.__getattribute__")))
    (h2 : PySem.W.typeIn X.K (.ref B) = some (.type "type")) (h3 : PySem.W.readsIn X.K B (.type "type") = true)
    (h4 : PySem.W.findCls X.K (.ref B) (.type "type") "__init__" = some (.val (.builtin "ValueError.__init__"))) (ha : PA X (e :: es) ta)
    (a1 : eval (.Call (.Attribute (.Name x p1) "__init__" p2) (e :: es) [] pos) X.env = (do
      let bv ← eval (.Name x p1) X.env
      standAt p2.atName
      let (g, first) ← holding [bv] (getMethod bv "__init__" pl)
      callWith pos g first (backTo pos (starEach (e :: es) X.env)) (backToKw pos (keywordEach [] X.env))) := by rfl)
    (a2 : starEach (e :: es) X.env = (false, eval e X.env) :: starEach es X.env := by rfl)
    (a3 : (backTo pos (starEach es X.env)).any (fun z => z.1) = false := by rfl) (a4 : (x == ("__debug__" : Str)) = false := by decide) :
    PE X (.Call (.Attribute (.Name x p1) "__init__" p2) (e :: es) [] pos) (tVeI X.K ta) := by
  refine ⟨fun pins s σ H Q I h => ?_⟩
  refine PySem.W.methodCall_KW (ld_glob I hg hm ?_ a4) a1
  obtain ⟨m, fr⟩ := I.fr
  refine PySem.W.method_of_cls fr I.ok.mod.kin h1 ?_
  refine PySem.W.cls_val fr I.ok.mod.kin h2 h3 h4 (by decide +kernel) ?_
  show wpAny _ _ (callWith pos (Value.builtin "ValueError.__init__") [] (backTo pos (starEach (e :: es) X.env)) []) _ _ _
  refine PyProof.Rows.callWith_method1 (thn (ha.run pos pins _ σ H _ (I.tok _) h) fun us s1 got => ?_) a2 a3
  obtain ⟨vs, H1, I1, r1, a, C, ws, rfl, hl, T, ea, q⟩ := got
  cases r1 with
  | @cons _ u0 _ ur ra rest =>
    obtain rfl : u0 = Value.ref a := ra
    refine oinit_ok T I1 ea ?_ fun s' J => ⟨.non, H1, J, rfl, q⟩
    have hl2 := Paired.length rest
    rw [sizeLine_eq]
    omega
end
/-! ### an exception that is kept as a value -/
/-- at a: an exception of the class cls, its dict at d -/
def exk (a : Addr) (cls : Value) (d : Option Addr) : HO := .ext fun h => ∃ oe vs, h.get? a = some oe ∧ oe.cls = cls ∧ oe.dict = d ∧ oe.data = .fields vs
theorem exk_ok {P : Program} {w : World} {H : Hp} {h : Heap} {a : Addr} {cls : Value} {d : Option Addr} {oe : Obj} {vs : Array Value} (he : h.get? a = some oe) (hc : oe.cls = cls) (hd : oe.dict = d) (hv : oe.data = .fields vs) : ObjOk P w H h a (exk a cls d) :=
  ⟨⟨oe, vs, he, hc, hd, hv⟩, ⟨oe, he⟩, fun h1 h2 z k => by
    obtain ⟨o, v, z1, z2⟩ := z
    exact ⟨o, v, k _ z1, z2⟩⟩
theorem exk_at {P : Program} {w : World} {H : Hp} {h : Heap} {a : Addr} {cls : Value} {d : Option Addr} (hok : HOk P w H h) (e : H a = some (exk a cls d)) : ∃ oe vs, h.get? a = some oe ∧ oe.cls = cls ∧ oe.dict = d ∧ oe.data = .fields vs := by
  have z : ObjOk P w H h a (.ext fun h => ∃ oe vs, h.get? a = some oe ∧ oe.cls = cls ∧ oe.dict = d ∧ oe.data = .fields vs) := hok a _ e
  exact z.1
theorem Inv_track {X : Cx} {pins : List (Addr × Obj)} {σ : L2.St} {H : Hp} {s : Shared} {a : Addr} {oe : Obj} {vs : Array Value} {cls : Value} {d : Option Addr} (I : L2.Inv X ((a, oe) :: pins) σ H s)
    (hc : oe.cls = cls) (hd : oe.dict = d) (hv : oe.data = .fields vs) (new : X.s_0.heap.get? a = none) (hp : ∀ p ∈ X.pn ++ pins, p.1 ≠ a) : L2.Inv X pins σ (upd H a (exk a cls d)) s := by
  obtain ⟨ha, na, nL, nF, nc⟩ := I.pin (a, oe) (List.mem_append_right _ List.mem_cons_self)
  have kp : ∀ {b : Addr} {u : HO}, H b = some u → upd H a (exk a cls d) b = some u := fun {b u} z => by
    rw [upd_ne (ne_of_none z na)]
    exact z
  refine ⟨I.ok, I.os, I.bare, ⟨I.base.keep, I.base.slot, fun b o z n hx => ?_, I.base.there, fun b xs z => kp (I.base.tups b xs z), fun b o u z => kp (I.base.frzs b o u z), fun b ps z => ?_⟩, I.loc, I.cell, ?_, fun y c z => ?_, fun p q => ?_, fun b o z => ?_, I.len⟩
  · rw [upd_ne (fun y => by rw [y, new] at z; cases z)]
    exact I.base.free b o z n hx
  · obtain ⟨more, z2⟩ := I.base.tbls b ps z
    exact ⟨more, kp z2⟩
  · rw [upd_ne nL.symm]
    exact I.free
  · have nca : c ≠ a := fun y2 => by
      obtain ⟨v, oc, z3, z4⟩ := I.cell y c z
      rw [y2, ha] at z3
      obtain rfl := Option.some.inj z3
      first
        | exact nc _ z4
        | exact nc _ z4.2
        | exact nc _ z4.1
    rw [upd_ne nca]
    exact I.freeC y c z
  · obtain ⟨z1, z2, z3, z4, z5⟩ := I.pin p (by
      rcases List.mem_append.mp q with q | q
      · exact List.mem_append_left _ q
      · exact List.mem_append_right _ (List.mem_cons_of_mem _ q))
    exact ⟨z1, by rw [upd_ne (hp p q)]; exact z2, z3, z4, z5⟩
  · by_cases hb : b = a
    · subst hb
      rw [upd_same] at z
      obtain rfl := Option.some.inj z
      exact exk_ok ha hc hd hv
    · rw [upd_ne hb] at z
      exact (I.hok b o z).stay (fun _ _ _ y => y) (fun c y => kp y) fun c xs y => kp y
/-- what 'except x as n: suite' wishes of an exception of the body, the exception being kept: slot i is n's -/
def wKeep (K : PySem.W.Frag) (c : Value) (i : Nat) (ts : Addr → Value → Option Addr → TS) (Wout : WX) (D : Ends) : WX := fun cls d σ H =>
  ∃ b, PySem.W.exmOne K cls c = some b ∧ (b = true → ∀ a, H a = none → ts a cls d { nx := fun σ' H' => D.nx (σ'.set i none) (upd H' a (exk a cls d)), rt := fun _ _ => False } (σ.set i (some (.ref a))) H) ∧
    (b = false → Wout cls d σ H)
section
variable {X : Cx} {x n : Str} {c : Value} {i : Nat} {body suite : List Stmt} {b₀ : Stmt} {np pos pos' : Pos} {tb : WX → TS} {ts : Addr → Value → Option Addr → TS} {Wout : WX}
theorem ps_try_keep (stk : X.stack = X.env :: X.outer) (frm : X.env.frame = some X.env.locals) (hex : X.ex = []) (hN : X.N.Nodup) (hi : X.N[i]? = some n) (hln : X.env.kindOf n = some .local) (nm : Names X x c) (tk : Takes X Wout)
    (hb : ∀ (W : WX) (pn : List (Addr × Obj)) (xe : Value → Shared → Prop), Takes (X.tr pn xe) W → PassesOwn (model X.prog X.w) X.A X.env xe → PSs (X.tr pn xe) body (tb W))
    (hsu : ∀ (a : Addr) (oe : Obj) (cls : Value) (d : Option Addr) (pn : List (Addr × Obj)), Zc cls d oe → (∃ vs, oe.data = .fields vs) → PSs (X.suite a ((a, oe) :: pn)) (b₀ :: suite) (ts a cls d)) :
    PS X (.Try body [.ExceptHandler (some (.Name x np)) (some n) (b₀ :: suite) pos'] [] [] pos) (fun D σ H => tb (wKeep X.K c i ts Wout D) D σ H) := by
  refine ⟨fun pins s σ H D I wish => ?_⟩
  have okX := I.ok
  have frs1 : X.A.frames = some (X.env :: X.outer) := by rw [okX.frames, stk]
  refine wpAny_Try_except ?_
  refine wpAny_mono ((hb (wKeep X.K c i ts Wout D) (X.pn ++ pins) (fun z s₁ => wpAny (model X.prog X.w) X.A (noteFrame z X.env) (fun _ s₂ => wpAny (model X.prog X.w) X.A (setFlight z none) (fun _ s₃ =>
    wpAny (model X.prog X.w) X.A (handleBy z X.env [.ExceptHandler (some (.Name x np)) (some n) (b₀ :: suite) pos']) (SP X pins D) X.xe s₃) X.xe s₂) X.xe s₁) (fun u s' air => ?_) PassesOwn.looking).run [] s σ H D (I.toTry _) wish) (fun fl s1 got => ?_) (fun z s1 got => got)
  · obtain ⟨a, B, sI, pins', σ', H', cls, d, rfl, J', nb, up, sky, na, os, ag, b, hb1, hyes, hno⟩ := air
    have J : L2.Inv X pins σ' H' sI := J'.ofTry okX
    have sky1 : Sky B (X.env :: X.outer) a (Zc cls d) X.env.locals s'.heap := by rw [← stk]; exact sky
    show wpAny (model X.prog X.w) X.A (noteFrame (.ref a) X.env) _ _ _
    refine Sky.land Zc.steady frs1 frm sky1 fun h3 fl3 up3 => ?_
    have J3 : L2.Inv X pins σ' H' { s' with heap := h3 } := J.landed nb fl3.1 (up.trans up3) os ag
    obtain ⟨oe3, vs3, he3, hz3, hd3⟩ := fl3.there
    have nfr : a ∉ frs (X.env :: X.outer) := fun hm => by
      obtain ⟨_, o', e', hnf⟩ := fl3.2.2.1.mem hm
      rw [he3] at e'
      cases e'
      exact hnf _ hd3
    have nL : a ≠ X.env.locals := fun z => nfr (List.mem_filterMap.mpr ⟨X.env, List.mem_cons_self, by rw [frm, z]⟩)
    have nF : a ∉ X.fs := fun hm => by
      obtain ⟨en, hen, y⟩ := List.mem_filterMap.mp hm
      exact nfr (List.mem_filterMap.mpr ⟨en, List.mem_cons_of_mem _ hen, y⟩)
    have newI : ∀ o, sI.heap.get? a = some o → False := fun o y => by
      have y2 := nb a o y (by rw [stk]; exact nfr)
      rw [fl3.2.1] at y2
      cases y2
    have new0 : X.s_0.heap.get? a = none := by
      cases y : X.s_0.heap.get? a with
      | none => rfl
      | some o =>
        obtain ⟨o', y2⟩ := J.base.there a o y (by rw [hex]; exact List.not_mem_nil)
        exact (newI o' y2).elim
    have apart : ∀ p ∈ X.pn ++ pins, p.1 ≠ a := fun p hp y => newI p.2 (by rw [← y]; exact (J.pin p hp).1)
    have S3 := J3.suite he3 hd3 na nL nF
    refine wpAny_handleBy_cons (codeAny_handlers_test ?_) (by intro y; cases y)
    have LT : PySem.W.Looks (model X.prog X.w) h3 (typeOf (.ref a)) cls := fun A Q E s k y => wpAny_typeOf_ref (k _ _ he3) (by rw [hz3.1]; exact y)
    have LM := PySem.W.exm_one (M := model X.prog X.w) (J3.kIn) LT hb1
    have asked : ∀ {Q : Value → Shared → Prop} {E : Value → Shared → Prop}, Q c { s' with heap := h3 } → wpAny (model X.prog X.w) (X.A.mark (some (.ref a))) (eval (.Name x np) X.env) Q E { s' with heap := h3 } := fun {Q E} y => by
      obtain ⟨hg, hdbg, hm | ⟨hm, hv, hnn⟩⟩ := nm
      · exact ld_glob (X := X.suite a ((a, oe3) :: (X.pn ++ pins))) S3 hg hm y hdbg
      · exact ld_blt (X := X.suite a ((a, oe3) :: (X.pn ++ pins))) S3 hg hm hv y hnn hdbg
    refine asked (LM.here ?_)
    cases b with
    | true =>
      refine codeAny_handlers_suite_as ?_
      refine HandSPX.lands_againZ fl3 fun h4 fl4 up4 => ?_
      have J4 : L2.Inv X pins σ' H' { s' with heap := h4 } := J.landed nb fl4.1 ((up.trans up3).trans up4) os ag
      obtain ⟨oe4, vs4, he4, hz4, hd4⟩ := fl4.there
      have S4 := J4.suite he4 hd4 na nL nF
      refine store_ok (X := X.suite a ((a, oe4) :: (X.pn ++ pins))) (v := .ref a) S4 hN hi (.inl hln) rfl (fun s5 S5 => ?_) (.inr hln)
      refine wpAny_mono ((hsu a oe4 cls d (X.pn ++ pins) hz4 ⟨_, hd4⟩).run [] s5 _ H' _ S5 (hyes rfl a na)) (fun fl s6 got => ?_) (fun _ _ y => False.elim y)
      cases fl with
      | next =>
        obtain ⟨σ6, H6, S6, q6⟩ := got
        have P6 := S6.pin (a, oe4) (List.mem_append_left _ List.mem_cons_self)
        have J6 : L2.Inv X ((a, oe4) :: pins) σ6 H6 s6 := (S6.unsuite okX).pins_of fun p hp => by
          rcases List.mem_cons.mp hp with rfl | hp
          · exact P6
          · exact (S6.unsuite okX).pin p (List.mem_append_right _ hp)
        exact gone_ok J6 hN hi hln fun s7 J7 => ⟨_, _, Inv_track J7 hz4.1 hz4.2 hd4 new0 apart, q6⟩
      | brk =>
        obtain ⟨σ6, H6, S6, q6⟩ := got
        exact q6.elim
      | cont =>
        obtain ⟨σ6, H6, S6, q6⟩ := got
        exact q6.elim
      | ret u =>
        obtain ⟨v6, σ6, H6, S6, r6, q6⟩ := got
        exact q6.elim
    | false =>
      show wpAny _ X.A (handleBy (.ref a) X.env []) _ _ _
      refine wpAny_handleBy_nil ?_
      obtain ⟨k1, k2, k3, oe, vs, T, oT, ts', he, hz, hd, h1, hr⟩ := id fl3
      unfold PySem.passOn
      refine wpAny_bind (wpAny_field he hd h1 ?_)
      rw [if_neg (show ¬ ((Value.ref T == Value.none) = true) from by simp)]
      have fin : wpAny (model X.prog X.w) X.A (setFlight (.ref a) X.env.frame) (fun _ s4 => wpAny (model X.prog X.w) X.A (throw (.ref a) : Sem Flow) (SP X pins D) X.xe s4) X.xe { s' with heap := h3 } := by
        rw [frm]
        refine HandSPX.setFlight_upZ fl3 fun h4 hh4 up4 => wpAny_throw (tk _ _ ?_)
        exact ⟨a, B, sI, pins, σ', H', cls, d, rfl, J, nb, (up.trans up3).trans up4, .inr (.inr (by rw [stk]; exact hh4)), na, os, ag, hno rfl⟩
      first
        | exact wpAny_bind (wpAny_pure (wpAny_bind fin))
        | exact wpAny_bind fin
  · cases fl with
    | next =>
      obtain ⟨σ', H', J', q⟩ := got
      exact wpAny_execs_nil ⟨σ', H', J'.ofTry okX, q⟩
    | brk =>
      obtain ⟨σ', H', J', q⟩ := got
      exact ⟨σ', H', J'.ofTry okX, q⟩
    | cont =>
      obtain ⟨σ', H', J', q⟩ := got
      exact ⟨σ', H', J'.ofTry okX, q⟩
    | ret u =>
      obtain ⟨v, σ', H', J', r, q⟩ := got
      exact ⟨v, σ', H', J'.ofTry okX, r, q⟩
end
theorem takesF {X : Cx} : Takes X (fun _ _ _ _ => False) := fun _ _ x => by
  obtain ⟨_, _, _, _, _, _, _, _, _, _, _, _, _, _, _, _, z⟩ := x
  exact z.elim
theorem passF {X : Cx} : Passes (L2.CX X.prog X.w) X (fun _ _ _ => False) := fun _ _ _ _ _ _ _ x => by
  obtain ⟨_, _, _, _, _, _, _, _, _, _, _, _, z⟩ := x
  exact z.elim
/-! ### what is asked of an exception that was kept -/
section
open PySem.W PySem.Calls
variable {prog : Program} {w : World} {A : Around} {E : Value → Shared → Prop} {s : Shared} {K : PySem.W.Frag} {y D : Addr} {oy : Obj} {od : Option Obj}
theorem class_of_exc {Q : Option Value → Shared → Prop} (T : ExcC K D) (kin : K.In s.heap) (I : InstAt s.heap y oy D od) (hod : od.isSome = true) (h : Q (some (.ref D)) { s with toks := s.toks + 1 }) :
    wpAny (model prog w) A (getAttr? (.ref y) "__class__") Q E s := by
  obtain ⟨oo, rfl⟩ := Option.isSome_iff_exists.mp hod
  have ff : findObj K D (some oo) "__class__" = some (.bind (.builtin "getset_descriptor.__get__") (.builtin "object.__class__")) := findObj_data (by obtain ⟨cd, hc, _⟩ := any_some T.hd; rw [hc]; rfl) T.ha T.hn T.ht
  obtain ⟨hp, g, d, t, os⟩ := s
  have T0 := I.type (M := model prog w)
  have T1 := looks_findIn (M := model prog w) kin T.hg
  have T2 := looks_findIn (M := model prog w) kin T.hk
  have T3 := looks_find (M := model prog w) kin I ff
  have inB : Looks (model prog w) hp (isInstance (.ref y) (.type "BaseException")) true := T0.andThen (looks_subIn kin T.hs)
  have b0 : (false && onTheHeap (Value.builtin "BaseException.__getattribute__")) = false := rfl
  have b2 : (Value.builtin "BaseException.__getattribute__" == Value.builtin "object.__getattribute__") = false := by decide +kernel
  have b1 : (onTheHeap (Value.ref D) && Value.builtin "BaseException.__getattribute__" == Value.builtin "object.__getattribute__") = false := by rw [b2]; rfl
  unfold getAttr? getAttrBy? getAttrBy
  refine wpAny_bind (wpAny_mkText (wpAny_bind (wpAny_attempt (wpAny_holding (wpAny_bind (T0.at (wpAny_bind (T1.at ?_))))))))
  show wpAny _ _ (if (onTheHeap (Value.ref D) && Value.builtin "BaseException.__getattribute__" == Value.builtin "object.__getattribute__") = true then _ else _) _ _ ⟨hp, g, d, t + 1, os⟩
  rw [b1, if_neg Bool.false_ne_true]
  unfold getAttrByItsOwn hookBefore
  refine wpAny_bind ?_
  rw [if_pos (show onTheHeap (Value.ref D) = true from rfl)]
  refine T2.at ?_
  refine wpAny_bind (wpAny_attempt (wpAny_holding ?_))
  unfold callGetattribute
  rw [b0, if_neg Bool.false_ne_true]
  unfold boundAndCalled
  rw [PySem.F.excAttr_ValueError.ga.bind (.ref y)]
  refine wpAny_bind (wpAny_pure ?_)
  show wpAny _ _ (call (.builtin "BaseException.__getattribute__") [.ref y, .str "__class__" t]) _ _ _
  refine wpAny_call (codeAny_call_builtin PySem.F.excAttr_ValueError.ga.plain PySem.F.entry_bexc_ga ?_)
  refine @check_slot (model prog w) _ _ ⟨hp, g, d, t + 1, os⟩ "BaseException.__getattribute__" "BaseException" "__getattribute__" (.ref y) [.str "__class__" t] [] _ (by decide +kernel) (by decide +kernel) inB (PySem.F.args_bexc_ga (.ref y) (.str "__class__" t)) ?_
  unfold Builtin.«object.__getattribute__»
  refine wpAny_bind (wpAny_of_eq (a := ((Value.ref y : Value), [Value.str "__class__" t])) (by first | rfl | (simp only [slotArgs]; rfl)) ?_)
  refine wpAny_bind (wpAny_pure (wpAny_bind (T0.at (wpAny_bind (T3.at ?_)))))
  show wpAny _ _ (holding [Value.builtin "object.__class__"] (call (.builtin "getset_descriptor.__get__") [.builtin "object.__class__", .ref y, .ref D]) >>= ret) _ _ ⟨hp, g, d, t + 1, os⟩
  refine wpAny_bind (wpAny_holding (wpAny_call (class_get (s := ⟨hp, g, d, t + 1, os⟩) (ox := oy) (od := some oo) kin I T.hm ?_)))
  refine wpAny_pure ?_
  show wpAny _ _ (handedOut (.ref D)) _ _ ⟨hp, g, d, t + 1, os⟩
  rw [handedOut_of (v := .ref D) rfl]
  first
    | exact wpAny_pure (wpAny_pure h)
    | exact wpAny_pure h
    | exact wpAny_pure (wpAny_bind (wpAny_pure (wpAny_pure h)))
theorem kit_kept (T : ExcC K D) : KitX K (.ref y) (.ref D) (fun h => ∃ oy oo, InstAt h y oy D (some oo)) where
  ty := fun _ _ _ I => by
    obtain ⟨_, _, I⟩ := I
    exact I.type
  it := fun _ _ kin _ => by
    obtain ⟨cd, hc, _⟩ := any_some T.hd
    unfold clsIn at hc
    split at hc
    · rename_i c' d' cd' sl' ho
      intro A' Q' E' s' k q
      unfold isType loadHead
      exact wpAny_bind (wpAny_loadPart (k _ _ (kin _ _ ho)) (wpAny_pure q))
    · cases hc
  ne := fun h tp dd its n sl kin htp => by
    obtain ⟨cd, hc, _⟩ := any_some T.hd
    refine Bool.eq_false_iff.mpr fun q => ?_
    obtain rfl : D = tp := Value.ref.inj (beq_iff_eq.mp q)
    unfold clsIn at hc
    split at hc
    · rename_i c' d' cd' sl' ho
      have z := (kin _ _ ho).symm.trans htp
      cases z
    · cases hc
  ca := fun kin I k => by
    obtain ⟨_, _, I⟩ := I
    exact class_of_exc T kin I rfl k
end
section
variable {X : Cx} {pins : List (Addr × Obj)} {σ : L2.St} {H : Hp} {s : Shared}
theorem kept_inst {a D d : Addr} {fs : List (Str × V)} (I : L2.Inv X pins σ H s) (e : H a = some (exk a (.ref D) (some d))) (ed : H d = some (.xd fs)) : ∃ oy oo, PySem.W.InstAt s.heap a oy D (some oo) ∧ ∃ mA : Str → Option Value, (∀ f, RelO (fs.lookup f) (mA f)) ∧ ∀ n, PySem.W.lookIn n oo = some (mA n) := by
  obtain ⟨oe, vs, h1, h2, h3, h4⟩ := exk_at I.hok e
  obtain ⟨mA, hns, hr⟩ := (show ObjOk X.prog X.w H s.heap d (.xd fs) from I.hok d _ ed)
  obtain ⟨oo, ho, hl⟩ := lookIn_ns hns
  exact ⟨oe, oo, ⟨h1, h2, by unfold PySem.W.notCls; rw [h4] <;> rfl, by rw [h3]; exact ho⟩, mA, hr, hl⟩
end
/-- isinstance(x, c), x an exception that was kept -/
def rIsX (K : PySem.W.Frag) : List V → Hp → VK → Prop := fun xs H Q => ∃ (a D d : Addr) (fs : List (Str × V)) (c : V) (u : Value) (b : Bool), xs = [.ref a, c] ∧ H a = some (exk a (.ref D) (some d)) ∧ H d = some (.xd fs) ∧ ExcC K D ∧ ClsV c u ∧ PySem.W.kitOne K (.ref D) u = some b ∧ Q (.bl b) H
/-- isinstance(x, (c1, ..)) -/
def rIsXT (K : PySem.W.Frag) : List V → Hp → VK → Prop := fun xs H Q => ∃ (a D d : Addr) (fs : List (Str × V)) (tp : Addr) (cs : List V) (us : List Value) (b : Bool), xs = [.ref a, .ref tp] ∧ H a = some (exk a (.ref D) (some d)) ∧ H d = some (.xd fs) ∧ ExcC K D ∧ H tp = some (.tup cs) ∧ Paired ClsV cs us ∧ PySem.W.kitAny K (.ref D) us = some b ∧ Q (.bl b) H
section
variable {X : Cx}
theorem call_isX : CallR X (.builtin "isinstance") (rIsX X.K) := by
  intro pins s σ H xs us Q I r h
  obtain ⟨a, D, d, fs, c, u, b, rfl, ea, ed, T, k, e, q⟩ := h
  obtain ⟨u1, u2, rfl, r1, r2⟩ := vals2 r
  obtain rfl := k.eq r2
  obtain rfl : u1 = Value.ref a := r1
  obtain ⟨oy, oo, J, _⟩ := kept_inst I ea ed
  exact PySem.W.kia_one (kit_kept T) I.kIn ⟨_, _, J⟩ e (fun z => nomatch z) fun tk => ⟨.bl b, H, I.tok tk, rfl, q⟩
theorem call_isXT : CallR X (.builtin "isinstance") (rIsXT X.K) := by
  intro pins s σ H xs us Q I r h
  obtain ⟨a, D, d, fs, tp, cs, ws, b, rfl, ea, ed, T, hT, k, e, q⟩ := h
  obtain ⟨u1, u2, rfl, r1, r2⟩ := vals2 r
  obtain rfl : u1 = Value.ref a := r1
  obtain rfl : u2 = Value.ref tp := r2
  obtain ⟨oy, oo, J, _⟩ := kept_inst I ea ed
  obtain ⟨_, its, rv, o, h1, h2, n, h3⟩ := (show ObjOk X.prog X.w H s.heap tp (.tup cs) from I.hok tp _ hT)
  obtain rfl := ClsV.all k rv
  obtain ⟨oc, odd, dt, sl⟩ := o
  simp only at h2 h3
  subst h2 h3
  exact PySem.W.kia_tup (kit_kept T) I.kIn ⟨_, _, J⟩ h1 e (fun z => nomatch z) fun tk => ⟨.bl b, H, I.tok tk, rfl, q⟩
/-- e.f, e an exception that was kept -/
def tFldX (K : PySem.W.Frag) (f : Str) (te : TE) : TE := fun σ H Q => te σ H fun x H1 => ∃ (a D d : Addr) (fs : List (Str × V)) (v : V), x = .ref a ∧ H1 a = some (exk a (.ref D) (some d)) ∧ H1 d = some (.xd fs) ∧ XfC K D ∧ PySem.W.findIn K (.ref D) f = some none ∧ fs.lookup f = some v ∧ Q v H1
theorem pe_fldX {e : Expr} {te : TE} {pos : Pos} {f : Str} (he : PE X e te) (hb : attributeBase e f X.env (eval e X.env) = eval e X.env := by rfl) : PE X (.Attribute e f pos) (tFldX X.K f te) := by
  refine ⟨fun pins s σ H Q I h => ?_⟩
  refine attr_of hb (thn (he.run pins s σ H _ I h) fun u s1 got => ?_)
  obtain ⟨x, H1, I1, rx, a, D, d, fs, v, rfl, ea, ed, T, hno, l, q⟩ := got
  obtain rfl : u = Value.ref a := rx
  obtain ⟨oy, oo, J, mA, hr, hl⟩ := kept_inst I1 ea ed
  obtain ⟨u, hu, ru⟩ := RelO.some_of (v := v) (o := mA f) (by rw [← l]; exact hr f)
  exact HandSPX.exc_get I1.kIn J T.ga T.gg T.exC (PySem.W.findObj_own T.hdC hno rfl (by rw [hl, hu])) (handed_of ru) ⟨v, H1, I1.tok _, ru, q⟩
end
/-! ### what the written part says of the program's error classes -/
structure BaseT (K : PySem.W.Frag) (B : Addr) : Prop where
  sp : PySem.W.specialIn K (.ref B) "__getattribute__" = some (some (.builtin "type.__getattribute__"))
  ty : PySem.W.typeIn K (.ref B) = some (.type "type")
  rd : PySem.W.readsIn K B (.type "type") = true
  fc : PySem.W.findCls K (.ref B) (.type "type") "__init__" = some (.val (.builtin "ValueError.__init__"))
structure ErrT (K : PySem.W.Frag) (C fI : Addr) (f : Str) (B : Addr) : Prop where
  ox : OexC K C
  xf : XfC K C
  ec : ExcC K C
  no : PySem.W.findIn K (.ref C) f = some none
  iC : PySem.W.findIn K (.ref C) "__init__" = some (some (.ref fI))
  tI : PySem.W.typeIn K (.ref fI) = some (.type "function")
  ex : PySem.W.exmOne K (.ref C) (.ref B) = some true
/-- an error's __init__: the base's, then the field -/
def spErr (K : PySem.W.Frag) (C : Addr) (f : Str) : Sp := fun vs H Q _ => ∃ (a : Addr) (v : V), vs = [.ref a, v] ∧ H a = some (exo a C none) ∧ ∀ dx, H dx = none → dx ≠ a → Q .non (upd (upd H dx (exd dx [(f, v)])) a (exo a C (some dx)))
/-- behind the raise: the error's dict, all else as it was -/
theorem err_end {H : Hp} {a C dx : Addr} {f : Str} {v : V} (na : H a = none) (nd : (upd H a (exo a C none)) dx = none) (ne : dx ≠ a) :
    let H2 := upd (upd (upd H a (exo a C none)) dx (exd dx [(f, v)])) a (exo a C (some dx))
    H2 a = some (exo a C (some dx)) ∧ H2 dx = some (exd dx [(f, v)]) ∧ H dx = none ∧ Same H (upd (del H2 a) dx (.xd [(f, v)])) ∧ (upd (del H2 a) dx (.xd [(f, v)])) dx = some (.xd [(f, v)]) := by
  have hd : H dx = none := by
    rw [upd_ne ne] at nd
    exact nd
  refine ⟨upd_same, by rw [upd_ne ne, upd_same], hd, fun b o z => ?_, upd_same⟩
  have n1 : b ≠ a := ne_of_none z na
  have n2 : b ≠ dx := ne_of_none z hd
  rw [upd_ne n2, del_ne n1, upd_ne n1, upd_ne n2, upd_ne n1]
  exact z
end Ef
set_option maxHeartbeats 4000000
namespace Ef
open PySem PySem.Spec PyProof.Rows L2
open Sem (wp)
/-! ### enumerate(tuple) -/
theorem meets_enumerate_newG {v : Value} {o : Obj} {H : Heap → Prop} (B : Begins v o H) :
    Meets (Builtin.«enumerate.__new__» ⟨[.type "enumerate", v], []⟩) (fun _ R s => H s.heap ∧
      R (.ok (.ret (.ref (s.heap.push o).objs.size))) { s with heap := (s.heap.push o).push { cls := .type "enumerate", data := .fields #[.none, .bool false, .ref s.heap.objs.size, rawInt 0, .none, .none] } }) :=
  .of_wp fun prog w A R s h => by
    obtain ⟨hp, g, d, tk, os⟩ := s; obtain ⟨h1, h⟩ := h
    have hsub := sub_enumerate
    have q1 : ∀ {A' : Around} {E : Value → Shared → Prop} {Q : Value → Shared → Prop}, Q (.ref hp.objs.size) ⟨hp.push o, g, d, tk, os⟩ → wpAny (model prog w) A' (pyIter v) Q E ⟨hp, g, d, tk, os⟩ :=
      fun q => B.iter prog w _ _ ⟨hp, g, d, tk, os⟩ _ h1 q
    wp_walk using q1
    refine wpAny_stack_any fun st => wpAny_pure ?_
    split
    · rename_i c _ _ _ _ _
      cases (c == Value.type "enumerate")
      · wp_walk using q1
        exact ⟨_, rfl, h⟩
      · wp_walk using q1
        exact ⟨_, rfl, h⟩
    · wp_walk using q1
      exact ⟨_, rfl, h⟩
theorem call_enumerate_tup {prog : Program} {w : World} {A : Around} {E : Value → Shared → Prop} {s : Shared} {t : Addr} {items : Array Value} {Q : Value → Shared → Prop} (hT : s.heap.IsTuple t items)
    (h : ∀ h', IsEnum h' (s.heap.objs.size + 1) s.heap.objs.size 0 .none → h'.IsTupleIter s.heap.objs.size t 0 → h'.objs.size = s.heap.objs.size + 2 →
      (∀ b o, s.heap.get? b = some o → h'.get? b = some o) → Q (.ref (s.heap.objs.size + 1)) { s with heap := h' }) :
    wpAny (model prog w) A (call (.type "enumerate") [.ref t]) Q E s := by
  refine callType_new F.called_enumerate (by decide) (F.typeCall_enumerate_1 _) (F.newCall_enumerate_1 _) (fun obj => F.args_object_init_2 obj _) F.entry_enumerate_new
    (meets_enumerate_newG (begins_tuple t items)) ⟨hT, ?_⟩
  have hz : (s.heap.push { cls := .type "tuple_iterator", data := .fields #[.ref t, .int 0 0] }).objs.size = s.heap.objs.size + 1 := Heap.size_push ..
  show _ ∧ _
  rw [hz]
  have he : IsEnum ((s.heap.push { cls := .type "tuple_iterator", data := .fields #[.ref t, .int 0 0] }).push
      { cls := .type "enumerate", data := .fields #[.none, .bool false, .ref s.heap.objs.size, rawInt 0, .none, .none] }) (s.heap.objs.size + 1) s.heap.objs.size 0 .none := by
    have := Heap.get?_push_size (s.heap.push { cls := .type "tuple_iterator", data := .fields #[.ref t, .int 0 0] })
      (o := { cls := .type "enumerate", data := .fields #[.none, .bool false, .ref s.heap.objs.size, rawInt 0, .none, .none] }) rfl
    rw [hz] at this; exact this
  exact ⟨⟨_, he, rfl⟩, h _ he ⟨_, Heap.get?_push_of_some _ (Heap.get?_push_size _ rfl), rfl, rfl⟩ (by rw [Heap.size_push, hz]) fun b o x => Heap.get?_push_of_some _ (Heap.get?_push_of_some _ x)⟩
/-- the tuple at a, each item in a new pair -/
def Itet (K : PySem.W.Frag) (a : Addr) : It :=
  ⟨fun i H => ∃ (xs : List V) (x : V), SqT K H a xs ∧ xs[i]? = some x, fun i H v H' => ∃ T x, v = .ref T ∧ H T = none ∧ H' = upd H T (.tup [.int (i : Nat), x]) ∧ ∀ xs, SqT K H a xs → xs[i]? = some x, fun i H => ∃ xs : List V, SqT K H a xs ∧ xs.length ≤ i⟩
theorem tup_ne_iter {h : Heap} {a it : Addr} {items : Array Value} {i : Nat} (ht : h.IsTuple a items) (hit : h.IsTupleIter it a i) : a ≠ it := by
  rintro rfl
  obtain ⟨o, h1, c1, _⟩ := ht
  obtain ⟨o', h2, c2, _⟩ := hit
  rw [h1] at h2
  obtain rfl := Option.some.inj h2
  rw [c1] at c2
  injection c2 with c3
  exact absurd c3 (by decide)
theorem enum_ne_tup {h : Heap} {a e it : Addr} {items : Array Value} {i : Int} {old : Value} (ht : h.IsTuple a items) (he : IsEnum h e it i old) : e ≠ a := by
  rintro rfl
  obtain ⟨o, h1, c1, _⟩ := ht
  have h2 : h.get? e = _ := he
  rw [h1] at h2
  obtain rfl := Option.some.inj h2
  injection c1 with c3
  exact absurd c3 (by decide)
theorem wpAny_pyNext_enum_endX {prog : Program} {w : World} {A : Around} {E : Value → Shared → Prop} {s : Shared} {e it t : Addr} {i : Nat} {items : Array Value} {old : Value} {Q : Option Value → Shared → Prop} (hh : A.handled = none)
    (he : IsEnum s.heap e it i old) (hit : s.heap.IsTupleIter it t i) (ht : s.heap.IsTuple t items) (hx : items[i]? = none)
    (hQ : ∀ h', Heap.ExtBut it s.heap h' → Q none { s with heap := h' }) : wpAny (model prog w) A (pyNext (.ref e)) Q E s := by
  have hT : s.TypeIs (.ref e) "enumerate" := ⟨_, he, rfl⟩
  unfold pyNext
  refine wpAny_bind (wpAny_attempt (wpAny_callSpecial?_slot (name := Str.ofString "__next__") hT F.slot_enumerate_next
    (wpAny_call_entry F.slot_enumerate_next hT F.entry_enumerate_next ?_ (F.args_enumerate_next_1 _))))
  show wpAny _ _ (field (.ref e) 2 >>= _) _ _ _
  refine wpAny_bind (wpAny_field he rfl (x := .ref it) rfl ?_)
  refine wpAny_bind (wpAny_nextOf_tuple_end (show A.in1.handled = none from hh) hit ht hx fun h' x he' hx' => ?_)
  obtain ⟨o, ho, hc⟩ := hx'
  refine wpAny_bind (wpAny_isInstance (T := "StopIteration") (b := true) ⟨o, ho, hc⟩ isSubtype_stop ?_)
  exact wpAny_pure (hQ _ he')
theorem turn_enumT {P : Program} {w : World} {K : PySem.W.Frag} {elts : List Expr} {kk : Nat} {tpos : Pos} (a e it : Addr) :
    Turn P w K (.Tuple elts kk tpos) (Itet K a) [e, it] e (fun i h => (∃ old, IsEnum h e it ((i : Nat) : Int) old) ∧ h.IsTupleIter it a i ∧ e ≠ it) where
  mem := by simp
  obj := fun i h st b hb => by
    obtain ⟨⟨old, he⟩, ⟨o, ho, hc, hd⟩, _⟩ := st
    have e' : b = e ∨ b = it := by simpa using hb
    rcases e' with z | z
    · rw [z]; exact ⟨_, he, fun v q => nomatch q⟩
    · rw [z]; exact ⟨o, ho, fun v q => by rw [hd] at q; cases q⟩
  keep := fun i h h' st k => let ⟨⟨old, he⟩, hi, hne⟩ := st; ⟨⟨old, k e (by simp) _ he⟩, hi.at fun o q => k it (by simp) o q, hne⟩
  item := by
    intro X hP hw hK hc i pins s σ H E I hf st hg
    subst hP hw hK
    obtain ⟨⟨old, he⟩, hit, hne⟩ := st
    obtain ⟨xs, x, hq, hx⟩ := hg
    obtain ⟨its, rv, p, hz⟩ := I.tuple hq
    obtain ⟨u, hu, ru⟩ := rv.get hx
    have hel : e < s.heap.objs.size := Heap.lt_size he
    have hil : it < s.heap.objs.size := by obtain ⟨_, q, _⟩ := hit; exact Heap.lt_size q
    have pT : s.heap.IsTuple a its.toArray := p
    have hai := tup_ne_iter pT hit
    have hei : i < its.toArray.size := by
      have h9 : i < its.length := by
        rw [← rv.length]
        exact (List.getElem?_eq_some_iff.mp hx).1
      simpa using h9
    refine wpAny_pyNext_enum_itemD (Draws.tuple (show X.A.in1.handled = none from I.ok.hd hc) it a hai its.toArray) he ⟨hit, pT⟩ hei hne (fun z => ?_) fun x2 h' tk hP ho hst' hT hsz hk => ?_
    · rcases List.mem_cons.mp z with z | z
      · exact hne z
      · exact enum_ne_tup pT he (by simpa using z)
    have hP2 : its.toArray[i]? = some x2 := hP
    obtain rfl : u = x2 := by
      have h9 : its[i]? = some x2 := by simpa using hP2
      rw [hu] at h9
      exact Option.some.inj h9
    refine ⟨_, rfl, wpAny_letOwnedTupleGo_enum (s := { s with heap := h', toks := tk + 1 }) ho fun h'' he' sb => ?_⟩
    have hT2 : h''.get? s.heap.objs.size = some { cls := .type "tuple", data := .seq #[.int i tk, u] } := (sb.2 _ (Nat.ne_of_gt hel)).trans hT
    have new : ObjOk X.prog X.w (upd H s.heap.objs.size (.tup [.int (i : Nat), x])) h'' s.heap.objs.size (.tup [.int (i : Nat), x]) :=
      ⟨by show 2 ≤ sizeLine; decide, [.int i tk, u], .cons ⟨_, rfl⟩ (.cons ru .nil), ⟨_, hT2, rfl, _, rfl⟩⟩
    have I1 : Inv X pins σ (upd H s.heap.objs.size (.tup [.int (i : Nat), x])) { s with heap := h'', toks := tk + 1 } :=
      I.turnedNew (ch := [e, it]) (fun b ob hb q => (sb.2 b (fun z => hb (by simp [z]))).trans (hk b ob (fun z => hb (by simp [z])) (fun z => hb (by simp [z])) q)) hf (Nat.le_refl _) new
    refine ⟨.ref s.heap.objs.size, _, I1, rfl, ⟨_, x, rfl, I.hok.fresh (Nat.le_refl _), rfl, fun ys hy => by rw [I.tuple_inj hy hq]; exact hx⟩, ⟨⟨u, ?_⟩, hst'.1.at fun o q => (sb.2 it (Ne.symm hne)).trans q, hne⟩, fun b hb => ?_⟩
    · have e1 : ((i + 1 : Nat) : Int) = (i : Int) + 1 := by omega
      rw [e1]; exact he'
    · have hb' : b < s.heap.objs.size := by
        have e' : b = e ∨ b = it := by simpa using hb
        rcases e' with z | z
        · rw [z]; exact hel
        · rw [z]; exact hil
      rw [upd_ne (Nat.ne_of_lt hb')]
      exact (hf b hb).1
  done := by
    intro X hP hw hK hc i pins s σ H E I hf st hg
    subst hP hw hK
    obtain ⟨⟨old, he⟩, hit, hne⟩ := st
    obtain ⟨xs, hq, hx⟩ := hg
    obtain ⟨its, rv, p, hz⟩ := I.tuple hq
    obtain ⟨f0, f1, f2, f3, f4, f5⟩ := hf it (by simp)
    have pT : s.heap.IsTuple a its.toArray := p
    have hl := rv.length
    refine wpAny_pyNext_enum_endX (I.ok.hd hc) he hit pT (by simp; omega) fun h' eb => ⟨rfl, I.turned (t' := s.toks) (fun b o hb q => eb b o hb q) f0 f1 f3 f4 f5⟩
  self := fun A i s Q E st h => let ⟨⟨_, he⟩, _⟩ := st; wpAny_pyIter_enum he h
def iEnumT (K : PySem.W.Frag) (ta : TA) : TI := fun σ H R => ta σ H fun vs H1 => ∃ a xs, vs = [.ref a] ∧ SqT K H1 a xs ∧ R (Itet K a) H1
theorem pi_enumT {X : Cx} {e : Expr} {ta : TA} {p pos tpos : Pos} {elts : List Expr} {kk : Nat} (hg : Gl X "enumerate") (hm : X.mg "enumerate" = none) (ha : PA X [e] ta) (hs : starEach [e] X.env = [(false, eval e X.env)] := by rfl) :
    PI X (.Tuple elts kk tpos) (.Call (.Name "enumerate" p) [e] [] pos) (iEnumT X.K ta) := by
  refine ⟨fun pins s σ H R I h => ?_⟩
  refine Call_ (ld_blt I hg hm boot_enumerate (PyProof.Rows.callWith_type1 (thn (ha.run pos pins s σ H _ I h) fun us s1 ⟨vs, H1, I1, r1, q1⟩ => ?_) hs rfl))
  obtain ⟨a, xs, ex, hq, q⟩ := q1
  subst ex
  cases r1 with
  | cons r rr =>
    cases rr
    cases r
    obtain ⟨its, rv, p', hz⟩ := I1.tuple hq
    refine call_enumerate_tup (show s1.heap.IsTuple a its.toArray from p') fun h' he hit hsz hk => wpAny_pyIter_enum he ?_
    have I2 : Inv X pins σ H1 { s1 with heap := h' } := I1.kept (t' := s1.toks) hk
    refine ⟨s1.heap.objs.size + 1, [s1.heap.objs.size + 1, s1.heap.objs.size], _, _, H1, rfl, I2, turn_enumT a (s1.heap.objs.size + 1) s1.heap.objs.size, ⟨⟨.none, he⟩, hit, Nat.succ_ne_self _⟩, fun b hb => ?_, q⟩
    have e' : b = s1.heap.objs.size + 1 ∨ b = s1.heap.objs.size := by simpa using hb
    have hle : s1.heap.objs.size ≤ b := by
      rcases e' with z | z
      · rw [z]; exact Nat.le_add_right _ _
      · rw [z]; exact Nat.le_refl _
    exact I1.fpOk hle (I1.hok.fresh hle)
/-! ### sorted(xs) of tuples of ints, also of at most one -/
theorem sort_short {prog : Program} {w : World} {A : Around} {E : Value → Shared → Prop} {s : Shared} {a : Addr} {vs : List Value} {n : Nat} {P : PySem.Fin → Shared → Prop} (ho : s.heap.get? a = some (seqObj "list" vs.toArray n)) (h1 : vs.length < 2)
    (h : ∀ out : Array Value, out.toList.Perm vs → P (.done (.ret .none)) { s with heap := sortedHeap s.heap a vs out }) :
    wpAny (model prog w) A (Builtin.«list.sort» ⟨[.ref a], []⟩) P E s :=
  SK.plain_sort (r := fun _ => 0) ho (by omega) (fun h2 Q hQ => absurd h2 (by omega)) fun ps out e1 e2 e3 => h out (TS.out_rank (r := fun _ => 0) e1 e2 e3).1
theorem sorted_short {prog : Program} {w : World} {A : Around} {E : Value → Shared → Prop} {s : Shared} {l : Addr} {vs : List Value} {Q : Value → Shared → Prop} (hl : s.heap.IsList l vs.toArray) (h1 : vs.length < 2)
    (h : ∀ out : Array Value, out.toList.Perm vs → Q (.ref (s.heap.objs.size + 1)) { s with heap := sortedAll s.heap vs out }) :
    wpAny (model prog w) A (call (.builtin "sorted") [.ref l]) Q E s := by
  refine Calls.call_function_entry kind_sorted plain_sorted entry_sorted (args_sorted1 _) ?_
  unfold Builtin.«sorted»
  refine wpAny_bind (m := checkCount "sorted" 1 1 _) (wpAny_pure ?_)
  refine wpAny_bind (collect_list hl ?_ (by rw [sizeLine_eq]; omega))
  refine wpAny_bind (wpAny_newList ?_ (by rw [sizeLine_eq]; omega))
  have hsz : ((s.heap.push (seqObj "list" #[] 0)).update s.heap.objs.size (Obj.mapSeq (· ++ vs.toArray))).objs.size = s.heap.objs.size + 1 := by
    rw [Heap.size_update, size_push']
  have hoL : (((s.heap.push (seqObj "list" #[] 0)).update s.heap.objs.size (Obj.mapSeq (· ++ vs.toArray))).push (seqObj "list" vs.toArray 0)).get? (s.heap.objs.size + 1) = some (seqObj "list" vs.toArray 0) := by
    rw [← hsz]; exact Heap.get?_push_size _ rfl
  show wpAny _ _ _ _ _ { s with heap := ((s.heap.push (seqObj "list" #[] 0)).update s.heap.objs.size (Obj.mapSeq (· ++ vs.toArray))).push (seqObj "list" vs.toArray 0) }
  rw [hsz]
  refine wpAny_bind (wpAny_holding (wpAny_call_entry slot_list_sort ⟨_, hoL, rfl⟩ entry_list_sort (sort_short hoL h1 fun out a1 => ⟨_, rfl, ?_⟩) (args_list_sort _)))
  exact wpAny_pure ⟨_, rfl, h out a1⟩
def rSortA (K : PySem.W.Frag) (B : Int) : List V → Hp → VK → Prop := fun vs H Q => (∃ d, 1 ≤ d ∧ rSortU K d B vs H Q) ∨
  ∃ (a : Addr) (xs : List V), vs = [V.ref a] ∧ SqL K H a xs ∧ xs.length < 2 ∧ (∀ x ∈ xs, ∃ t, x = .ref t) ∧ ∀ p, H p = none → Q (.ref p) (upd H p (.lst xs))
theorem perm_short {α : Type} {l m : List α} (h : l.Perm m) (h1 : m.length < 2) : l = m := by
  cases m with
  | nil => exact List.perm_nil.mp h
  | cons x r =>
    cases r with
    | nil => exact List.perm_singleton.mp h
    | cons y r => exact absurd h1 (by simp)
theorem cr_sortA {X : Cx} {B : Int} : CallR X (.builtin "sorted") (rSortA X.K B) := by
  intro pins s σ H vs us Q I r h
  rcases h with ⟨d, hd, h⟩ | ⟨a, xs, rfl, hs, h1, hx, q⟩
  · exact cr_sortT hd pins s σ H vs us Q I r h
  · obtain ⟨its, rv, hl, hz⟩ := I.list hs
    rw [Vals.ref1 r]
    obtain ⟨e1, e2⟩ := bkV_refs rv hx
    refine sorted_short hl.isList (by rw [← rv.length]; exact h1) fun out p1 => ?_
    · obtain ⟨ep, he'⟩ := PyProof.Rows.sortedAll_at s.heap its out
      have e9 : out.toList = its := perm_short p1 (by rw [← rv.length]; exact h1)
      refine ⟨.ref _, upd H (s.heap.objs.size + 1) (.lst xs), I.laid (t' := s.toks) (fun _ _ => PyProof.Rows.sortedAll_old) (Nat.le_succ _) ⟨hz, out.toList, ep, by rw [e9]; exact rv, he'⟩, rfl, q _ (I.hok.fresh (Nat.le_succ _))⟩
theorem walk_enumT {K : PySem.W.Frag} {a : Addr} {xs : List V} : Walk (Itet K a) xs.length (fun H => SqT K H a xs) (YPair (fun i => some (.int (i : Nat))) (fun i => xs[i]?)) := by
  refine ⟨fun i _ hi q => ⟨xs, xs[i], q, by simp [hi]⟩, fun _ q => ⟨xs, q, Nat.le_refl _⟩, fun i H v H' _ q y => ?_⟩
  obtain ⟨T, x, h1, h2, h3, h4⟩ := y
  exact ⟨T, .int (i : Nat), x, h1, h2, h3, rfl, h4 xs q⟩
end Ef
set_option maxHeartbeats 4000000
namespace Ef
open PySem PySem.Spec PyProof.Rows L2
/-! ### sorted(t) of a tuple of ints -/
section
variable {prog : Program} {w : World} {A : Around} {E : Value → Shared → Prop} {s : Shared}
theorem collect_tup {l : Addr} {vs : List Value} {Q : List Value → Shared → Prop} (hl : s.heap.IsTuple l vs.toArray) (hn : vs.length ≤ sizeLine)
    (h : Q vs { s with heap := (s.heap.push (seqObj "list" #[] 0)).update s.heap.objs.size (Obj.mapSeq (· ++ vs.toArray)) }) : wpAny (model prog w) A (collect (.ref l)) Q E s := by
  obtain ⟨o, ho, hc, n, hd⟩ := hl
  have h2 : (s.heap.push (seqObj "list" #[] 0)).get? l = some o := Heap.get?_push_of_some _ ho
  have h3 : (s.heap.push (seqObj "list" #[] 0)).get? s.heap.objs.size = some (seqObj "list" #[] 0) := Heap.get?_push_size _ rfl
  have h4 : ((#[] : Array Value) ++ vs.toArray).toList = vs := by simp
  have h5 : (#[] ++ vs.toArray).size ≤ sizeLine + 1 := by
    simp only [Array.size_append, List.size_toArray, List.length_nil]
    omega
  unfold collect
  refine wpAny_bind (wpAny_runValue (codeAny_builtin entry_proto_collect' (show wpAny _ _ (do again (.builtin "list.__iadd__" ⟨[← newList [], .ref l], []⟩)) _ _ s from ?_)))
  refine wpAny_bind (wpAny_newList (wpAny_pure ⟨Code.quiet_builtin _ (by decide +kernel), codeAny_builtin entry_list_iadd' (show wpAny _ _ (Builtin.List.listExtendWith (.ref s.heap.objs.size) (.ref l) (.ref s.heap.objs.size)) _ _ { s with heap := s.heap.push (seqObj "list" #[] 0) } from ?_)⟩))
  unfold Builtin.List.listExtendWith
  refine wpAny_bind (wpAny_typeOf (T := "tuple") ⟨o, h2, hc⟩ ?_)
  rw [if_pos (by rw [show (Value.type "tuple" == Value.type "tuple") = true from rfl]; simp)]
  refine wpAny_bind (listItems_at h2 hd (wpAny_bind (listItems_at (xs := #[]) (n := 0) h3 rfl ?_)))
  rw [if_neg (by simp)]
  refine wpAny_bind (listUpdate_at (xs := #[]) (n := 0) h3 rfl (wpAny_pure ?_) (Nat.zero_le _) h5)
  show wpAny (model prog w) A (do
      let o ← load s.heap.objs.size
      match o.data with
      | .seq ys _ => pure ys.toList
      | _ => unsupported "internal:collect") Q E { s with heap := (s.heap.push (seqObj "list" #[] 0)).update s.heap.objs.size (Obj.mapSeq (· ++ vs.toArray)) }
  refine wpAny_bind (wpAny_load (get?_update_seq h3 _) (show wpAny _ _ (pure ((#[] : Array Value) ++ vs.toArray).toList) Q E _ from ?_))
  rw [h4]
  exact wpAny_pure h
theorem sorted_tup {l : Addr} {vs : List Value} {ns : List Int} {Q : Value → Shared → Prop} (hl : s.heap.IsTuple l vs.toArray) (hI : IntsAre vs ns) (hn : vs.length < 64)
    (h : ∀ (out : Array Value) (ns' : List Int), IntsAre out.toList ns' → ns'.Perm ns → ns'.Pairwise (· ≤ ·) → Q (.ref (s.heap.objs.size + 1)) { s with heap := sortedAll s.heap vs out }) :
    wpAny (model prog w) A (call (.builtin "sorted") [.ref l]) Q E s := by
  refine Calls.call_function_entry kind_sorted plain_sorted entry_sorted (args_sorted1 (.ref l)) ?_
  unfold Builtin.«sorted»
  refine wpAny_bind (m := checkCount "sorted" 1 1 _) (wpAny_pure (wpAny_bind (collect_tup hl (by rw [sizeLine_eq]; omega) (wpAny_bind (wpAny_newList ?_ (by rw [sizeLine_eq]; omega))))))
  have z1 : ((s.heap.push (seqObj "list" #[] 0)).update s.heap.objs.size (Obj.mapSeq (· ++ vs.toArray))).objs.size = s.heap.objs.size + 1 := (Heap.size_update ..).trans (size_push' ..)
  have z2 := Heap.get?_push_size ((s.heap.push (seqObj "list" #[] 0)).update s.heap.objs.size (Obj.mapSeq (· ++ vs.toArray))) (o := seqObj "list" vs.toArray 0) rfl
  rw [z1] at z2
  show wpAny _ _ _ _ _ { s with heap := ((s.heap.push (seqObj "list" #[] 0)).update s.heap.objs.size (Obj.mapSeq (· ++ vs.toArray))).push (seqObj "list" vs.toArray 0) }
  rw [z1]
  refine wpAny_bind (wpAny_holding (wpAny_call_entry slot_list_sort ⟨_, z2, rfl⟩ entry_list_sort (list_sort_tree z2 hI hn fun out ns' a1 a2 a3 => ⟨_, rfl, wpAny_pure ⟨_, rfl, h out ns' a1 a2 a3⟩⟩) (args_list_sort _)))
end
def rSortTI (K : PySem.W.Frag) : List V → Hp → VK → Prop := fun vs H Q => ∃ (a : Addr) (ns : List Int), vs = [V.ref a] ∧ (SqL K H a (ns.map V.int) ∨ SqT K H a (ns.map V.int)) ∧ ns.length < 64 ∧
  ∀ (ns' : List Int) (p : Addr), ns'.Perm ns → ns'.Pairwise (· ≤ ·) → H p = none → Q (.ref p) (upd H p (.lst (ns'.map V.int)))
section
variable {X : Cx} (K : PySem.W.Frag)
theorem cr_sortTI (h : X.K = K := by rfl) : CallR X (.builtin "sorted") (rSortTI K) := by
  subst h
  intro pins s σ H vs us Q I r h
  obtain ⟨a, ns, rfl, hs | hs, h64, q⟩ := h
  · exact cr_sorted pins s σ H _ us Q I r ⟨a, ns, rfl, hs, h64, q⟩
  · obtain ⟨its, rv, hl, hz⟩ := I.tuple hs
    rw [Vals.ref1 r]
    have hi := rv.ints
    refine sorted_tup (show s.heap.IsTuple a its.toArray from hl) hi (by rw [hi.length]; exact h64) fun out ns' h1 h2 h3 => ?_
    obtain ⟨ep, he'⟩ := PyProof.Rows.sortedAll_at s.heap its out
    have hlen : (ns'.map V.int).length ≤ sizeLine := by
      rw [List.length_map, h2.length_eq]
      exact small64 h64
    exact ⟨.ref _, upd H (s.heap.objs.size + 1) (.lst (ns'.map V.int)), I.laid (t' := s.toks) (fun _ _ => PyProof.Rows.sortedAll_old) (Nat.le_succ _) ⟨hlen, out.toList, ep, vals_of_ints h1, he'⟩, rfl, q ns' _ h2 h3 (I.hok.fresh (Nat.le_succ _))⟩
end
end Ef
set_option maxHeartbeats 4000000
namespace Ef
open PySem PySem.Spec PyProof.Rows L2
/-! ### set(xs) of a list of ints -/
section
variable {P : Program} {w : World} {A : Around} {E : Value → Shared → Prop} {s : Shared}
/-- a new set -/
abbrev set0 (w : World) : Obj := { cls := .type "set", dict := none, data := .set #[] 0 (.fresh 0 0 (!w.params.followText "set-order")) }
theorem call_setL {l : Addr} {items : Array Value} (ns : List Int) {Q : Value → Shared → Prop} (hh : A.handled = none) (hl : s.heap.IsList l items) (hit : IntsAre items.toList ns) (hb : ns.length + 1 < scanBound)
    (h : ∀ (h' : Heap) (tk c : Nat), SetR w h' s.heap.objs.size (fun j => decide (j ∈ ns)) c → c ≤ ns.length → (∀ b o, s.heap.get? b = some o → h'.get? b = some o) → Q (.ref s.heap.objs.size) { s with heap := h', toks := tk }) :
    wpAny (model P w) A (call (.type "set") [.ref l]) Q E s := by
  have len : items.size = ns.length := by
    have q := IntsAre.length hit
    rw [Array.length_toList] at q
    exact q
  obtain ⟨mc, mt, y0⟩ := F.called_set.mro
  have y1 := F.called_set.made
  have y2 := F.called_set.sub
  have y3 := F.called_set.notType
  have y4 := F.called_set.canCreate
  have y5 := F.typeCall_set_1 (.ref l)
  have hS : (s.heap.push (set0 w)).get? s.heap.objs.size = some (set0 w) := Heap.get?_push_size _ rfl
  have hT : Shared.TypeIs { s with heap := s.heap.push (set0 w) } (.ref s.heap.objs.size) "set" := ⟨_, hS, rfl⟩
  have y6 := F.called_set.init.lookup
  have y7 := F.called_set.init.bind (.ref s.heap.objs.size)
  refine wpAny_call (codeAny_of_tree (show wpAny _ _ (callAny (.type "set") _) _ _ _ from wpAny_pure ⟨Code.quiet_builtin _ (by decide +kernel), codeAny_builtin F.entry_type_call ?_⟩))
  rw [Around.under_plain (weight_type_call_type "set" [.ref l] []) rfl]
  repeat any_goals first | assumption | wp_step
  refine codeAny_mono (code_set_led1 (.ref l) (E := E) (Q₁ := fun obj s₁ => obj = .ref s.heap.objs.size ∧ s₁ = { s with heap := s.heap.push (set0 w) }) ⟨rfl, rfl⟩) fun r s₁ hr => ?_
  cases r with
  | error e => exact hr
  | ok fl =>
    cases fl with
    | ret obj =>
      obtain ⟨rfl, rfl⟩ := hr
      repeat any_goals first | assumption | wp_step
      refine codeAny_mono (codeAny_call_builtin (R := wants (fun r s₂ => r = .none ∧ ∃ h' tk c, s₂ = { s with heap := h', toks := tk } ∧ SetR w h' s.heap.objs.size (fun j => decide (j ∈ ns)) c ∧ c ≤ ns.length ∧
          (∀ b o, s.heap.get? b = some o → h'.get? b = some o)) E) F.called_set.init.plain F.entry_set_init (check_set_init_1 hT ?_)) fun r₂ s₂ hr₂ => ?_
      · obtain ⟨⟨c1, c2, c3, c4⟩, hol, hcl, nl, hdl⟩ := hl
        simp only at hcl hdl
        subst hcl hdl
        have ho2 : (s.heap.push (set0 w)).get? l = some { cls := .type "list", dict := c2, data := .seq items nl, slots := c4 } := Heap.get?_push_of_some _ hol
        have z1 := F.sub_list_set
        have z2 := F.sub_list_frozenset
        have z3 : (Value.type "list" == Value.type "dict") = false := by decide
        have hl1 : (s.heap.push (set0 w)).IsList l items := ⟨_, ho2, rfl, nl, rfl⟩
        have lS : l < s.heap.objs.size := Heap.lt_size hol
        have sz : (s.heap.push (set0 w)).objs.size = s.heap.objs.size + 1 := Heap.size_push ..
        unfold Builtin.«set.__init__» noKeywords Builtin.Frozenset.updateFrom
        generalize hPI : pyIter = PI
        wp_walk
        subst hPI
        refine wpAny_pyIter_list hl1 (wpAny_bind (wpAny_runValue ?_))
        have h3 : A.in1.in1.in1.handled = none := by simp [hh]
        have ne1 : l ≠ (s.heap.push (set0 w)).objs.size := by
          rw [sz]
          exact Nat.ne_of_lt (Nat.lt_succ_of_lt lS)
        have nf : s.heap.objs.size ∉ [(s.heap.push (set0 w)).objs.size, l] := by
          rw [sz]
          simp only [List.mem_cons, List.not_mem_nil, or_false, not_or]
          exact ⟨Nat.ne_of_lt (Nat.lt_succ_self _), Nat.ne_of_gt lS⟩
        have val : ∀ (i : Nat) (v : Value), items[i]? = some v → ∃ k t, ns[i]? = some k ∧ v = .int k t := fun i v hv => by
          have hi : i < ns.length := by rw [← len]; exact (Array.getElem?_eq_some_iff.mp hv).1
          obtain ⟨t, e⟩ := PyProof.Rows.IntsAre.int_at hit i v (by rw [Array.getElem?_toList]; exact hv)
          refine ⟨ns[i], t, List.getElem?_eq_getElem hi, ?_⟩
          rw [e, List.getD_eq_getElem?_getD, List.getElem?_eq_getElem hi] <;> rfl
        refine set_update_ints ((Walks.list h3 _ l ne1 items).toS) s.heap.objs.size nf ns len hb val (items.size - 0) 0 _ (by omega) (Nat.zero_le _) ⟨⟨_, Heap.get?_push_size _ rfl, rfl, rfl⟩, (hl1.push _)⟩ ⟨0, Nat.le_refl 0, setR_new_at (Heap.get?_push_of_some _ hS)⟩ ?_
        intro s' c' hm hc' hS'
        obtain ⟨h', g2, d', tk', os'⟩ := s'
        have eg : g2 = s.gens := hm.gens
        have ed : d' = s.drawn := hm.drawn
        have eo : os' = s.os := hm.os
        subst eg ed eo
        rw [len] at hc'
        refine wpAny_pure (show wpAny _ _ (ret Value.none) _ _ _ from wpAny_pure ⟨rfl, h', tk', c', rfl, hS', hc', fun b o e => ?_⟩)
        have b0 : b < s.heap.objs.size := Heap.lt_size e
        refine hm.heap b o ?_ (Heap.get?_push_of_some _ (Heap.get?_push_of_some _ e))
        simp only [List.mem_cons, List.not_mem_nil, or_false, not_or]
        rw [sz]
        exact ⟨Nat.ne_of_lt b0, Nat.ne_of_lt (Nat.lt_succ_of_lt b0)⟩
      · cases r₂ with
        | error e => exact hr₂
        | ok fl₂ =>
          cases fl₂ with
          | ret r =>
            obtain ⟨rfl, h', tk, c', rfl, hS', hc', hk'⟩ := hr₂
            repeat any_goals first | assumption | wp_step
            exact h _ _ _ hS' hc' hk'
          | _ => exact hr₂.elim
    | _ => exact hr.elim
end
def rSetL (K : PySem.W.Frag) (w : World) : List V → Hp → VK → Prop := fun xs H Q => ∃ (l : Addr) (ns : List Int), xs = [.ref l] ∧ SqL K H l (ns.map V.int) ∧ ns.length ≤ 1000 ∧
    ∀ (p : Addr) (c : Nat), H p = none → c ≤ ns.length → Q (.ref p) (upd H p (SetO w p (fun j => decide (j ∈ ns)) c))
section
variable {X : Cx} (K : PySem.W.Frag) (w : World)
theorem cr_setL (hc : X.calm = true) (h : X.K = K := by rfl) (hw : X.w = w := by rfl) : CallR X (.type "set") (rSetL K w) := by
  subst h hw
  intro pins s σ H xs us Q I r h
  obtain ⟨l, ns, rfl, hq, hl, q⟩ := h
  obtain ⟨u, rfl, ru⟩ := vals1 r
  obtain rfl : u = Value.ref l := ru
  obtain ⟨its, rv, pt, hz⟩ := I.list hq
  refine call_setL ns (I.ok.hd hc) (show s.heap.IsList l its.toArray from pt.isList) (ints_of_vals rv) (by unfold scanBound; omega) fun h' tk c R1 hcn k => ?_
  exact ⟨.ref _, _, I.laid (t' := tk) k (Nat.le_refl _) (setO_new R1), rfl, q _ c (I.hok.fresh (Nat.le_refl _)) hcn⟩
end
end Ef
set_option maxHeartbeats 4000000
namespace Ef
open PySem PySem.Spec PyProof.Rows L2
open AutoSeq1 (wpAny_loadPart')
/-! ### list(reversed(range(..))) -/
section
variable {prog : Program} {w : World} {A : Around} {E : Value → Shared → Prop} {s : Shared} {I : Addr} {a c : Int} {n : Nat}
theorem hint_rit {x y z : Int} {Q : Value → Shared → Prop} (hi : IsRangeIter s.heap I x y z) (hb : 0 ≤ y ∧ y < 2 ^ 24)
    (h : ∀ u tk, s.toks ≤ tk → Q (.int y u) { s with toks := tk }) : wpAny (model prog w) A (call (.builtin "range_iterator.__length_hint__") [.ref I]) Q E s := by
  have hT : s.TypeIs (.ref I) "range_iterator" := ⟨_, hi, rfl⟩
  refine wpAny_call_entry F.slot_range_iterator_length_hint hT F.entry_range_iterator_length_hint ?_ (F.args_range_iterator_length_hint_1 _)
  obtain ⟨hp, g, d, tk, os⟩ := s
  wp_walk using wpAny_loadPart' hi
  exact ⟨_, rfl, h _ _ (Nat.le_succ _)⟩
theorem extend_rit {R : Result → Shared → Prop} (hh : A.handled = none) (hn : n < 2 ^ 24) (hit : IsRangeIter s.heap I (a + ((0 : Nat) : Int) * c) ((n : Int) - ((0 : Nat) : Int)) c) (S : Addr) (c₀ : Nat) (hSI : S ≠ I)
    (hS : s.heap.get? S = some { cls := .type "list", data := .seq #[] c₀ })
    (hR : ∀ h' tk acc' c', (∀ b o, b ≠ S → b ≠ I → s.heap.get? b = some o → h'.get? b = some o) → h'.get? S = some { cls := .type "list", dict := none, data := .seq acc' c', slots := #[] } →
      ItemsOf (fun i v => ∃ t, v = .int (a + i * c) t) acc' n → R (.ok (.ret .none)) { s with heap := h', toks := tk }) :
    wpAny (model prog w) A.in1 (Builtin.List.listExtendWith (.ref S) (.ref I) .none)
      (fun fin s' => match fin with | .done f => R (.ok f) s' | .again c' => c'.quiet = true ∧ codeAny (model prog w) A c' R s') (fun e s' => R (.error e) s') s := by
  have W := (Walks.range (prog := prog) (w := w) (A := A.in1) hh I a c n).toS
  have hSf : S ∉ [I] := fun hm => hSI (List.mem_singleton.mp hm)
  have hT : s.TypeIs (.ref I) "range_iterator" := ⟨_, hit, rfl⟩
  have z1 : Builtin.List.listSameRef (.ref S) (.ref I) = false := by simp [Builtin.List.listSameRef, hSI]
  unfold Builtin.List.listExtendWith
  refine wpAny_bind (wpAny_typeOf hT ?_)
  rw [if_neg (by rw [z1]; decide)]
  refine wpAny_bind (W.self 0 _ _ _ hit (wpAny_bind (wpAny_holding ?_)))
  unfold Builtin.List.listLengthHint
  refine wpAny_bind (wpAny_specialOf hT F.nolen_ra ?_)
  show wpAny _ A.in1 (specialOf (Value.ref I) (Str.ofString "__length_hint__") >>= _) _ _ _
  refine wpAny_bind (wpAny_specialOf hT F.hint_ra ?_)
  generalize hid : ("range_iterator.__length_hint__" : String) = id0
  wp_delta
  rw [show splitId id0 = some ("range_iterator", "__length_hint__") from by subst hid; decide +kernel]
  subst hid
  refine wpAny_bind (wpAny_isInstance (b := true) hT (by rw [isSubtype_type]; kernel_rfl) ?_)
  show wpAny _ A.in1 (call (.builtin "range_iterator.__length_hint__") [.ref I] >>= _) _ _ _
  have e0 : (n : Int) - ((0 : Nat) : Int) = (n : Int) := by omega
  refine wpAny_bind (hint_rit hit (by rw [e0]; omega) fun u tk htk => ?_)
  refine wpAny_bind (m := asInt? (.int _ u)) (wpAny_pure ?_)
  have z2 : Builtin.List.listTooLong (Int.toNat ((n : Int) - ((0 : Nat) : Int))) = false := by
    rw [e0]
    simp [Builtin.List.listTooLong, sizeLine]
    omega
  dsimp only
  rw [if_neg (by rw [z2]; decide)]
  refine wpAny_pure ?_
  rw [if_neg (by decide)]
  refine wpAny_pure ⟨plainId_quiet F.plain_extend_loop _, codeAny_extend_loopS W (by rw [sizeLine_eq]; omega) S hSf .none n 0 _ #[] c₀ rfl (Nat.zero_le _) hit hS (ItemsOf.nil _) fun s' acc' c' hm hS' hacc => ?_⟩
  rw [Moved.eq_with hm]
  refine hR s'.heap s'.toks acc' c' (fun b o hb hb2 e => hm.heap b o (fun hmem => ?_) e) hS' hacc
  rcases List.mem_cons.mp hmem with e' | hmem
  · exact hb e'
  · exact hb2 (List.mem_singleton.mp hmem)
theorem call_list_rit {Q : Value → Shared → Prop} (hh : A.handled = none) (hn : n < 2 ^ 24) (hit : IsRangeIter s.heap I (a + ((0 : Nat) : Int) * c) ((n : Int) - ((0 : Nat) : Int)) c)
    (hQ : ∀ h' tk acc' c', (∀ b o, b ≠ I → s.heap.get? b = some o → h'.get? b = some o) →
      h'.get? s.heap.objs.size = some { cls := .type "list", dict := none, data := .seq acc' c', slots := #[] } → ItemsOf (fun i v => ∃ t, v = .int (a + i * c) t) acc' n → Q (.ref s.heap.objs.size) { s with heap := h', toks := tk }) :
    wpAny (model prog w) A (call (.type "list") [.ref I]) Q E s := by
  have hIl : I < s.heap.objs.size := Heap.lt_size hit
  refine callType_codes (Q₁ := fun obj s₁ => obj = .ref s.heap.objs.size ∧ s₁ = { s with heap := s.heap.push { cls := .type "list", data := .seq #[] } }) F.called_list (F.typeCall_list_1 _) F.entry_list_init
    (code_list_new _ ⟨rfl, rfl⟩) fun obj s₁ h₁ => ?_
  obtain ⟨rfl, rfl⟩ := h₁
  have hS : (s.heap.push { cls := .type "list", data := .seq #[] }).get? s.heap.objs.size = some { cls := .type "list", data := .seq #[] } := Heap.get?_push_size _ rfl
  refine ⟨⟨_, hS, rfl⟩, F.args_list_init_2 _ _, ?_⟩
  show wpAny _ _ (do let old ← Builtin.List.listItems (.ref s.heap.objs.size); Builtin.List.listUpdate (.ref s.heap.objs.size) (fun _ => #[]); letGo old.toList.reverse; Builtin.List.listExtendWith (.ref s.heap.objs.size) (.ref I) .none) _ _ _
  refine wpAny_bind ?_
  unfold Builtin.List.listItems
  refine wpAny_bind (wpAny_seqItems hS rfl (wpAny_pure ?_))
  show wpAny _ _ (updateSeq s.heap.objs.size (fun _ => #[]) >>= fun _ => letGo (#[] : Array Value).toList.reverse >>= fun _ => Builtin.List.listExtendWith (.ref s.heap.objs.size) (.ref I) .none) _ _ _
  refine wpAny_bind (wpAny_updateSeq hS rfl ?_)
  have hS₂ := Heap.get?_update_self (Obj.mapSeq (fun _ => (#[] : Array Value))) hS rfl
  have oth : ∀ b o, b ≠ s.heap.objs.size → (s.heap.push { cls := .type "list", data := .seq #[] }).get? b = some o → ((s.heap.push { cls := .type "list", data := .seq #[] }).update s.heap.objs.size (Obj.mapSeq (fun _ => (#[] : Array Value)))).get? b = some o :=
    fun b o hb e => (Heap.get?_update_other _ _ (Ne.symm hb)).trans e
  refine wpAny_bind (wpAny_letGo ?_)
  refine extend_rit (A := A.in1) hh hn (oth I _ (Nat.ne_of_lt hIl) (Heap.get?_push_of_some _ hit)) s.heap.objs.size _ (Nat.ne_of_gt hIl) hS₂ fun h' tk acc' c' hk hS' hacc => ?_
  exact ⟨rfl, hQ h' tk acc' c' (fun b o hb e => hk b o (Nat.ne_of_lt (Heap.lt_size e)) hb (oth b o (Nat.ne_of_lt (Heap.lt_size e)) (Heap.get?_push_of_some _ e))) hS' hacc⟩
end
def tLstRev (te : L2.St → Hp → (Int → Int → Hp → Prop) → Prop) : TE := fun σ H Q => te σ H fun a b H1 => RgOk a b ∧ (b - a).toNat < 2 ^ 24 ∧ ∀ q, H1 q = none → Q (.ref q) (upd H1 q (.lst (rgV a b).reverse))
theorem rg_rev (a b : Int) : (rgV a b).reverse = (List.range (b - a).toNat).map fun i => V.int (a + (((b - a).toNat : Nat) : Int) - 1 + (i : Nat) * (-1)) := by
  unfold rgV
  refine List.ext_getElem (by simp) fun i h1 h2 => ?_
  rw [List.getElem_reverse, List.getElem_map, List.getElem_map, List.getElem_range, List.getElem_range, List.length_map, List.length_range]
  rw [List.length_map, List.length_range] at h2
  congr 1
  omega
theorem vals_of {f : Nat → Int} {acc : Array Value} {n : Nat} (h : ItemsOf (fun i v => ∃ t, v = .int (f i) t) acc n) : Vals ((List.range n).map fun i => V.int (f i)) acc.toList := by
  have e : acc.toList.length = n := by rw [Array.length_toList]; exact h.1
  rw [← e]
  refine vals_of_get acc.toList _ fun j u hj => ?_
  obtain ⟨t, rfl⟩ := h.2 j u (by rw [← hj, Array.getElem?_toList])
  exact ⟨t, rfl⟩
section
variable {X : Cx} {e : Expr} {te : L2.St → Hp → (Int → Int → Hp → Prop) → Prop}
theorem pe_listRev {p pos p2 pos2 : Pos} (hc : X.calm = true) (hg : Gl X "list") (hm : X.mg "list" = none) (hg2 : Gl X "reversed") (hm2 : X.mg "reversed" = none) (he : PRg X e te)
    (na : starEach [.Call (.Name "reversed" p2) [e] [] pos2] X.env = (false, eval (.Call (.Name "reversed" p2) [e] [] pos2) X.env) :: starEach [] X.env := by rfl) (nb : starEach [e] X.env = (false, eval e X.env) :: starEach [] X.env := by rfl) :
    PE X (.Call (.Name "list" p) [.Call (.Name "reversed" p2) [e] [] pos2] [] pos) (tLstRev te) := by
  refine ⟨fun pins s σ H Q I h => ?_⟩
  refine Call_ (ld_blt I hg hm boot_list (PyProof.Rows.callWith_type1 (args_cons (Call_ (ld_blt I hg2 hm2 PyProof.Rows.boot_reversed (PyProof.Rows.callWith_type1 (args_cons (thn (he pins s σ H _ I h) fun x s1 ⟨r, a, b, t, u, v, H1, ex, hr, I1, ok, hb, q⟩ => args_nil ?_) nb) nb rfl))) na) na))
  subst ex
  obtain ⟨b1, b2, b3, b4, b5⟩ := ok
  have hn : Builtin.Range.rangeSize a b 1 = (((b - a).toNat : Nat) : Int) := rangeSize_nat a b
  refine call_reversed_range hr (smallRev_one b1 b2 b3 b4) (args_nil ?_)
  have hit : IsRangeIter (s1.heap.push (rngRevObj a b 1)) s1.heap.objs.size (a + (((b - a).toNat : Nat) : Int) - 1 + ((0 : Nat) : Int) * (-1)) ((((b - a).toNat : Nat) : Int) - ((0 : Nat) : Int)) (-1) := by
    have e1 : a + (((b - a).toNat : Nat) : Int) - 1 + ((0 : Nat) : Int) * (-1) = a + (Builtin.Range.rangeSize a b 1 - 1) * 1 := by rw [hn]; omega
    have e2 : (((b - a).toNat : Nat) : Int) - ((0 : Nat) : Int) = Builtin.Range.rangeSize a b 1 := by rw [hn]; omega
    rw [e1, e2]
    exact Heap.get?_push_size _ rfl
  have hsz : (s1.heap.push (rngRevObj a b 1)).objs.size = s1.heap.objs.size + 1 := size_push' ..
  refine call_list_rit (I1.ok.hd hc) hb hit fun h' tk acc c' hk e' hi => ?_
  have kp : ∀ x o, s1.heap.get? x = some o → h'.get? x = some o := fun x o z => hk x o (Nat.ne_of_lt (Heap.lt_size z)) (Heap.get?_push_of_some _ z)
  have ei := rg_rev a b
  have hlen : ((rgV a b).reverse).length ≤ sizeLine := by
    rw [List.length_reverse, rgV_length, sizeLine_eq]
    omega
  show EP X pins σ Q (.ref (s1.heap.push (rngRevObj a b 1)).objs.size) _
  rw [hsz] at e' ⊢
  refine ⟨.ref (s1.heap.objs.size + 1), upd H1 (s1.heap.objs.size + 1) (.lst (rgV a b).reverse), I1.laid (t' := tk) kp (Nat.le_succ _) ⟨hlen, acc.toList, c', ?_, ?_⟩, rfl, q _ (I1.hok.fresh (Nat.le_succ _))⟩
  · rw [ei]
    exact vals_of hi
  · rw [Array.toArray_toList]
    exact e'
end
end Ef
set_option maxHeartbeats 4000000
namespace Ef
open PySem PySem.Spec PyProof.Rows L2
/-! ### list(range(i, j, c)) -/
def rgC (i c : Int) (n : Nat) : List V := (List.range n).map fun k => V.int (i + (k : Nat) * c)
def tLstRgC (ta : TA) : TE := fun σ H Q => ta σ H fun vs H1 => ∃ (i j c : Int) (n : Nat), vs = [.int i, .int j, .int c] ∧ RgC i j c n ∧ n ≤ 2 ^ 24 ∧ ∀ q, H1 q = none → Q (.ref q) (upd H1 q (.lst (rgC i c n)))
section
variable {X : Cx}
theorem pe_listRgC {a b c : Expr} {ta : TA} {p pos p2 pos2 : Pos} (hc : X.calm = true) (hg : Gl X "list") (hm : X.mg "list" = none) (hg2 : Gl X "range") (hm2 : X.mg "range" = none) (ha : PA X [a, b, c] ta)
    (n1 : starEach [a, b, c] X.env = (false, eval a X.env) :: starEach [b, c] X.env := by rfl) (n2 : (backTo pos2 (starEach [b, c] X.env)).any (·.1) = false := by rfl)
    (n3 : starEach [.Call (.Name "range" p2) [a, b, c] [] pos2] X.env = (false, eval (.Call (.Name "range" p2) [a, b, c] [] pos2) X.env) :: starEach [] X.env := by rfl) :
    PE X (.Call (.Name "list" p) [.Call (.Name "range" p2) [a, b, c] [] pos2] [] pos) (tLstRgC ta) := by
  refine ⟨fun pins s σ H Q I h => ?_⟩
  refine Call_ (ld_blt I hg hm boot_list (PyProof.Rows.callWith_type1 (args_cons (Call_ (ld_blt I hg2 hm2 boot_range ?_)) n3) n3))
  refine PyProof.Rows.callWith_type1 ?_ n1 n2
  refine thn (ha.run pos2 pins s σ H _ I h) ?_
  rintro us s1 ⟨vs, H1, I1, r1, q1⟩
  obtain ⟨i, j, k, n, ev, ⟨c0, c1, c2, c3⟩, hn, q⟩ := q1
  subst ev
  match us, r1 with
  | [_, _, _], .cons ⟨t1, e1⟩ (.cons ⟨t2, e2⟩ (.cons ⟨t3, e3⟩ .nil)) =>
    subst e1 e2 e3
    refine call_range_3 c0 (args_nil ?_) (.inl (PyProof.noPylong_small c1))
    have I2 : Inv X pins σ H1 { s1 with heap := s1.heap.push { cls := .type "range", data := .fields #[.int i t1, .int j t2, .int k t3] } } := I1.kept (t' := s1.toks) fun _ _ z => Heap.get?_push_of_some _ z
    refine call_list_range (n := n) (I2.ok.hd hc) (IsRange.new ..) c2 c3 hn fun h' tk acc c' hk e' hi => ?_
    refine ⟨.ref _, upd H1 _ (.lst (rgC i k n)), I2.laid hk (Nat.le_refl _) (show ObjOk X.prog X.w _ _ _ (.lst (rgC i k n)) from ⟨?_, acc.toList, c', vals_of hi, ?_⟩), rfl, q _ (I2.hok.fresh (Nat.le_refl _))⟩
    · unfold rgC
      rw [List.length_map, List.length_range, sizeLine_eq]
      omega
    · rw [Array.toArray_toList]
      exact e'
end
/-! ### list(reversed(xs)), xs a list -/
section
variable {prog : Program} {w : World} {A : Around} {E : Value → Shared → Prop} {s : Shared} {I l : Addr} {xs : Array Value}
theorem extend_rev {R : Result → Shared → Prop} (hh : A.handled = none) (hn : xs.size ≤ sizeLine) (hit : s.heap.IsRevIter I l ((xs.size : Int) - 1)) (hl : s.heap.IsList l xs) (hne : l ≠ I) (S : Addr) (c₀ : Nat) (hSI : S ≠ I) (hSl : S ≠ l)
    (hS : s.heap.get? S = some { cls := .type "list", data := .seq #[] c₀ })
    (hR : ∀ h' tk acc' c', (∀ b o, b ≠ S → b ≠ I → s.heap.get? b = some o → h'.get? b = some o) → h'.get? S = some { cls := .type "list", dict := none, data := .seq acc' c', slots := #[] } →
      ItemsOf (fun i v => xs[xs.size - 1 - i]? = some v) acc' xs.size → R (.ok (.ret .none)) { s with heap := h', toks := tk }) :
    wpAny (model prog w) A.in1 (Builtin.List.listExtendWith (.ref S) (.ref I) .none)
      (fun fin s' => match fin with | .done f => R (.ok f) s' | .again c' => c'.quiet = true ∧ codeAny (model prog w) A c' R s') (fun e s' => R (.error e) s') s := by
  have Wk := (Walks.listRev (prog := prog) (w := w) (A := A.in1) hh I l hne xs).toS
  have hSf : S ∉ [I, l] := by
    intro hm
    rcases List.mem_cons.mp hm with z | z
    · exact hSI z
    · exact hSl (List.mem_singleton.mp z)
  have hT : s.TypeIs (.ref I) "list_reverseiterator" := Heap.IsRevIter.typeIs hit
  have z1 : Builtin.List.listSameRef (.ref S) (.ref I) = false := by simp [Builtin.List.listSameRef, hSI]
  unfold Builtin.List.listExtendWith
  refine wpAny_bind (wpAny_typeOf hT ?_)
  rw [if_neg (by rw [z1]; decide)]
  refine wpAny_bind (wpAny_pyIter_revIter hit (wpAny_bind (wpAny_holding ?_)))
  unfold Builtin.List.listLengthHint
  refine wpAny_bind (wpAny_specialOf hT RT.nolen_lri ?_)
  show wpAny _ A.in1 (specialOf (Value.ref I) (Str.ofString "__length_hint__") >>= _) _ _ _
  refine wpAny_bind (wpAny_specialOf hT RT.hint_lri ?_)
  generalize hid : ("list_reverseiterator.__length_hint__" : String) = id1
  wp_delta
  rw [show splitId id1 = some ("list_reverseiterator", "__length_hint__") from by subst hid; decide +kernel]
  subst hid
  refine wpAny_bind (wpAny_isInstance (b := true) hT (by rw [isSubtype_type]; kernel_rfl) ?_)
  refine wpAny_pure ?_
  rw [if_neg (by decide)]
  have z0 : ((xs.size : Nat) : Int) - 1 - ((0 : Nat) : Int) = (xs.size : Int) - 1 := by omega
  refine wpAny_pure ⟨plainId_quiet F.plain_extend_loop _, codeAny_extend_loopS Wk hn S hSf .none xs.size 0 _ #[] c₀ rfl (Nat.zero_le _) ⟨Nat.zero_le _, by rw [z0]; exact hit, hl⟩ hS (ItemsOf.nil _) fun s' acc' c' hm hS' hacc => ?_⟩
  rw [Moved.eq_with hm]
  refine hR s'.heap s'.toks acc' c' (fun b o hb hb2 e => hm.heap b o (fun hmem => ?_) e) hS' hacc
  rcases List.mem_cons.mp hmem with z | hmem
  · exact hb z
  · exact hb2 (List.mem_singleton.mp hmem)
theorem call_list_rev {Q : Value → Shared → Prop} (hh : A.handled = none) (hn : xs.size ≤ sizeLine) (hit : s.heap.IsRevIter I l ((xs.size : Int) - 1)) (hl : s.heap.IsList l xs) (hne : l ≠ I)
    (hQ : ∀ h' tk acc' c', (∀ b o, b ≠ I → s.heap.get? b = some o → h'.get? b = some o) →
      h'.get? s.heap.objs.size = some { cls := .type "list", dict := none, data := .seq acc' c', slots := #[] } → ItemsOf (fun i v => xs[xs.size - 1 - i]? = some v) acc' xs.size → Q (.ref s.heap.objs.size) { s with heap := h', toks := tk }) :
    wpAny (model prog w) A (call (.type "list") [.ref I]) Q E s := by
  obtain ⟨oi, hoi, _⟩ := id hit
  obtain ⟨ol, hol, _⟩ := id hl
  have hIl := Heap.lt_size hoi
  have hll := Heap.lt_size hol
  refine callType_codes (Q₁ := fun obj s₁ => obj = .ref s.heap.objs.size ∧ s₁ = { s with heap := s.heap.push { cls := .type "list", data := .seq #[] } }) F.called_list (F.typeCall_list_1 _) F.entry_list_init
    (code_list_new _ ⟨rfl, rfl⟩) fun obj s₁ h₁ => ?_
  obtain ⟨rfl, rfl⟩ := h₁
  have hS : (s.heap.push { cls := .type "list", data := .seq #[] }).get? s.heap.objs.size = some { cls := .type "list", data := .seq #[] } := Heap.get?_push_size _ rfl
  refine ⟨⟨_, hS, rfl⟩, F.args_list_init_2 _ _, ?_⟩
  show wpAny _ _ (do let old ← Builtin.List.listItems (.ref s.heap.objs.size); Builtin.List.listUpdate (.ref s.heap.objs.size) (fun _ => #[]); letGo old.toList.reverse; Builtin.List.listExtendWith (.ref s.heap.objs.size) (.ref I) .none) _ _ _
  refine wpAny_bind ?_
  unfold Builtin.List.listItems
  refine wpAny_bind (wpAny_seqItems hS rfl (wpAny_pure ?_))
  show wpAny _ _ (updateSeq s.heap.objs.size (fun _ => #[]) >>= fun _ => letGo (#[] : Array Value).toList.reverse >>= fun _ => Builtin.List.listExtendWith (.ref s.heap.objs.size) (.ref I) .none) _ _ _
  refine wpAny_bind (wpAny_updateSeq hS rfl ?_)
  have hS₂ := Heap.get?_update_self (Obj.mapSeq (fun _ => (#[] : Array Value))) hS rfl
  have oth : ∀ b o, b ≠ s.heap.objs.size → (s.heap.push { cls := .type "list", data := .seq #[] }).get? b = some o → ((s.heap.push { cls := .type "list", data := .seq #[] }).update s.heap.objs.size (Obj.mapSeq (fun _ => (#[] : Array Value)))).get? b = some o :=
    fun b o hb e => (Heap.get?_update_other _ _ (Ne.symm hb)).trans e
  refine wpAny_bind (wpAny_letGo ?_)
  have kp : ∀ b o, s.heap.get? b = some o → ((s.heap.push { cls := .type "list", data := .seq #[] }).update s.heap.objs.size (Obj.mapSeq (fun _ => (#[] : Array Value)))).get? b = some o := fun b o e => oth b o (Nat.ne_of_lt (Heap.lt_size e)) (Heap.get?_push_of_some _ e)
  refine extend_rev (A := A.in1) hh hn (hit.at fun o e => kp _ o e) (hl.at fun o e => kp _ o e) hne s.heap.objs.size _ (Nat.ne_of_gt hIl) (Nat.ne_of_gt hll) hS₂ fun h' tk acc' c' hk hS' hacc => ?_
  exact ⟨rfl, hQ h' tk acc' c' (fun b o hb e => hk b o (Nat.ne_of_lt (Heap.lt_size e)) hb (kp b o e)) hS' hacc⟩
end
def tLstRevL (K : PySem.W.Frag) (te : TE) : TE := fun σ H Q => te σ H fun v H1 => ∃ (a : Addr) (xs : List V), v = .ref a ∧ SqL K H1 a xs ∧ ∀ q, H1 q = none → Q (.ref q) (upd H1 q (.lst xs.reverse))
section
variable {X : Cx}
theorem pe_listRevL {e : Expr} {te : TE} {p p2 pos pos2 : Pos} (hc : X.calm = true) (hg : Gl X "list") (hm : X.mg "list" = none) (hg2 : Gl X "reversed") (hm2 : X.mg "reversed" = none) (he : PE X e te)
    (hs : starEach [e] X.env = (false, eval e X.env) :: starEach [] X.env := by rfl)
    (hs2 : starEach [.Call (.Name "reversed" p2) [e] [] pos2] X.env = (false, eval (.Call (.Name "reversed" p2) [e] [] pos2) X.env) :: starEach [] X.env := by rfl) :
    PE X (.Call (.Name "list" p) [.Call (.Name "reversed" p2) [e] [] pos2] [] pos) (tLstRevL X.K te) := by
  refine ⟨fun pins s σ H Q I h => ?_⟩
  refine Call_ (ld_blt I hg hm boot_list (PyProof.Rows.callWith_type1 (args_cons (Call_ (ld_blt I hg2 hm2 PyProof.Rows.boot_reversed (PyProof.Rows.callWith_type1 (args_cons (thn (he.run pins s σ H _ I h) fun u s1 ⟨v, H1, I1, r1, q1⟩ => args_nil ?_) hs) hs rfl))) hs2) hs2 rfl))
  obtain ⟨a, xs, ev, hq, q⟩ := q1
  subst ev
  obtain rfl : u = Value.ref a := r1
  obtain ⟨its, rv, pl, hz⟩ := I1.list hq
  refine call_reversed_list pl.isList (args_nil ?_)
  have I2 : Inv X pins σ H1 { s1 with heap := s1.heap.push (revObj a ((its.toArray.size : Int) - 1)) } := I1.kept (t' := s1.toks) fun b o z => Heap.get?_push_of_some _ z
  obtain ⟨f0, f1, f2, f3, f4, f5⟩ := I1.fpOk (H' := H1) (b := s1.heap.objs.size) (Nat.le_refl _) (I1.hok.fresh (Nat.le_refl _))
  have hl := pl.isList
  obtain ⟨ol, hol, _⟩ := id hl
  have hsz : (s1.heap.push (revObj a ((its.toArray.size : Int) - 1))).objs.size = s1.heap.objs.size + 1 := size_push' ..
  refine call_list_rev (s := { s1 with heap := s1.heap.push (revObj a ((its.toArray.size : Int) - 1)) }) (I1.ok.hd hc) (by rw [List.size_toArray, ← rv.length]; exact hz) ⟨_, Heap.get?_push_size _ rfl, rfl, rfl⟩ (hl.push _) (Nat.ne_of_lt (Heap.lt_size hol)) fun h' tk acc c' hk e' hi => ?_
  have I3 : Inv X pins σ H1 { s1 with heap := h', toks := tk } := I2.turned (t' := tk) (fun b o hb z => hk b o hb z) f0 f1 f3 f4 f5
  have kp : ∀ b o, s1.heap.get? b = some o → h'.get? b = some o := fun b o z => hk b o (Nat.ne_of_lt (Heap.lt_size z)) (Heap.get?_push_of_some _ z)
  show EP X pins σ Q (.ref (s1.heap.push (revObj a ((its.toArray.size : Int) - 1))).objs.size) _
  rw [hsz]
  have e2 : h'.get? (s1.heap.objs.size + 1) = some { cls := .type "list", dict := none, data := .seq acc c', slots := #[] } := by
    rw [← hsz]
    exact e'
  refine ⟨.ref (s1.heap.objs.size + 1), upd H1 (s1.heap.objs.size + 1) (.lst xs.reverse), I1.laid (t' := tk) kp (Nat.le_succ _) ⟨by rw [List.length_reverse]; exact hz, acc.toList, c', RT.vals_rev rv hi, ?_⟩, rfl, q _ (I1.hok.fresh (Nat.le_succ _))⟩
  rw [Array.toArray_toList]
  exact e2
end
end Ef
namespace Ef
open PySem PySem.Spec PyProof.Rows L2
/-! ### repr of a list of one value of any sort -/
section
variable {X : Cx} {es : List Expr} {t : TA} {pos : Pos}
def tLstN (t : TA) : TE := fun σ H Q => t σ H fun xs H1 => xs.length ≤ sizeLine ∧ ∀ p, H1 p = none → p ≠ sysModules → Q (.ref p) (upd H1 p (.lst xs))
theorem far_new {pins : List (Addr × Obj)} {σ : L2.St} {H : Hp} {s : Shared} (I : Inv X pins σ H s) : s.heap.objs.size ≠ sysModules := by
  obtain ⟨mc, h1, _⟩ := I.nolimit
  have h2 : cStatics < s.heap.objs.size := h1.lt
  have h3 : (2 : Nat) < s.heap.objs.size := h2
  show ¬ s.heap.objs.size = 1
  omega
theorem pe_lstN (h : PA X es t) : PE X (.List es pos) (tLstN t) := by
  refine ⟨fun pins s σ H Q I hq => ?_⟩
  refine wpAny_List_spliced (thn (h.run pos pins s σ H _ I hq) fun us s1 ⟨xs, H1, I1, r, z, q⟩ => ⟨by rw [← r.length]; exact z, ?_⟩)
  have hf : H1 s1.heap.objs.size = none := I1.hok.fresh (Nat.le_refl _)
  refine ⟨.ref s1.heap.objs.size, upd H1 s1.heap.objs.size (.lst xs), I1.laid (t' := s1.toks) (fun b u e => Heap.get?_push_of_some _ e) (Nat.le_refl _) ?_, rfl, q _ hf (far_new I1)⟩
  exact ⟨z, us, 0, r, Heap.get?_push_size _ rfl⟩
end
/-- data that is not deep, or an empty dict -/
def ItemS (K : PySem.W.Frag) (H : Hp) (v : V) (d : PyData) : Prop := (Dp K H v d ∧ Sh 50 70000 d) ∨ (d = .dict [] ∧ ∃ p, v = .ref p ∧ H p = some (.dK []))
theorem ItemS.mono {K : PySem.W.Frag} {H H' : Hp} {v : V} {d : PyData} (s : Same H H') (h : ItemS K H v d) : ItemS K H' v d := by
  rcases h with ⟨h, h2⟩ | ⟨e, p, e2, h⟩
  · exact .inl ⟨Dp.mono s h, h2⟩
  · exact .inr ⟨e, p, e2, s _ _ h⟩
def rReprL (K : PySem.W.Frag) : List V → Hp → VK → Prop := fun xs H Q => ∃ l v d, xs = [.ref l] ∧ H l = some (.lst [v]) ∧ l ≠ sysModules ∧ ItemS K H v d ∧ Q (.str (PyData.list [d]).shown) H
section
variable {X : Cx} (K : PySem.W.Frag)
theorem call_reprL (gd : X.A.guards = some []) (hu : X.A.units + 66 < cLine) (h : X.K = K := by rfl) : CallR X (.builtin "repr") (rReprL K) := by
  subst h
  intro pins s σ H xs us Q I r h
  obtain ⟨l, v, d, rfl, hl, hne, hI, q⟩ := h
  rcases hI with ⟨hD, hS⟩ | ⟨rfl, p, rfl, hp⟩
  · refine call_reprD gd hu pins s σ H _ us Q I r ⟨.ref l, .list [d], rfl, .lst (SqL.of hl) (.cons hD .nil), ?_, q⟩
    exact (Sh.lst (ShAll.cons hS (ShAll.nil.mono (Nat.zero_le 50) (Nat.zero_le 0)))).mono (by decide) (by decide)
  · obtain ⟨u, rfl, ru⟩ := vals1 r
    obtain rfl : u = Value.ref l := ru
    obtain ⟨_, hsys, vs, kv, o, es, ep, ho, hx, hd, hk, hpr, hn⟩ := dk_of I.hok hp
    have e1 : vs = [] := by
      cases kv
      rfl
    subst e1
    have e2 : es.toList = [] := by
      generalize es.toList = l at hpr ⊢
      cases hpr
      rfl
    have rd : Reads s.heap (.ref p) (.dict []) (p :: [] ++ []) := by
      refine .dict ho hx.1 hd ?_ ?_
      · rw [e2]
        exact .nil
      · rw [e2]
        exact .nil
    obtain ⟨its, rv, ⟨ol, nl, g1, g2, g3, g4⟩, hz⟩ := I.list (SqL.of hl)
    obtain ⟨u, rfl, ru⟩ := vals1 rv
    obtain rfl : u = Value.ref p := ru
    have dep : PyData.depth (.list [.dict []]) ≤ 3 := by decide
    have rdl : Reads s.heap (.ref l) (.list [.dict []]) (l :: ((p :: [] ++ []) ++ [])) := .list g1 g2 (by first | exact g3 | exact g4) (.cons rd .nil)
    refine repr_of_reads' rdl rfl (fun _ hm => ?_) gd (by omega) (fun _ _ e => e) (fun h' u tk hk => ?_) (by decide +kernel)
    · have e3 : sysModules = l ∨ sysModules = p := by simpa using hm
      rcases e3 with e3 | e3
      · exact hne e3.symm
      · rw [← e3] at hsys
        exact absurd hsys (by simp)
    · exact ⟨.str _, H, I.kept hk, ⟨u, rfl⟩, q⟩
end
section
variable {X : Cx} (K : PySem.W.Frag)
theorem cr_allK (hc : X.calm = true := by rfl) (h : X.K = K := by rfl) : CallR X (.builtin "all") (rAll K) := h ▸ cr_all hc
end
end Ef
namespace Ef
open PySem PySem.Spec PyProof.Rows L2
/-! ### data: equal to itself, shown -/
theorem neD_same {K : PySem.W.Frag} {H : Hp} {x y : V} {d : PyData} {Q : VK} (hx : Dp K H x d) (hy : Dp K H y d) (s : Sh 60 80000 d) (q : Q (.bl false) H) : rNeD K x y H Q := by
  refine ⟨d, d, hx, hy, s.shaped (by decide), s.shaped (by decide), ?_⟩
  rw [SeqAt.eqv_refl d s.can]
  exact q
theorem eqD_same {K : PySem.W.Frag} {H : Hp} {x y : V} {d : PyData} {Q : VK} (hx : Dp K H x d) (hy : Dp K H y d) (s : Sh 60 80000 d) (q : Q (.bl true) H) : rEqD K x y H Q := by
  refine ⟨d, d, hx, hy, s.shaped (by decide), s.shaped (by decide), ?_⟩
  rw [SeqAt.eqv_refl d s.can]
  exact q
/-- numbers as data -/
def natD (ms : List Nat) : List PyData := ms.map fun (m : Nat) => PyData.int (m : Int)
theorem sh_nat {ms : List Nat} {b : Nat} (h0 : 0 < b) (h6 : b ≤ 600) (h : ∀ x ∈ ms, x < 2 ^ b) : ShAll 0 ((b + 1) * ms.length) (natD ms) := by
  have e : natD ms = (ms.map fun (m : Nat) => (m : Int)).map PyData.int := by
    unfold natD
    rw [List.map_map]
    rfl
  rw [e]
  have h1 := ShAll.ints h0 h6 (ns := ms.map fun (m : Nat) => (m : Int)) fun x hx => by
    obtain ⟨m, hm, rfl⟩ := List.mem_map.mp hx
    exact h m hm
  rw [List.length_map] at h1
  exact h1
theorem sh_list {ms : List Nat} (hl : ms.length ≤ 60) (h : ∀ x ∈ ms, x < 60) : Sh 1 500 (.tuple (natD ms)) := by
  have h1 := sh_nat (b := 6) (by decide) (by decide) (ms := ms) fun x hx => by
    have := h x hx
    omega
  exact Sh.tup (h1.mono (by decide) (by omega))
end Ef
set_option maxHeartbeats 4000000
namespace Ef
open PySem PySem.Spec PyProof.Rows L2
/-! ### x in l, l.index(x), l.count(x) where items are data -/
def rCntD (K : PySem.W.Frag) : V → List V → Hp → VK → Prop := fun x xs H Q => ∃ (a : Addr) (y : V) (d : PyData) (ds : List PyData), x = V.ref a ∧ xs = [y] ∧ Dp K H (V.ref a) (.list ds) ∧ Dp K H y d ∧
  SeqAt.shaped (.list ds) = true ∧ SeqAt.shaped d = true ∧ Q (.int (ds.countP (fun z => PyData.eqv z d) : Nat)) H
theorem mt_countD {X : Cx} (hu : X.A.units + 65 < cLine) : MtR X "list.count" (rCntD X.K) := by
  intro pins s σ H x xs v us Q I rx rxs h
  obtain ⟨a, y, d, ds, rfl, rfl, hl, hy, sl, sd, q⟩ := h
  cases rx
  cases rxs with
  | cons ry rt =>
    rename_i uy ut
    cases rt
    obtain ⟨bs, r1⟩ := Dp.reads I d y uy hy ry
    have hxs : PyData.canLayAll0 ds = true := SeqAt.canLay_of_shaped sl
    have hroom : X.A.units + 1 + min (PyData.depthAll ds) d.depth < cLine := room_in_shaped sd hu
    cases hl with
    | lst hs ha =>
      obtain ⟨its, rv, ⟨⟨cls, dd, data, sls⟩, n, ho, hc, hdn, hdt⟩, hlen⟩ := I.list hs
      simp only at hc hdt
      subst hc hdt
      obtain ⟨as, h4⟩ := Dp.readsAll I ds _ its ha rv
      have hmap : its.map (SeqAt.readOf s.heap) = ds := SeqAt.readsAll_map ds its as hxs h4
      refine call_meets PySem.F.slot_list_count ⟨_, ho, rfl⟩ PySem.F.entry_list_count (PySem.F.args_list_count_2 _ _)
        (SeqAt.list_countAt a its.toArray n dd sls uy (fun u => PyData.eqv (SeqAt.readOf s.heap u) d)) ⟨ho, SeqAt.items_eqAt (vs := its.toArray) (show ReadsAll s.heap its.toArray.toList ds as from h4) r1 hxs (SeqAt.canLay_of_shaped sd) hroom, ?_⟩
      refine ⟨.int (ds.countP (fun z => PyData.eqv z d) : Nat), H, I.tok _, ⟨s.toks, ?_⟩, q⟩
      show Value.int ((its.toArray.toList.countP (fun u => PyData.eqv (SeqAt.readOf s.heap u) d) : Nat) : Int) s.toks = _
      rw [← hmap, List.countP_map]
      rfl
theorem op_inDK {X : Cx} (K : PySem.W.Frag) (hu : X.A.units + 65 < cLine) (h : X.K = K := by rfl) : OpR X (compareOp .In) (rInD K) := h ▸ op_inD hu
theorem op_notInDK {X : Cx} (K : PySem.W.Frag) (hu : X.A.units + 65 < cLine) (h : X.K = K := by rfl) : OpR X (compareOp .NotIn) (rNotInD K) := h ▸ op_notInD hu
theorem mt_indexDK {X : Cx} (K : PySem.W.Frag) (hu : X.A.units + 65 < cLine) (h : X.K = K := by rfl) : MtR X "list.index" (rIndexD K) := h ▸ mt_indexD hu
theorem mt_countDK {X : Cx} (K : PySem.W.Frag) (hu : X.A.units + 65 < cLine) (h : X.K = K := by rfl) : MtR X "list.count" (rCntD K) := h ▸ mt_countD hu
/-- two lists of numbers, as data -/
theorem eqv_nats : ∀ (a b : List Nat), PyData.eqvAll (natD a) (natD b) = decide (a = b)
  | [], [] => by simp [natD, PyData.eqvAll]
  | [], b :: s => by simp [natD, PyData.eqvAll]
  | a :: r, [] => by simp [natD, PyData.eqvAll]
  | a :: r, b :: s => by
    have ih := eqv_nats r s
    have e : PyData.eqvAll (natD (a :: r)) (natD (b :: s)) = (((a : Int) == (b : Int)) && PyData.eqvAll (natD r) (natD s)) := by
      show PyData.eqvAll (PyData.int (a : Int) :: natD r) (PyData.int (b : Int) :: natD s) = _
      simp only [PyData.eqvAll, PyData.eqv]
    rw [e, ih]
    by_cases h1 : a = b
    · subst h1
      by_cases h2 : r = s
      · subst h2
        simp
      · simp [h2]
    · have h3 : ((a : Int) == (b : Int)) = false := beq_eq_false_iff_ne.mpr fun z => h1 (by omega)
      rw [h3]
      simp [h1]
theorem eqv_natT (a b : List Nat) : PyData.eqv (.tuple (natD a)) (.tuple (natD b)) = decide (a = b) := by
  simp only [PyData.eqv]
  exact eqv_nats a b
end Ef
set_option maxHeartbeats 4000000
namespace Ef
open PySem PySem.Spec PyProof.Rows L2
open PySem.W (dataLe AllAlike Sortable EachIs sorted_data sortLe_total TotalLe dataLt dataLt_tuple dataLt_ints)
/-! ### sorted of a list of data, any number of them -/
abbrev dLe : V × PyData → V × PyData → Bool := dataLe false (fun b : V × PyData => b.2)
def rSortD (K : PySem.W.Frag) : List V → Hp → VK → Prop := fun vs H Q => ∃ (a : Addr) (bs : List (V × PyData)), vs = [V.ref a] ∧ SqL K H a (bs.map (·.1)) ∧ (∀ b ∈ bs, Dp K H b.1 b.2) ∧ AllAlike (bs.map (·.2)) ∧ Sortable (bs.map (·.2)) ∧ (∀ b ∈ bs, b.2.depth ≤ 20) ∧
  ∀ p : Addr, H p = none → Q (.ref p) (upd H p (.lst ((bs.mergeSort dLe).map (·.1))))
theorem each_vals : ∀ {bs : List (V × PyData)} {us : List Value}, Vals (bs.map (·.1)) us → EachIs (fun u (b : V × PyData) => RelV b.1 u) us bs
  | [], _, .nil => .nil
  | _ :: _, _, .cons r t => .cons r (each_vals t)
theorem vals_each : ∀ {bs : List (V × PyData)} {us : List Value}, EachIs (fun u (b : V × PyData) => RelV b.1 u) us bs → Vals (bs.map (·.1)) us
  | [], _, .nil => .nil
  | _ :: _, _, .cons r t => .cons r (vals_each t)
section
variable {X : Cx} {K : PySem.W.Frag}
theorem each_reads {pins : List (Addr × Obj)} {σ : L2.St} {H : Hp} {s : Shared} (I : Inv X pins σ H s) : ∀ {bs : List (V × PyData)} {us : List Value}, (∀ b ∈ bs, Dp X.K H b.1 b.2) → EachIs (fun u (b : V × PyData) => RelV b.1 u) us bs → EachIs (fun u (b : V × PyData) => ∃ as, Reads s.heap u b.2 as) us bs
  | [], _, _, .nil => .nil
  | b :: _, _, h, .cons r t => .cons (Dp.reads I b.2 b.1 _ (h b List.mem_cons_self) r) (each_reads I (fun c hc => h c (List.mem_cons_of_mem _ hc)) t)
theorem cr_sortD (hu : X.A.units + 64 < cLine) (h : X.K = K := by rfl) : CallR X (.builtin "sorted") (rSortD K) := by
  subst h
  intro pins s σ H vs us Q I r hq
  obtain ⟨a, bs, rfl, hs, hd, hal, hk, hdp, q⟩ := hq
  obtain ⟨its, rv, hl, hz⟩ := I.list hs
  obtain ⟨u, rfl, ru⟩ := vals1 r
  obtain rfl : u = Value.ref a := ru
  have ee := each_vals rv
  have hz2 : bs.length ≤ sizeLine := by
    rw [List.length_map] at hz
    exact hz
  refine sorted_data (β := V × PyData) (bs := bs) (enc := fun b : V × PyData => b.2) (R := fun u (b : V × PyData) => RelV b.1 u) hl.isList ee (each_reads I hd ee) hal hk hz2 (fun b hb => by have := hdp b hb; omega) fun out hlen eo => ?_
  obtain ⟨n, hn⟩ := sortedAll_at s.heap its out.toArray
  refine ⟨.ref _, upd H (s.heap.objs.size + 1) (.lst ((bs.mergeSort dLe).map (·.1))), I.laid (t' := s.toks) (fun _ _ z => sortedAll_old z) (Nat.le_succ _) ⟨?_, out, n, vals_each eo, ?_⟩, rfl, q _ (I.hok.fresh (Nat.le_succ _))⟩
  · rw [List.length_map, List.length_mergeSort]
    exact hz2
  · simpa using hn
end
theorem sl_listK {X : Cx} {K : PySem.W.Frag} (h : X.K = K := by rfl) : SlR X (rSlL K) := h ▸ sl_list
def rDictP (K : PySem.W.Frag) : List V → Hp → VK → Prop := fun xs H Q => ∃ (a : Addr) (ps : List Addr) (kvs : List (Key × V)), xs = [.ref a] ∧ SqL K H a (ps.map V.ref) ∧ Paired (fun p kv => SqT K H p [kV kv.1, kv.2]) ps kvs ∧ ∀ p, H p = none → Q (.ref p) (upd H p (.dK (mergeK [] kvs)))
theorem call_dictPK {X : Cx} {K : PySem.W.Frag} (hc : X.calm = true) (h : X.K = K := by rfl) : CallR X (.type "dict") (rDictP K) := by
  subst h
  exact call_dictP hc
/-! the order -/
theorem dLe_ord : TotalLe dLe := sortLe_total _ false _
theorem dLe_trans (a b c : V × PyData) (h1 : dLe a b = true) (h2 : dLe b c = true) : dLe a c = true := dLe_ord.trans a b c h1 h2
theorem dLe_total (a b : V × PyData) : (dLe a b || dLe b a) = true := (Bool.or_eq_true _ _).mpr (dLe_ord.total a b)
theorem dsort_perm (bs : List (V × PyData)) : (bs.mergeSort dLe).Perm bs := List.mergeSort_perm bs dLe
theorem dsort_asc (bs : List (V × PyData)) : (bs.mergeSort dLe).Pairwise fun a b => dLe a b = true := List.pairwise_mergeSort dLe_trans dLe_total bs
theorem dsort_id {bs : List (V × PyData)} (h : bs.Pairwise fun a b => dLe a b = true) : bs.mergeSort dLe = bs := List.mergeSort_of_pairwise h
theorem dLe_lt (a b : V × PyData) : dLe a b = !dataLt b.2 a.2 := rfl
theorem dLe_ints {u v : V} {xs ys : List Int} : dLe (u, .tuple (xs.map .int)) (v, .tuple (ys.map .int)) = !decide (ys < xs) := by
  rw [dLe_lt]
  show (!dataLt (.tuple (ys.map .int)) (.tuple (xs.map .int))) = _
  rw [dataLt_tuple]
  exact congrArg (!·) (dataLt_ints ys xs)
end Ef
set_option maxHeartbeats 4000000
namespace Ef
open PySem PySem.Spec PyProof.Rows L2
/-! ### sorted of a list of data, or of one thing alone -/
def rSortDs (K : PySem.W.Frag) : List V → Hp → VK → Prop := fun vs H Q => rSortD K vs H Q ∨
  ∃ (a : Addr) (xs : List V), vs = [V.ref a] ∧ SqL K H a xs ∧ xs.length < 2 ∧ (∀ x ∈ xs, ∃ t, x = .ref t) ∧ ∀ p, H p = none → Q (.ref p) (upd H p (.lst xs))
theorem cr_sortDs {X : Cx} (K : PySem.W.Frag) (hu : X.A.units + 64 < cLine) (h : X.K = K := by rfl) : CallR X (.builtin "sorted") (rSortDs K) := by
  subst h
  intro pins s σ H vs us Q I r h
  rcases h with h | h
  · exact cr_sortD hu rfl pins s σ H vs us Q I r h
  · exact cr_sortA (B := 0) pins s σ H vs us Q I r (.inr h)
end Ef
namespace Ef
open PySem PySem.Spec PyProof.Rows L2
/-! ### a comprehension within a comprehension -/
theorem lookup_map (c : Str → NameKind → Bool) (x : Str) : ∀ names : List (Str × NameKind), (names.lookup x = some .cell ∨ names.lookup x = some .free) → ((names.map fun (n, k) => if c n k = true then (n, NameKind.cell) else (n, k)).lookup x = some .cell ∨ (names.map fun (n, k) => if c n k = true then (n, NameKind.cell) else (n, k)).lookup x = some .free)
  | [], h => by simp at h
  | (n, k) :: r, h => by
    rw [List.map_cons]
    by_cases e : x == n
    · rw [List.lookup_cons, e] at h
      by_cases cc : c n k = true
      · simp only [cc, if_true]
        rw [List.lookup_cons, e]
        exact .inl rfl
      · simp only [cc, Bool.false_eq_true, if_false]
        rw [List.lookup_cons, e]
        exact h
    · have e2 : (x == n) = false := by simpa using e
      rw [List.lookup_cons, e2] at h
      have ih := lookup_map c x r h
      by_cases cc : c n k = true
      · simp only [cc, if_true]
        rw [List.lookup_cons, e2]
        exact ih
      · simp only [cc, Bool.false_eq_true, if_false]
        rw [List.lookup_cons, e2]
        exact ih
theorem blkOk_in {N : List Str} {sc scope : Scope} {own : List (Str × Nat)} {env : Env} (h : BlkOk N sc scope own) : BlkOk N (relabel sc env) scope own :=
  ⟨h.kind, h.uniq, h.ix, fun y hy e => lookup_map (fun n k => k == NameKind.free && env.scope.kind == .function && env.kindOf n == some .cell) y.1 sc.names (h.free y hy e), h.own⟩
end Ef
set_option maxHeartbeats 4000000
namespace Ef
open PySem PySem.Spec PyProof.Rows L2
/-! ### set(t) of a tuple of ints with its size, len(s) of a set -/
/-- c is the number of different ones among ns -/
def Diff (ns : List Int) (c : Nat) : Prop := ∃ ks : List Int, ks.Nodup ∧ (∀ k, k ∈ ks ↔ k ∈ ns) ∧ ks.length = c
theorem Diff.nodup {ns : List Int} {c : Nat} (h : Diff ns c) (hn : ns.Nodup) : c = ns.length := by
  obtain ⟨ks, h1, h2, rfl⟩ := h
  exact ((List.perm_ext_iff_of_nodup h1 hn).mpr h2).length_eq
theorem sub_len : ∀ {ks ns : List Int}, ks.Nodup → (∀ k ∈ ks, k ∈ ns) → ks.length ≤ ns.length
  | [], _, _, _ => Nat.zero_le _
  | k :: r, ns, h, hs => by
    have hk := hs k List.mem_cons_self
    have h1 := sub_len (ks := r) (ns := ns.erase k) (List.nodup_cons.mp h).2 fun x hx => (List.mem_erase_of_ne (fun e : x = k => (List.nodup_cons.mp h).1 (e ▸ hx))).mpr (hs x (List.mem_cons_of_mem _ hx))
    have h2 := List.length_erase_of_mem hk
    have h3 := List.length_pos_of_mem hk
    show r.length + 1 ≤ ns.length
    omega
theorem sub_perm : ∀ {ks ns : List Int}, ks.Nodup → (∀ k ∈ ks, k ∈ ns) → ns.length ≤ ks.length → ks.Perm ns
  | [], ns, _, _, h => by
    have : ns = [] := List.length_eq_zero_iff.mp (Nat.le_zero.mp h)
    rw [this]
  | k :: r, ns, h, hs, hl => by
    have hk := hs k List.mem_cons_self
    have h2 := List.length_erase_of_mem hk
    have hl2 : ns.length ≤ r.length + 1 := hl
    have h1 := sub_perm (ks := r) (ns := ns.erase k) (List.nodup_cons.mp h).2 (fun x hx => (List.mem_erase_of_ne (fun e : x = k => (List.nodup_cons.mp h).1 (e ▸ hx))).mpr (hs x (List.mem_cons_of_mem _ hx))) (by omega)
    exact (h1.cons k).trans (List.perm_cons_erase hk).symm
theorem Diff.le {ns : List Int} {c : Nat} (h : Diff ns c) : c ≤ ns.length := by
  obtain ⟨ks, h1, h2, rfl⟩ := h
  exact sub_len h1 fun k hk => (h2 k).mp hk
theorem Diff.not {ns : List Int} {c : Nat} (h : Diff ns c) (hn : ¬ ns.Nodup) : c ≠ ns.length := by
  intro e
  obtain ⟨ks, h1, h2, rfl⟩ := h
  have p : ks.Perm ns := sub_perm h1 (fun k hk => (h2 k).mp hk) (by omega)
  exact hn (p.nodup_iff.mp h1)
section
variable {X : Cx} {K : PySem.W.Frag} {w : World}
theorem setR_diff {h : Heap} {a : Addr} {ns : List Int} {c : Nat} (R : SetR w h a (fun j => decide (j ∈ ns)) c) : Diff ns c := by
  obtain ⟨o, es, ep, t, _, _, _, _, nd, mem, _, _, sz, _⟩ := R
  refine ⟨es.toList.map keyOf, nd, fun k => ?_, ?_⟩
  · rw [← mem k]
    exact decide_eq_true_iff
  · rw [List.length_map, Array.length_toList]
    exact sz
def rSetTn (K : PySem.W.Frag) (w : World) : List V → Hp → VK → Prop := fun xs H Q => ∃ (l : Addr) (ns : List Int), xs = [.ref l] ∧ (SqT K H l (ns.map V.int)) ∧ ns.length ≤ 1000 ∧
    ∀ (p : Addr) (c : Nat), H p = none → Diff ns c → Q (.ref p) (upd H p (SetO w p (fun j => decide (j ∈ ns)) c))
theorem cr_setTn (hc : X.calm = true) (h : X.K = K := by rfl) (hw : X.w = w := by rfl) : CallR X (.type "set") (rSetTn K w) := by
  subst h hw
  intro pins s σ H xs us Q I r h
  obtain ⟨l, ns, rfl, hq, hl, q⟩ := h
  obtain ⟨u, rfl, ru⟩ := vals1 r
  obtain rfl : u = Value.ref l := ru
  obtain ⟨its, rv, pt, hz⟩ := I.tuple hq
  refine call_set_tupI ns (I.ok.hd hc) (show s.heap.IsTuple l its.toArray from pt) (ints_of_vals rv) (by unfold scanBound; omega) fun h' tk c R1 hcn k => ?_
  exact ⟨.ref _, _, I.laid (t' := tk) k (Nat.le_refl _) (setO_new R1), rfl, q _ c (I.hok.fresh (Nat.le_refl _)) (setR_diff R1)⟩
def rLenSet (w : World) : List V → Hp → VK → Prop := fun xs H Q => ∃ (p : Addr) (S : Int → Bool) (c : Nat), xs = [.ref p] ∧ H p = some (SetO w p S c) ∧ Q (.int (c : Int)) H
theorem call_lenSet (hw : X.w = w := by rfl) : CallR X (.builtin "len") (rLenSet w) := by
  subst hw
  intro pins s σ H xs us Q I r h
  obtain ⟨p, S, c, rfl, hp, q⟩ := h
  obtain ⟨u, rfl, ru⟩ := vals1 r
  obtain rfl : u = Value.ref p := ru
  obtain ⟨o, es, ep, t, ho, hex, hd, _, _, _, sb, hf, hn, _⟩ := setO_get I hp
  have b : (es.size : Int) < 2 ^ 63 := by
    have : scanBound ≤ 2 ^ 62 := by unfold scanBound; decide
    omega
  exact call_len_set ho hex hd hf b ⟨.int c, H, I.tok _, ⟨_, by rw [hn]⟩, q⟩
end
end Ef
set_option maxHeartbeats 4000000
namespace Ef
open PySem PySem.Spec PyProof.Rows L2
/-! ### a list or a tuple walked through; len(set(xs)) of a list -/
def iEither (K : PySem.W.Frag) (tl : TE) : TI := fun σ H R => iList K tl σ H R ∨ iTup K tl σ H R
theorem pi_either {X : Cx} (K : PySem.W.Frag) {tg l : Expr} {tl : TE} (hl : PE X l tl) (h : X.K = K := by rfl) : PI X tg l (iEither K tl) := by
  subst h
  exact ⟨fun pins s σ H R I h => h.elim ((pi_list hl).run pins s σ H R I) ((pi_tup hl).run pins s σ H R I)⟩
theorem for_either {K : PySem.W.Frag} {a : Addr} {xs : List V} {g : TG} {tb : TS} {D : Ends} {σ : L2.St} {H : Hp} {i : Nat} (hv : σ[i]? = some (some (.ref a))) (hA : SqL K H a xs ∨ SqT K H a xs) (Pv : Nat → L2.St → Hp → Prop) (h0 : Pv 0 σ H) (hl : ∀ i σ H', Pv i σ H' → Same H H')
    (hs : ∀ i x σ H, xs[i]? = some x → Pv i σ H → g x σ H fun σ2 H2 => tb { D with nx := Pv (i + 1), ct := Pv (i + 1), bk := D.nx } σ2 H2) (hd : ∀ σ H, Pv xs.length σ H → D.nx σ H) : tFor (iEither K (tVar i)) g tb D σ H := by
  rcases hA with hA | hA
  · exact .inl ⟨.ref a, hv, a, rfl, ⟨_, hA⟩, for_list Pv h0 (fun i σ H' _ p => (hl i σ H' p).seq hA) hs hd⟩
  · exact .inr ⟨.ref a, hv, a, rfl, ⟨_, hA⟩, for_tup Pv h0 (fun i σ H' _ p => Same.seqT (hl i σ H' p) hA) hs hd⟩
/-- a method of a list, in a comprehension -/
theorem pe_bmK {X : Cx} (K : PySem.W.Frag) {T : String} {name : Str} {id : String} {r : V → List V → Hp → VK → Prop} {o e : Expr} {es : List Expr} {to : TE} {t : TA} {apos cpos : Pos} (pa : PlainAttrs T) (slot : Slot T name id) (hty : typeOf (.builtin id) = pure (.type "method_descriptor")) (hm : MtR X id r) (ho : PE X o to) (ha : PA X (e :: es) t) (h : X.K = K := by rfl)
    (hbase : attributeBase o name X.env (eval o X.env) = eval o X.env := by rfl)
    (hfew : ((backTo cpos (starEach (e :: es) X.env)).all (fun x => !x.1) && (backToKw cpos (keywordEach [] X.env)).all (fun x => x.1.isSome)
      && decide ((e :: es).length + ([] : List Keyword).length + (if ([] : List Keyword).isEmpty then 0 else 1) < 30)) = true := by rfl)
    (hline : (apos.endLine == cpos.line) = true := by rfl) (hs : starEach (e :: es) X.env = (false, eval e X.env) :: starEach es X.env := by rfl) (hplain : (backTo cpos (starEach es X.env)).any (·.1) = false := by rfl) : PE X (.Call (.Attribute o name apos) (e :: es) [] cpos) (tBM K T r to t) := h ▸ pe_bm pa slot hty hm ho ha hbase hfew hline hs hplain
theorem lc_either {K : PySem.W.Frag} {a : Addr} {xs : List V} {g : TG} {tt : TT} {te : TE} {vs : List Nat} {σ : L2.St} {H : Hp} {Q : VK} {i : Nat} (hv : σ[i]? = some (some (.ref a))) (hA : SqL K H a xs ∨ SqT K H a xs) (Pv : Addr → Nat → Hp → Prop) (h0 : ∀ D, H D = none → Pv D 0 (upd H D (.lst []))) (hl : ∀ D k H', Pv D k H' → Same H H')
    (hs : ∀ D, H D = none → ∀ k x H', xs[k]? = some x → Pv D k H' → g x (wipe σ vs) H' fun σ2 H2 => wipe σ2 vs = wipe σ vs ∧ tt σ2 H2 fun b H3 => if b = true then te σ2 H3 fun y H4 => ∃ acc, H4 D = some (.lst acc) ∧ acc.length < sizeLine ∧ Pv D (k + 1) (upd H4 D (.lst (acc ++ [y]))) else Pv D (k + 1) H3)
    (hd : ∀ D, H D = none → ∀ H', Pv D xs.length H' → Q (.ref D) H') : tLc (iEither K (tVar i)) g tt te vs σ H Q := by
  rcases hA with hA | hA
  · exact .inl ⟨.ref a, hv, a, rfl, ⟨_, hA⟩, fun D nD => lc_list (Pv D) (h0 D nD) (fun k H' _ p => (hl D k H' p).seq hA) (hs D nD) (hd D nD)⟩
  · exact .inr ⟨.ref a, hv, a, rfl, ⟨_, hA⟩, fun D nD => lc_tup (Pv D) (h0 D nD) (fun k H' _ p => Same.seqT (hl D k H' p) hA) (hs D nD) (hd D nD)⟩
/-- a dict comprehension over anything that is walked -/
theorem dc_walk {J : It} {n : Nat} {G : Hp → Prop} {Y : Nat → Hp → V → Hp → Prop} (wk : Walk J n G Y) {g : TG} {tt : TT} {tk tv : TE} {vs : List Nat} {σ : L2.St} {H1 : Hp} {D : Addr} {Qd : Hp → Prop} (Pv : Nat → Hp → Prop) (h0 : Pv 0 (upd H1 D (.dK []))) (hG : ∀ k H, k ≤ n → Pv k H → G H)
    (hs : ∀ k x H H', k < n → Pv k H → Y k H x H' → g x (wipe σ vs) H' fun σ2 H2 => wipe σ2 vs = wipe σ vs ∧ tt σ2 H2 fun b H3 =>
      if b = true then tk σ2 H3 fun y H4 => tv σ2 H4 fun z H5 => ∃ kvs k', y = kV k' ∧ H5 D = some (.dK kvs) ∧ kvs.length < sizeLine ∧ Pv (k + 1) (upd H5 D (.dK (putK kvs k' z))) else Pv (k + 1) H3) (hd : ∀ H, Pv n H → Qd H) :
    ∃ W : Nat → Nat → Hp → Prop, (∃ m, W 0 m (upd H1 D (.dK []))) ∧ ∀ k m H, W k m H →
      (J.stop k H ∧ Qd H) ∨ (J.go k H ∧ ∃ Nx : Hp → Prop, (∀ H', Nx H' → ∃ m', m' < m ∧ W (k + 1) m' H') ∧ ∀ x H', J.yld k H x H' → g x (wipe σ vs) H' fun σ2 H2 => wipe σ2 vs = wipe σ vs ∧ tt σ2 H2 fun b H3 =>
        if b = true then tk σ2 H3 fun y H4 => tv σ2 H4 fun z H5 => ∃ kvs k', y = kV k' ∧ H5 D = some (.dK kvs) ∧ kvs.length < sizeLine ∧ Nx (upd H5 D (.dK (putK kvs k' z))) else Nx H3) := by
  refine ⟨fun k m H => (m = n - k ∧ k ≤ n) ∧ Pv k H, ⟨n, ⟨by omega, Nat.zero_le _⟩, h0⟩, fun k m H hw => ?_⟩
  obtain ⟨⟨hm, hk⟩, hp⟩ := hw
  have hg := hG k H hk hp
  rcases Nat.lt_or_eq_of_le hk with hlt | heq
  · exact .inr ⟨wk.goes k H hlt hg, Pv (k + 1), fun H' hp' => ⟨n - (k + 1), by omega, ⟨rfl, hlt⟩, hp'⟩, fun x H' hy => hs k x H H' hlt hp (wk.yields k H x H' hlt hg hy)⟩
  · subst heq
    exact .inl ⟨wk.stops H hg, hd H hp⟩
theorem dc_either {K : PySem.W.Frag} {a : Addr} {xs : List V} {g : TG} {tt : TT} {tk tv : TE} {vs : List Nat} {σ : L2.St} {H : Hp} {Q : VK} {i : Nat} (hv : σ[i]? = some (some (.ref a))) (hA : SqL K H a xs ∨ SqT K H a xs) (Pv : Addr → Nat → Hp → Prop) (h0 : ∀ D, H D = none → Pv D 0 (upd H D (.dK []))) (hl : ∀ D k H', Pv D k H' → Same H H')
    (hs : ∀ D, H D = none → ∀ k x H', xs[k]? = some x → Pv D k H' → g x (wipe σ vs) H' fun σ2 H2 => wipe σ2 vs = wipe σ vs ∧ tt σ2 H2 fun b H3 => if b = true then tk σ2 H3 fun y H4 => tv σ2 H4 fun z H5 => ∃ kvs k', y = kV k' ∧ H5 D = some (.dK kvs) ∧ kvs.length < sizeLine ∧ Pv D (k + 1) (upd H5 D (.dK (putK kvs k' z))) else Pv D (k + 1) H3)
    (hd : ∀ D, H D = none → ∀ H', Pv D xs.length H' → Q (.ref D) H') : tDc (iEither K (tVar i)) g tt tk tv vs σ H Q := by
  rcases hA with hA | hA
  · exact .inl ⟨.ref a, hv, a, rfl, ⟨_, hA⟩, fun D nD => dc_walk walk_list (Pv D) (h0 D nD) (fun k H' _ p => (hl D k H' p).seq hA) (fun k x H2 H' hk hp hy => by obtain ⟨e1, e2⟩ := hy; rw [e1]; exact hs D nD k x H2 e2 hp) (hd D nD)⟩
  · exact .inr ⟨.ref a, hv, a, rfl, ⟨_, hA⟩, fun D nD => dc_tup (Pv D) (h0 D nD) (fun k H' _ p => Same.seqT (hl D k H' p) hA) (hs D nD) (hd D nD)⟩
/-- an item of a list or of a tuple -/
theorem ix_either {X : Cx} (K : PySem.W.Frag) (h : X.K = K := by rfl) : IxR X (fun x y H Q => rIxL K x y H Q ∨ rIxT K x y H Q) := by
  intro value slice pins s σ H x y v u Q I rx ry hq
  rcases hq with hq | hq
  · exact ix_listK K h value slice pins s σ H x y v u Q I rx ry hq
  · exact ix_tupK K h value slice pins s σ H x y v u Q I rx ry hq
def rSetLn (K : PySem.W.Frag) (w : World) : List V → Hp → VK → Prop := fun xs H Q => ∃ (l : Addr) (ns : List Int), xs = [.ref l] ∧ SqL K H l (ns.map V.int) ∧ ns.length ≤ 1000 ∧
    ∀ (p : Addr) (c : Nat), H p = none → Diff ns c → Q (.ref p) (upd H p (SetO w p (fun j => decide (j ∈ ns)) c))
theorem cr_setLn {X : Cx} (K : PySem.W.Frag) (w : World) (hc : X.calm = true) (h : X.K = K := by rfl) (hw : X.w = w := by rfl) : CallR X (.type "set") (rSetLn K w) := by
  subst h hw
  intro pins s σ H xs us Q I r h
  obtain ⟨l, ns, rfl, hq, hl, q⟩ := h
  obtain ⟨u, rfl, ru⟩ := vals1 r
  obtain rfl : u = Value.ref l := ru
  obtain ⟨its, rv, pt, hz⟩ := I.list hq
  refine call_setL ns (I.ok.hd hc) (show s.heap.IsList l its.toArray from pt.isList) (ints_of_vals rv) (by unfold scanBound; omega) fun h' tk c R1 hcn k => ?_
  exact ⟨.ref _, _, I.laid (t' := tk) k (Nat.le_refl _) (setO_new R1), rfl, q _ c (I.hok.fresh (Nat.le_refl _)) (setR_diff R1)⟩
/-- at most one different number -/
theorem Diff.one {ns : List Int} {c : Nat} (h : Diff ns c) : c ≤ 1 ↔ ∀ a ∈ ns, ∀ b ∈ ns, a = b := by
  obtain ⟨ks, h1, h2, rfl⟩ := h
  constructor
  · intro hc a ha b hb
    have ha2 := (h2 a).mpr ha
    have hb2 := (h2 b).mpr hb
    match ks, hc, ha2, hb2 with
    | [], _, ha2, _ => cases ha2
    | [x], _, ha2, hb2 => exact (List.mem_singleton.mp ha2).trans (List.mem_singleton.mp hb2).symm
  · intro h
    match ks, h1, h2 with
    | [], _, _ => exact Nat.zero_le _
    | [x], _, _ => exact Nat.le_refl _
    | x :: y :: r, h1, h2 =>
      exfalso
      obtain ⟨g1, _⟩ := List.nodup_cons.mp h1
      have := h x ((h2 x).mp List.mem_cons_self) y ((h2 y).mp (List.mem_cons_of_mem _ List.mem_cons_self))
      exact g1 (this ▸ List.mem_cons_self)
end Ef
namespace Ef
/-! ### the lists ascend -/
abbrev intL (ms : List Nat) : List Int := ms.map fun (m : Nat) => (m : Int)
theorem lt_cons {a b : Int} {l m : List Int} : a :: l < b :: m ↔ a < b ∨ a = b ∧ l < m := List.cons_lt_cons_iff
/-- m is not before l -/
def LexLe (l m : List Nat) : Prop := ¬ intL m < intL l
theorem LexLe.cons_lt {a b : Nat} {l m : List Nat} (h : a < b) : LexLe (a :: l) (b :: m) := fun z => by
  have z2 : ((b : Int) :: intL m) < ((a : Int) :: intL l) := z
  rcases lt_cons.mp z2 with z | ⟨z, _⟩ <;> omega
theorem LexLe.cons_eq {a : Nat} {l m : List Nat} (h : LexLe l m) : LexLe (a :: l) (a :: m) := fun z => by
  have z2 : ((a : Int) :: intL m) < ((a : Int) :: intL l) := z
  rcases lt_cons.mp z2 with z | ⟨_, z⟩
  · omega
  · exact h z
theorem asc_lt {L : List Nat} (a : Asc L) {i j x y : Nat} (hi : L[i]? = some x) (hj : L[j]? = some y) (h : i < j) : x < y := by
  obtain ⟨a1, a2⟩ := List.getElem?_eq_some_iff.mp hi
  obtain ⟨b1, b2⟩ := List.getElem?_eq_some_iff.mp hj
  rw [← a2, ← b2]
  exact List.pairwise_iff_getElem.mp a i j a1 b1 h
theorem fol_asc {n c : Nat} : ∀ {ss L : List Nat} {r r' : Nat}, FolOk n c ss L r → FolOk n c ss L r' → Asc L → r ≤ r' → LexLe (fol n c ss L r).1 (fol n c ss L r').1
  | [], _, _, _, _, _, _, _ => fun z => by cases z
  | s :: ss, L, r, r', ⟨w0, h1, g1, o1⟩, ⟨_, h2, g2, o2⟩, a, h => by
    rw [fol_cons, fol_cons]
    have hd : r / wd n c s ≤ r' / wd n c s := Nat.div_le_div_right h
    by_cases e : r / wd n c s = r' / wd n c s
    · have m1 := Nat.div_add_mod r (wd n c s)
      have m2 := Nat.div_add_mod r' (wd n c s)
      rw [← e] at o2 m2 ⊢
      have hm : r % wd n c s ≤ r' % wd n c s := by omega
      exact LexLe.cons_eq (fol_asc o1 o2 (asc_erase a _) (by omega))
    · exact LexLe.cons_lt (asc_lt a (getD_of h1) (getD_of h2) (by omega))
theorem path_asc {n d c k k' : Nat} (h : Std n d c) (hk : k ≤ k') (hk' : k' < c) : LexLe (path n d c k).1 (path n d c k').1 :=
  fol_asc (path_ok h (by omega)) (path_ok h hk') (asc_range' n 0) hk
end Ef
set_option maxHeartbeats 4000000
namespace Ef
open PySem PySem.Spec PyProof.Rows L2 PySem.SeqAt
/-! ### != of tuples that hold the same things (by identity, where they are objects) -/
inductive SimV : V → Prop
  | non : SimV .non
  | bl (b : Bool) : SimV (.bl b)
  | int (i : Int) : SimV (.int i)
  | str (x : Str) : SimV (.str x)
  | ref (a : Addr) : SimV (.ref a)
theorem simV_eq {A : Around} {s : Shared} {v : V} {u1 u2 : Value} (h : SimV v) (r1 : RelV v u1) (r2 : RelV v u2) : EqAt A s u1 u2 true := by
  cases h with
  | non =>
    obtain rfl : u1 = Value.none := r1
    obtain rfl : u2 = Value.none := r2
    exact EqAt.same _
  | bl b =>
    obtain rfl : u1 = Value.bool b := r1
    obtain rfl : u2 = Value.bool b := r2
    exact EqAt.same _
  | int i =>
    obtain ⟨t, rfl⟩ := (show ∃ t, u1 = Value.int i t from r1)
    obtain ⟨t2, rfl⟩ := (show ∃ t, u2 = Value.int i t from r2)
    have := EqAt.int_int (A := A) (s := s) i t i t2
    rw [beq_self_eq_true] at this
    exact this
  | str x =>
    obtain ⟨t, rfl⟩ := (show ∃ t, u1 = Value.str x t from r1)
    obtain ⟨t2, rfl⟩ := (show ∃ t, u2 = Value.str x t from r2)
    have := EqAt.str_str (A := A) (s := s) x t x t2
    rw [beq_self_eq_true] at this
    exact this
  | ref a =>
    obtain rfl : u1 = Value.ref a := r1
    obtain rfl : u2 = Value.ref a := r2
    exact EqAt.same _
theorem simV_at {A : Around} {s : Shared} : ∀ {xs : List V} {us ws : List Value}, (∀ v ∈ xs, SimV v) → Vals xs us → Vals xs ws → us.length = ws.length ∧ ∀ j (h1 : j < us.length) (h2 : j < ws.length), EqAt A s us[j] ws[j] true
  | [], _, _, _, r1, r2 => by
    cases r1
    cases r2
    exact ⟨rfl, fun j h => absurd h (Nat.not_lt_zero _)⟩
  | v :: xs, _, _, h, r1, r2 => by
    cases r1 with
    | cons a1 t1 =>
      cases r2 with
      | cons a2 t2 =>
        obtain ⟨e, ih⟩ := simV_at (A := A) (s := s) (fun y hy => h y (List.mem_cons_of_mem _ hy)) t1 t2
        refine ⟨by rw [List.length_cons, List.length_cons, e], fun j h1 h2 => ?_⟩
        cases j with
        | zero => exact simV_eq (h v List.mem_cons_self) a1 a2
        | succ j => exact ih j (by simpa using h1) (by simpa using h2)
def rNeI (K : PySem.W.Frag) : R2 := fun x y H Q => ∃ (a b : Addr) (xs : List V), x = .ref a ∧ y = .ref b ∧ SqT K H a xs ∧ SqT K H b xs ∧ (∀ v ∈ xs, SimV v) ∧ Q (.bl false) H
theorem op_neI {X : Cx} (K : PySem.W.Frag) (hu : X.A.units < cLine) (hk : X.K = K := by rfl) : OpR X (compareOp .NotEq) (rNeI K) := by
  subst hk
  intro pins s σ H x y v u Q I rx ry h
  obtain ⟨a, b, xs, rfl, rfl, ha, hb, hs, q⟩ := h
  obtain rfl : v = Value.ref a := rx
  obtain rfl : u = Value.ref b := ry
  obtain ⟨i1, r1, t1, _⟩ := I.tuple ha
  obtain ⟨i2, r2, t2, _⟩ := I.tuple hb
  obtain ⟨e, he⟩ := simV_at (A := X.A.in1) (s := s) hs r1 r2
  refine RcNeAt.tuples (e := fun _ => true) t1 t2 hu (fun j h1 h2 => he j (by simpa using h1) (by simpa using h2)) _ _ _ _ ?_
  have ev : (!((List.range (min i1.toArray.size i2.toArray.size)).all (fun _ => true) && i1.toArray.size == i2.toArray.size)) = false := by
    rw [List.size_toArray, List.size_toArray, e]
    simp
  rw [ev]
  exact ⟨.bl false, H, I, rfl, q⟩
end Ef
set_option maxHeartbeats 4000000
namespace Ef
open PySem PySem.Spec PyProof.Rows L2 PySem.SeqAt
/-! ### t == () of any tuple -/
def rEqNil (K : PySem.W.Frag) : R2 := fun x y H Q => ∃ (a b : Addr) (xs : List V), x = .ref a ∧ y = .ref b ∧ SqT K H a xs ∧ SqT K H b [] ∧ Q (.bl (xs.length == 0)) H
theorem op_eqNil {X : Cx} (K : PySem.W.Frag) (hu : X.A.units < cLine) (hk : X.K = K := by rfl) : OpR X (compareOp .Eq) (rEqNil K) := by
  subst hk
  intro pins s σ H x y v u Q I rx ry h
  obtain ⟨a, b, xs, rfl, rfl, ha, hb, q⟩ := h
  obtain rfl : v = Value.ref a := rx
  obtain rfl : u = Value.ref b := ry
  obtain ⟨i1, r1, t1, _⟩ := I.tuple ha
  obtain ⟨i2, r2, t2, _⟩ := I.tuple hb
  cases r2
  have el : i1.length = xs.length := by
    have : ∀ {xs : List V} {us : List Value}, Vals xs us → us.length = xs.length := fun {xs us} r => by
      induction r with
      | nil => rfl
      | cons _ _ ih => rw [List.length_cons, List.length_cons, ih]
    exact this r1
  refine eq_tupleAt (e := fun _ => true) t1 t2 hu (fun j h1 h2 => absurd h2 (by simp)) ?_
  have ev : ((List.range (min i1.toArray.size ([] : List Value).toArray.size)).all (fun _ => true) && i1.toArray.size == ([] : List Value).toArray.size) = (xs.length == 0) := by
    rw [List.size_toArray, List.size_toArray, el]
    simp
  rw [ev]
  exact ⟨.bl _, H, I, rfl, q⟩
end Ef
set_option maxHeartbeats 4000000
namespace Ef
open PySem PySem.Spec PyProof.Rows L2
/-! ### dicts whose keys are tuples, nested at will -/
mutual
/-- the value is this key -/
inductive NkAt (K : PySem.W.Frag) (H : Hp) : NestedKey → V → Prop
  | num (i : Int) : NkAt K H (.num i) (.int i)
  | tup {a : Addr} {xs : List V} {ks : List NestedKey} : SqT K H a xs → NkAll K H ks xs → NkAt K H (.tup ks) (.ref a)
inductive NkAll (K : PySem.W.Frag) (H : Hp) : List NestedKey → List V → Prop
  | nil : NkAll K H [] []
  | cons {k : NestedKey} {v : V} {ks : List NestedKey} {vs : List V} : NkAt K H k v → NkAll K H ks vs → NkAll K H (k :: ks) (v :: vs)
end
mutual
theorem NkAt.mono {K : PySem.W.Frag} {H H' : Hp} (m : ∀ a xs, SqT K H a xs → SqT K H' a xs) : ∀ (k : NestedKey) (v : V), NkAt K H k v → NkAt K H' k v
  | .none, _, h => by cases h
  | .num i, _, h => by cases h; exact .num i
  | .text x, _, h => by cases h
  | .tup ks, _, h => by
    cases h with
    | tup h1 h2 => exact .tup (m _ _ h1) (NkAll.mono m ks _ h2)
theorem NkAll.mono {K : PySem.W.Frag} {H H' : Hp} (m : ∀ a xs, SqT K H a xs → SqT K H' a xs) : ∀ (ks : List NestedKey) (vs : List V), NkAll K H ks vs → NkAll K H' ks vs
  | [], _, h => by cases h; exact .nil
  | k :: ks, _, h => by
    cases h with
    | cons h1 h2 => exact .cons (NkAt.mono m k _ h1) (NkAll.mono m ks _ h2)
end
theorem NkAt.same {K : PySem.W.Frag} {H H' : Hp} {k : NestedKey} {v : V} (s : Same H H') (h : NkAt K H k v) : NkAt K H' k v := NkAt.mono (fun _ _ z => Same.seqT s z) k v h
section
variable {X : Cx} {pins : List (Addr × Obj)} {σ : L2.St} {H : Hp} {s : Shared}
mutual
theorem nk_is (I : Inv X pins σ H s) : ∀ (k : NestedKey) (v : V) (u : Value), NkAt X.K H k v → RelV v u → NestedIs s.heap k u
  | .none, _, _, h, _ => by cases h
  | .num i, _, u, h, r => by
    cases h
    obtain ⟨t, rfl⟩ := (show ∃ t, u = Value.int i t from r)
    exact .int i t
  | .text x, _, _, h, _ => by cases h
  | .tup ks, _, u, h, r => by
    cases h with
    | @tup a xs _ h1 h2 =>
      obtain rfl : u = Value.ref a := r
      obtain ⟨its, rv, ⟨o, ho, hc, n, hd⟩, _⟩ := I.tuple h1
      exact .tup ho hc hd (by simpa using nk_all I ks _ _ h2 rv)
theorem nk_all (I : Inv X pins σ H s) : ∀ (ks : List NestedKey) (vs : List V) (us : List Value), NkAll X.K H ks vs → Vals vs us → NestedAll s.heap ks us
  | [], _, _, h, r => by
    cases h
    cases r
    exact .nil
  | k :: ks, _, _, h, r => by
    cases h with
    | cons h1 h2 =>
      cases r with
      | cons r1 r2 => exact .cons (nk_is I k _ _ h1 r1) (nk_all I ks _ _ h2 r2)
end
end
abbrev DRel : List (NestedKey × Addr × V) → List (NestedKey × Addr × Value) → Prop := PySem.Paired fun p q => p.1 = q.1 ∧ p.2.1 = q.2.1 ∧ RelV p.2.2 q.2.2
abbrev KN (xs : List (NestedKey × Addr × V)) : List (NestedKey × V) := xs.map fun x => (x.1, x.2.2)
theorem DRel.val {xs : List (NestedKey × Addr × V)} {ys : List (NestedKey × Addr × Value)} (r : DRel xs ys) (k : NestedKey) : RelO (valV (KN xs) k) ((atKey ys k).map (·.2)) := by
  induction r with
  | nil => exact True.intro
  | @cons p q ps qs h t ih =>
    obtain ⟨h1, _, h2⟩ := h
    by_cases e : p.1 = k
    · have e' : q.1 = k := h1.symm.trans e
      have b : atKey (q :: qs) k = some q.2 := by simp [atKey, List.find?_cons, e']
      rw [b]
      show RelO (valV ((p.1, p.2.2) :: KN ps) k) _
      rw [valV_pos e]
      exact h2
    · have e' : ¬ q.1 = k := fun z => e (h1.trans z)
      have b : atKey (q :: qs) k = atKey qs k := by simp [atKey, List.find?_cons, e']
      rw [b]
      show RelO (valV ((p.1, p.2.2) :: KN ps) k) _
      rw [valV_neg e]
      exact ih
/-- d[k] = v over the pairs with their keys' places -/
def putN (xs : List (NestedKey × Addr × V)) (k : NestedKey) (b : Addr) (v : V) : List (NestedKey × Addr × V) :=
  if (valV (KN xs) k).isSome = true then xs.map (fun x => if x.1 = k then (x.1, x.2.1, v) else x) else xs ++ [(k, b, v)]
theorem DRel.repl {xs : List (NestedKey × Addr × V)} {ys : List (NestedKey × Addr × Value)} (r : DRel xs ys) (k : NestedKey) {y : V} {u : Value} (ry : RelV y u) :
    DRel (xs.map fun x => if x.1 = k then (x.1, x.2.1, y) else x) (ys.map (putAt k u)) := by
  induction r with
  | nil => exact .nil
  | @cons p q ps qs h t ih =>
    rw [List.map_cons, List.map_cons]
    refine .cons ?_ ih
    obtain ⟨h1, h2, h3⟩ := h
    unfold putAt
    by_cases e : p.1 = k
    · rw [if_pos e, if_pos (h1.symm.trans e)]; exact ⟨h1, h2, ry⟩
    · rw [if_neg e, if_neg (fun z => e (h1.trans z))]; exact ⟨h1, h2, h3⟩
theorem DRel.put {xs : List (NestedKey × Addr × V)} {ys : List (NestedKey × Addr × Value)} (r : DRel xs ys) (k : NestedKey) (b : Addr) {y : V} {u : Value} (ry : RelV y u) :
    DRel (putN xs k b y) (storedH ys k b u) := by
  have e : (valV (KN xs) k).isSome = (atKey ys k).isSome := by
    rw [(r.val k).isSome_eq, Option.isSome_map]
  unfold putN storedH
  rw [e]
  by_cases q : (atKey ys k).isSome = true
  · rw [if_pos q, if_pos q]; exact r.repl k ry
  · rw [if_neg q, if_neg q]; exact Paired.snoc r ⟨rfl, rfl, ry⟩
theorem KN_put (xs : List (NestedKey × Addr × V)) (k : NestedKey) (b : Addr) (v : V) : KN (putN xs k b v) = putK (KN xs) k v := by
  unfold putN putK
  rw [valV_any]
  by_cases q : (valV (KN xs) k).isSome = true
  · rw [if_pos q, if_pos q]
    unfold KN
    rw [List.map_map, List.map_map]
    refine List.map_congr_left fun x _ => ?_
    show ((if x.1 = k then (x.1, x.2.1, v) else x).1, (if x.1 = k then (x.1, x.2.1, v) else x).2.2) = if x.1 = k then (x.1, v) else (x.1, x.2.2)
    by_cases e : x.1 = k
    · rw [if_pos e, if_pos e]
    · rw [if_neg e, if_neg e]
  · rw [if_neg q, if_neg q]
    unfold KN
    rw [List.map_append]
    rfl
theorem putN_mem {xs : List (NestedKey × Addr × V)} {k : NestedKey} {b : Addr} {v : V} {x : NestedKey × Addr × V} (h : x ∈ putN xs k b v) : (∃ y ∈ xs, x.1 = y.1 ∧ x.2.1 = y.2.1) ∨ (x.1 = k ∧ x.2.1 = b) := by
  unfold putN at h
  split at h
  · obtain ⟨y, hy, rfl⟩ := List.mem_map.mp h
    refine .inl ⟨y, hy, ?_⟩
    by_cases e : y.1 = k
    · rw [if_pos e]; exact ⟨rfl, rfl⟩
    · rw [if_neg e]; exact ⟨rfl, rfl⟩
  · rcases List.mem_append.mp h with h | h
    · exact .inl ⟨x, h, rfl, rfl⟩
    · rw [List.mem_singleton.mp h]
      exact .inr ⟨rfl, rfl⟩
/-- a dict at a: its keys, where they stand, its values -/
def DN (P : Program) (w : World) (a : Addr) (xs : List (NestedKey × Addr × V)) : HO := .ext fun h => (a == sysModules) = false ∧ xs.length ≤ sizeLine ∧ ∃ ys : List (NestedKey × Addr × Value), DRel xs ys ∧
  ∃ o es ep, h.get? a = some o ∧ o.ExactDict ∧ o.data = .dict es ep ∧ es.toList = ys.map (entryOfKey (nestedKind P w)) ∧ (ys.map (·.1)).Nodup
theorem dn_ok {P : Program} {w : World} {H : Hp} {h : Heap} {a : Addr} {xs : List (NestedKey × Addr × V)} (h1 : (a == sysModules) = false) (h2 : xs.length ≤ sizeLine) {ys : List (NestedKey × Addr × Value)} (r : DRel xs ys) (d : h.DictOfH (nestedKind P w) a ys) :
    ObjOk P w H h a (DN P w a xs) := by
  obtain ⟨o, es, ep, e1, e2, e3, e4, _, e5⟩ := d
  refine ⟨⟨h1, h2, ys, r, o, es, ep, e1, e2, e3, e4, e5⟩, ⟨o, e1⟩, fun g1 g2 ⟨a1, a2, ys', a3, o', es', ep', b1, b2⟩ st => ⟨a1, a2, ys', a3, o', es', ep', st _ b1, b2⟩⟩
/-- the pairs of the dict at d -/
def DAt (P : Program) (w : World) (K : PySem.W.Frag) (H : Hp) (d : Addr) (kvs : List (NestedKey × V)) : Prop := ∃ xs, H d = some (DN P w d xs) ∧ (∀ x ∈ xs, NkAt K H x.1 (.ref x.2.1) ∧ x.1.depth ≤ 8) ∧ kvs = KN xs
theorem DAt.same {P : Program} {w : World} {K : PySem.W.Frag} {H H' : Hp} {d : Addr} {kvs : List (NestedKey × V)} (s : Same H H') (h : DAt P w K H d kvs) : DAt P w K H' d kvs := by
  obtain ⟨xs, h1, h2, h3⟩ := h
  exact ⟨xs, s _ _ h1, fun x hx => ⟨(h2 x hx).1.same s, (h2 x hx).2⟩, h3⟩
theorem SqT_updE {K : PySem.W.Frag} {H : Hp} {a D : Addr} {xs : List V} {φ : Heap → Prop} {o : HO} (h : SqT K H a xs) (hD : H D = some (.ext φ)) : SqT K (upd H D o) a xs := by
  rcases h with (h | ⟨o, h⟩) | h
  · exact .inl (.inl (by rw [upd_ne (fun c => by rw [c, hD] at h; cases h)]; exact h))
  · exact .inl (.inr ⟨o, by rw [upd_ne (fun c => by rw [c, hD] at h; cases h)]; exact h⟩)
  · exact .inr h
theorem DAt.ext {P : Program} {w : World} {K : PySem.W.Frag} {H : Hp} {d : Addr} {kvs : List (NestedKey × V)} (h : DAt P w K H d kvs) : ∃ φ, H d = some (.ext φ) := by
  obtain ⟨xs, h1, _⟩ := h
  exact ⟨_, h1⟩
/-- a list is changed -/
theorem DAt.updL {P : Program} {w : World} {K : PySem.W.Frag} {H : Hp} {d D : Addr} {kvs : List (NestedKey × V)} {ys : List V} {o : HO} (h : DAt P w K H d kvs) (hD : H D = some (.lst ys)) : DAt P w K (upd H D o) d kvs := by
  obtain ⟨xs, h1, h2, h3⟩ := h
  refine ⟨xs, by rw [upd_ne (fun c => by rw [c, hD] at h1; cases h1)]; exact h1, fun x hx => ⟨NkAt.mono (fun a zs h => ?_) _ _ (h2 x hx).1, (h2 x hx).2⟩, h3⟩
  rcases h with (h | ⟨o, h⟩) | h
  · exact .inl (.inl (by rw [upd_ne (fun c => by rw [c, hD] at h; cases h)]; exact h))
  · exact .inl (.inr ⟨o, by rw [upd_ne (fun c => by rw [c, hD] at h; cases h)]; exact h⟩)
  · exact .inr h
section
variable {X : Cx} {pins : List (Addr × Obj)} {σ : L2.St} {H : Hp} {s : Shared}
theorem dat_of {a : Addr} {xs : List (NestedKey × Addr × V)} (I : Inv X pins σ H s) (e : H a = some (DN X.prog X.w a xs)) (hk : ∀ x ∈ xs, NkAt X.K H x.1 (.ref x.2.1) ∧ x.1.depth ≤ 8) :
    (a == sysModules) = false ∧ xs.length ≤ sizeLine ∧ ∃ ys, DRel xs ys ∧ s.heap.DictOfH (nestedKind X.prog X.w) a ys := by
  obtain ⟨h1, h2, ys, r, o, es, ep, e1, e2, e3, e4, e5⟩ := (I.hok a _ e).1
  refine ⟨h1, h2, ys, r, o, es, ep, e1, e2, e3, e4, ?_, e5⟩
  clear h2 e4 e5 e
  induction r with
  | nil => intro x hx; exact absurd hx List.not_mem_nil
  | @cons p q ps qs h t ih =>
    intro x hx
    rcases List.mem_cons.mp hx with rfl | hx
    · obtain ⟨z1, z2⟩ := hk p List.mem_cons_self
      rw [← h.1, ← h.2.1]
      exact ⟨nk_is I _ _ _ z1 rfl, z2⟩
    · exact ih (fun y hy => hk y (List.mem_cons_of_mem _ hy)) x hx
theorem nroom {A : Around} {P : Program} {w : World} (hu : A.units + 9 < cLine) : (nestedKind P w).room A.in1 := by
  show A.in1.units + 8 < cLine
  rw [Around.in1_units]
  omega
end
/-! the rules -/
def tDNewN (P : Program) (w : World) : TE := fun _ H Q => ∀ p, H p = none → Q (.ref p) (upd H p (DN P w p []))
def rGetDN (P : Program) (w : World) (K : PySem.W.Frag) : V → List V → Hp → VK → Prop := fun x args H Q => ∃ (d b : Addr) (z : V) (kvs : List (NestedKey × V)) (k : NestedKey), x = .ref d ∧ args = [.ref b, z] ∧ DAt P w K H d kvs ∧ NkAt K H k (.ref b) ∧ k.depth ≤ 8 ∧ Q ((valV kvs k).getD z) H
def rSetDN (P : Program) (w : World) (K : PySem.W.Frag) : V → V → V → Hp → (Hp → Prop) → Prop := fun o i v H Q => ∃ (d b : Addr) (kvs : List (NestedKey × V)) (k : NestedKey), o = .ref d ∧ i = .ref b ∧ DAt P w K H d kvs ∧ NkAt K H k (.ref b) ∧ k.depth ≤ 8 ∧ kvs.length < sizeLine ∧
  ∀ u, DAt P w K (upd H d u) d (putK kvs k v) → Q (upd H d u)
def rIxDN (P : Program) (w : World) (K : PySem.W.Frag) : R2 := fun x y H Q => ∃ (d b : Addr) (kvs : List (NestedKey × V)) (k : NestedKey) (v : V), x = .ref d ∧ y = .ref b ∧ DAt P w K H d kvs ∧ NkAt K H k (.ref b) ∧ k.depth ≤ 8 ∧ valV kvs k = some v ∧ Q v H
def tBMN (P : Program) (w : World) (r : V → List V → Hp → VK → Prop) (to : TE) (t : TA) : TE := fun σ H Q => to σ H fun x H1 => (∃ a xs, x = .ref a ∧ H1 a = some (DN P w a xs)) ∧ t σ H1 fun xs H2 => r x xs H2 Q
section
variable {X : Cx} {P : Program} {w : World} {K : PySem.W.Frag} {pos : Pos}
theorem pe_dnewN (hp : X.prog = P := by rfl) (hw : X.w = w := by rfl) : PE X (.Dict [] [] pos) (tDNewN P w) := by
  subst hp hw
  exact ⟨fun pins s σ H Q I h => wpAny_Dict_empty ⟨.ref s.heap.objs.size, _, I.laid (a := s.heap.objs.size) (o := DN X.prog X.w s.heap.objs.size []) (t' := s.toks) (fun _ _ q => Heap.get?_push_of_some _ q) (Nat.le_refl _)
    (dn_ok (beq_eq_false_iff_ne.mpr (Ne.symm (Nat.ne_of_lt I.big))) (Nat.zero_le _) .nil (Heap.DictOfH.new s.heap)), rfl, h _ (I.hok.fresh (Nat.le_refl _))⟩⟩
theorem mt_getDN (K : PySem.W.Frag) (hu : X.A.units + 9 < cLine) (hp : X.prog = P := by rfl) (hw : X.w = w := by rfl) (hk : X.K = K := by rfl) : MtR X "dict.get" (rGetDN P w K) := by
  subst hp hw hk
  intro pins s σ H x args v us Q I rx ra h
  obtain ⟨d, b, z, kvs, k, rfl, rfl, ⟨xs, e, hx, rfl⟩, hb, hd8, q⟩ := h
  obtain rfl : v = Value.ref d := rx
  cases ra with
  | cons r1 r2 =>
    cases r2 with
    | cons r2 r3 =>
      cases r3
      rename_i u1 u2
      obtain rfl : u1 = Value.ref b := r1
      obtain ⟨h1, h2, ys, r, dd⟩ := dat_of I e hx
      refine call_meetsIn PySem.F.slot_dict_get dd.typeIs PySem.F.entry_dict_get (PySem.F.args_dict_get_3 _ _ _) (meetsH_dict_get_default (nestedKind X.prog X.w) d b h1 u2) ⟨nroom hu, k, ys, ⟨nk_is I k _ _ hb rfl, hd8⟩, dd, _, H, I.tok _, (r.val k).getD r2, q⟩
theorem set_dN (K : PySem.W.Frag) (hu : X.A.units + 9 < cLine) (hp : X.prog = P := by rfl) (hw : X.w = w := by rfl) (hk : X.K = K := by rfl) : PSet X (rSetDN P w K) := by
  subst hp hw hk
  intro pins s σ H o i v ov iv u Q I ro ri rv h
  obtain ⟨d, b, kvs, k, rfl, rfl, ⟨xs, e, hx, rfl⟩, hb, hd8, hl, q⟩ := h
  obtain rfl : ov = Value.ref d := ro
  obtain rfl : iv = Value.ref b := ri
  obtain ⟨h1, h2, ys, r, dd⟩ := dat_of I e hx
  have hz : ys.length ≤ sizeLine := by rw [← Paired.length r]; exact h2
  refine wpAny_setItem_heap (hsz := hz) (nroom hu) (show (nestedKind X.prog X.w).is s.heap k b from ⟨nk_is I k _ _ hb rfl, hd8⟩) dd fun h' dd' hs => ?_
  have hl2 : (putN xs k b v).length ≤ sizeLine := by
    have l1 := length_putK (KN xs) k v
    rw [← KN_put xs k b v] at l1
    unfold KN at l1 hl
    rw [List.length_map, List.length_map] at l1
    rw [List.length_map] at hl
    omega
  have he : ∃ q, h'.get? d = some q := let ⟨q, _, _, hq, _⟩ := dd'; ⟨q, hq⟩
  refine ⟨upd H d (DN X.prog X.w d (putN xs k b v)), d_write I (by rw [e]; exact True.intro) hs he (dn_ok h1 hl2 (r.put k b rv) dd'), q _ ⟨putN xs k b v, upd_same, fun x hx2 => ?_, (KN_put xs k b v).symm⟩⟩
  have mo : ∀ a zs, SqT X.K H a zs → SqT X.K (upd H d (DN X.prog X.w d (putN xs k b v))) a zs := fun a zs h => SqT_updE h e
  rcases putN_mem hx2 with ⟨y, hy, e1, e2⟩ | ⟨e1, e2⟩
  · rw [e1, e2]
    exact ⟨NkAt.mono mo _ _ (hx y hy).1, (hx y hy).2⟩
  · rw [e1, e2]
    exact ⟨NkAt.mono mo _ _ hb, hd8⟩
theorem ix_dN (K : PySem.W.Frag) (hu : X.A.units + 9 < cLine) (hp : X.prog = P := by rfl) (hw : X.w = w := by rfl) (hk : X.K = K := by rfl) : IxR X (rIxDN P w K) := by
  subst hp hw hk
  intro value slice pins s σ H x y v u Q I rx ry h hs
  obtain ⟨d, b, kvs, k, z, rfl, rfl, ⟨xs, e, hx, rfl⟩, hb, hd8, hv, q⟩ := h
  obtain rfl : v = Value.ref d := rx
  obtain rfl : u = Value.ref b := ry
  obtain ⟨h1, h2, ys, r, dd⟩ := dat_of I e hx
  obtain ⟨w', hw, rw'⟩ := RelO.some_of (v := z) (o := (atKey ys k).map (·.2)) (by rw [← hv]; exact r.val k)
  obtain ⟨p, hp, hp2⟩ := Option.map_eq_some_iff.mp hw
  refine tail_any (ops := [.ref d, .ref b]) dd.typeIs PySem.F.slot_dict_getitem.lookup ?_ hs
  refine wpAny_getItem_heap (nroom hu) (show (nestedKind X.prog X.w).is s.heap k b from ⟨nk_is I k _ _ hb rfl, hd8⟩) dd hp ?_
  rw [hp2]
  exact ⟨z, H, I.tok _, rw', q⟩
theorem pe_bmN {name : Str} {id : String} {r : V → List V → Hp → VK → Prop} {o e : Expr} {es : List Expr} {to : TE} {t : TA} {apos cpos : Pos} (slot : Slot "dict" name id) (hty : typeOf (.builtin id) = pure (.type "method_descriptor")) (hm : MtR X id r) (ho : PE X o to) (ha : PA X (e :: es) t)
    (hp : X.prog = P := by rfl) (hw : X.w = w := by rfl)
    (hbase : attributeBase o name X.env (eval o X.env) = eval o X.env := by rfl)
    (hfew : ((backTo cpos (starEach (e :: es) X.env)).all (fun x => !x.1) && (backToKw cpos (keywordEach [] X.env)).all (fun x => x.1.isSome)
      && decide ((e :: es).length + ([] : List Keyword).length + (if ([] : List Keyword).isEmpty then 0 else 1) < 30)) = true := by rfl)
    (hline : (apos.endLine == cpos.line) = true := by rfl) (hs : starEach (e :: es) X.env = (false, eval e X.env) :: starEach es X.env := by rfl) (hplain : (backTo cpos (starEach es X.env)).any (·.1) = false := by rfl) :
    PE X (.Call (.Attribute o name apos) (e :: es) [] cpos) (tBMN P w r to t) := by
  subst hp hw
  refine ⟨fun pins s σ H Q I h => ?_⟩
  refine wpAny_Call_method_late hbase hfew hline rfl (thn (ho.run pins s σ H _ I h) fun v s1 ⟨x, H1, I1, r1, ⟨a, xs, ex, ea⟩, q1⟩ => ?_)
  subst ex
  obtain rfl : v = Value.ref a := r1
  obtain ⟨_, _, ys, _, oo, _, _, e1, e2, _⟩ := (I1.hok a _ ea).1
  refine ⟨"dict", id, PySem.F.plainAttrs_dict, slot, hty, ⟨oo, e1, e2.1⟩, fun b q => ?_, ?_⟩
  · cases q
    exact ⟨oo, e1, e2.2.1⟩
  have hA := ha.run cpos pins s1 σ H1 _ I1 q1
  rw [hs] at hA ⊢
  refine Calls.callWith_builtin (by show (false || (backTo cpos (starEach es X.env)).any (·.1)) = false; rw [hplain] <;> rfl) (Calls.evalArgs_plain ?_)
  exact thn hA fun us s2 ⟨vs, H2, I2, r2, q2⟩ => hm pins s2 σ H2 (.ref a) vs (.ref a) us Q I2 rfl r2 q2
end
/-! counting -/
def cntV : Option V → Int
  | some (.int i) => i
  | _ => 0
def tallyN (ks : List NestedKey) : List (NestedKey × V) := ks.foldl (fun acc k => putK acc k (.int (cntV (valV acc k) + 1))) []
theorem tally_snoc (ks : List NestedKey) (k : NestedKey) : tallyN (ks ++ [k]) = putK (tallyN ks) k (.int (cntV (valV (tallyN ks) k) + 1)) := by
  unfold tallyN
  rw [List.foldl_append]
  rfl
theorem tally_val : ∀ (n : Nat) (ks : List NestedKey), ks.length = n → ∀ k, valV (tallyN ks) k = if ks.count k = 0 then none else some (.int (ks.count k : Nat))
  | 0, ks, h, k => by
    rw [List.length_eq_zero_iff.mp h]
    rfl
  | n + 1, ks, h, k => by
    obtain ⟨l, x, rfl⟩ : ∃ l x, ks = l ++ [x] := ⟨ks.dropLast, ks.getLast (fun e => by rw [e] at h; cases h), (List.dropLast_concat_getLast _).symm⟩
    have hl : l.length = n := by
      rw [List.length_append] at h
      have : [x].length = 1 := rfl
      omega
    have ih := tally_val n l hl
    rw [tally_snoc]
    have ec : (l ++ [x]).count k = l.count k + if x = k then 1 else 0 := by
      rw [List.count_append, List.count_singleton]
      by_cases e : x = k
      · rw [if_pos e, if_pos (beq_iff_eq.mpr e)]
      · rw [if_neg e, if_neg (fun z => e (beq_iff_eq.mp z))]
    rw [valV_put]
    by_cases e : x = k
    · subst e
      rw [if_pos rfl, ec, if_pos rfl, if_neg (by omega), ih x]
      by_cases c : l.count x = 0
      · rw [if_pos c, c]
        rfl
      · rw [if_neg c]
        rfl
    · rw [if_neg (fun z => e z.symm), ec, if_neg e, Nat.add_zero]
      exact ih k
end Ef
set_option maxHeartbeats 4000000
namespace Ef
open PySem PySem.Spec PyProof.Rows L2
open PySem.W (dataLe AllAlike Sortable EachIs list_sort_data)
/-! ### such a dict, sorted; its values; its size -/
mutual
theorem nk_dp {K : PySem.W.Frag} {H : Hp} : ∀ (k : NestedKey) (v : V), NkAt K H k v → Dp K H v k.data
  | .none, _, h => by cases h
  | .num i, _, h => by
    cases h
    exact .int i
  | .text x, _, h => by cases h
  | .tup ks, _, h => by
    cases h with
    | tup h1 h2 => exact .tup h1 (nk_dpAll ks _ h2)
theorem nk_dpAll {K : PySem.W.Frag} {H : Hp} : ∀ (ks : List NestedKey) (vs : List V), NkAll K H ks vs → DpAll K H vs (NestedKey.datas ks)
  | [], _, h => by
    cases h
    exact .nil
  | k :: ks, _, h => by
    cases h with
    | cons h1 h2 => exact .cons (nk_dp k _ h1) (nk_dpAll ks _ h2)
end
section
variable {X : Cx} {pins : List (Addr × Obj)} {σ : L2.St} {H : Hp} {s : Shared}
mutual
theorem nk_reads (I : Inv X pins σ H s) : ∀ (k : NestedKey) (v : V) (u : Value), NkAt X.K H k v → RelV v u → Reads s.heap u k.data []
  | .none, _, _, h, _ => by cases h
  | .num i, _, u, h, r => by
    cases h
    obtain ⟨t, rfl⟩ := (show ∃ t, u = Value.int i t from r)
    exact .int i t
  | .text x, _, _, h, _ => by cases h
  | .tup ks, _, u, h, r => by
    cases h with
    | @tup a xs _ h1 h2 =>
      obtain rfl : u = Value.ref a := r
      obtain ⟨its, rv, ⟨o, ho, hc, n, hd⟩, _⟩ := I.tuple h1
      exact .tuple ho hc hd (by simpa using nk_readsAll I ks _ _ h2 rv)
theorem nk_readsAll (I : Inv X pins σ H s) : ∀ (ks : List NestedKey) (vs : List V) (us : List Value), NkAll X.K H ks vs → Vals vs us → ReadsAll s.heap us (NestedKey.datas ks) []
  | [], _, _, h, r => by
    cases h
    cases r
    exact .nil
  | k :: ks, _, _, h, r => by
    cases h with
    | cons h1 h2 =>
      cases r with
      | cons r1 r2 => exact .cons (nk_reads I k _ _ h1 r1) (nk_readsAll I ks _ _ h2 r2)
end
end
def nLe : NestedKey → NestedKey → Bool := dataLe false NestedKey.data
def rSortN (P : Program) (w : World) (K : PySem.W.Frag) : List V → Hp → VK → Prop := fun vs H Q => ∃ (d : Addr) (kvs : List (NestedKey × V)), vs = [V.ref d] ∧ DAt P w K H d kvs ∧ AllAlike ((kvs.map (·.1)).map NestedKey.data) ∧ Sortable ((kvs.map (·.1)).map NestedKey.data) ∧ (∀ k ∈ kvs.map (·.1), k.data.depth ≤ 20) ∧
  ∀ p us, H p = none → PySem.Paired (fun v k => NkAt K H k v) us ((kvs.map (·.1)).mergeSort nLe) → Q (.ref p) (upd H p (.lst us))
theorem drel_keys {acc : List Value} {xs : List (NestedKey × Addr × V)} {ys : List (NestedKey × Addr × Value)} (r : DRel xs ys) : ys.map (fun y => Value.ref y.2.1) = xs.map fun x => Value.ref x.2.1 := by
  induction r with
  | nil => rfl
  | cons h _ ih => rw [List.map_cons, List.map_cons, ih, h.2.1]
theorem each_refs {xs : List (NestedKey × Addr × V)} : EachIs (fun u (b : NestedKey × V) => RelV b.2 u) (xs.map fun x => Value.ref x.2.1) (xs.map fun x => (x.1, V.ref x.2.1)) := by
  induction xs with
  | nil => exact .nil
  | cons x r ih => exact .cons rfl ih
theorem each_read {X : Cx} {pins : List (Addr × Obj)} {σ : L2.St} {H : Hp} {s : Shared} {a : Addr} (I : Inv X pins σ H s) : ∀ {xs : List (NestedKey × Addr × V)}, (∀ x ∈ xs, NkAt X.K H x.1 (.ref x.2.1) ∧ x.1.depth ≤ 8) →
    EachIs (fun v (b : NestedKey × V) => ∃ as, Reads s.heap v b.1.data as ∧ a ∉ as) (xs.map fun x => Value.ref x.2.1) (xs.map fun x => (x.1, V.ref x.2.1))
  | [], _ => .nil
  | x :: xs, h => .cons ⟨[], nk_reads I _ _ _ (h x List.mem_cons_self).1 rfl, List.not_mem_nil⟩ (each_read I fun y hy => h y (List.mem_cons_of_mem _ hy))
theorem each_paired {bs : List (NestedKey × V)} {out : List Value} (e : EachIs (fun u (b : NestedKey × V) => RelV b.2 u) out bs) : Vals (bs.map (·.2)) out := by
  induction e with
  | nil => exact .nil
  | cons h _ ih => exact .cons h ih
theorem nk_paired {K : PySem.W.Frag} {H : Hp} : ∀ {bs : List (NestedKey × V)}, (∀ b ∈ bs, NkAt K H b.1 b.2) → PySem.Paired (fun v k => NkAt K H k v) (bs.map (·.2)) (bs.map (·.1))
  | [], _ => .nil
  | b :: r, h => .cons (h b List.mem_cons_self) (nk_paired fun c hc => h c (List.mem_cons_of_mem _ hc))
theorem keys_acc {P : Program} {w : World} {es : Array DictEntry} {ys : List (NestedKey × Addr × Value)} {acc : Array Value} (e4 : es.toList = ys.map (entryOfKey (nestedKind P w))) (h1 : acc.size = es.size) (h2 : ∀ (i : Nat) (v : Value), acc[i]? = some v → ∃ en : DictEntry, es[i]? = some en ∧ v = en.key) :
    acc.toList = ys.map fun x => Value.ref x.2.1 := by
  have l1 : es.size = ys.length := size_of_entries e4
  have hl : acc.toList.length = ys.length := by rw [Array.length_toList, h1]; exact l1
  apply List.ext_getElem?
  intro j
  rw [List.getElem?_map]
  cases hj : acc.toList[j]? with
  | none =>
    have h1 := List.getElem?_eq_none_iff.mp hj
    rw [List.getElem?_eq_none (by omega)]
    all_goals rfl
  | some v =>
    obtain ⟨en, hen, hv⟩ := h2 j v (by rw [← Array.getElem?_toList]; exact hj)
    have qe := entry_at e4 j
    rw [hen] at qe
    cases hb : ys[j]? with
    | none =>
      rw [hb] at qe
      exact nomatch (show some en = none from qe)
    | some b =>
      rw [hb] at qe
      have e2 : en = entryOfKey (nestedKind P w) b := Option.some.inj qe
      rw [hv, e2]
      all_goals rfl
section
variable {X : Cx} {P : Program} {w : World} {K : PySem.W.Frag}
theorem cr_sortN (K : PySem.W.Frag) (hc : X.calm = true) (hu : X.A.units + 64 < cLine) (hp : X.prog = P := by rfl) (hw : X.w = w := by rfl) (hk : X.K = K := by rfl) : CallR X (.builtin "sorted") (rSortN P w K) := by
  subst hp hw hk
  intro pins s σ H vs us Q I r hq
  obtain ⟨d, kvs, rfl, ⟨xs, e, hx, rfl⟩, hal, hso, hdp, q⟩ := hq
  obtain ⟨u, rfl, ru⟩ := vals1 r
  obtain rfl : u = Value.ref d := ru
  obtain ⟨h1, h2, ys, rel, o, es, ep, e1, e2, e3, e4, e5⟩ := (I.hok d _ e).1
  have l1 : es.size = ys.length := size_of_entries e4
  have l2 : xs.length = ys.length := PySem.Paired.length rel
  have ek : (KN xs).map (·.1) = (xs.map fun x => (x.1, V.ref x.2.1)).map (·.1) := by
    rw [List.map_map, List.map_map]
    rfl
  rw [ek] at hal hso hdp q
  refine Calls.call_function_entry PyProof.Rows.kind_sorted PyProof.Rows.plain_sorted PyProof.Rows.entry_sorted (PyProof.Rows.args_sorted1 _) ?_
  unfold Builtin.«sorted»
  refine wpAny_bind (m := checkCount "sorted" 1 1 _) (wpAny_pure ?_)
  refine wpAny_bind (PySem.W.kdu_collect (A := X.A.in1) (kdl_raw h1 e2 e3) (I.ok.hd hc) e1 (by omega) fun h' tk acc hk' hacc => ?_)
  have ea := (keys_acc e4 hacc.1 hacc.2).trans (drel_keys (acc := []) rel)
  have I1 : Inv X pins σ H { s with heap := h', toks := tk } := I.kept hk'
  rw [ea]
  refine wpAny_bind (wpAny_newList ?_ (by rw [List.length_map]; omega))
  have hoL : (h'.push (seqObj "list" (xs.map fun x => Value.ref x.2.1).toArray 0)).get? h'.objs.size = some (seqObj "list" (xs.map fun x => Value.ref x.2.1).toArray 0) := Heap.get?_push_size _ rfl
  show wpAny _ _ _ _ _ { s with heap := h'.push (seqObj "list" (xs.map fun x => Value.ref x.2.1).toArray 0), toks := tk }
  have I2 : Inv X pins σ H { s with heap := h'.push (seqObj "list" (xs.map fun x => Value.ref x.2.1).toArray 0), toks := tk } := I1.kept (t' := tk) fun b u e => Heap.get?_push_of_some _ e
  refine wpAny_bind (wpAny_holding (list_sort_data (s := { s with heap := h'.push (seqObj "list" (xs.map fun x => Value.ref x.2.1).toArray 0), toks := tk }) (β := NestedKey × V) (bs := xs.map fun x => (x.1, V.ref x.2.1)) (enc := fun b : NestedKey × V => b.1.data) (R := fun u (b : NestedKey × V) => RelV b.2 u) hoL each_refs (each_read I2 hx)
    (by rw [List.map_map] at hal; exact hal) (by rw [List.map_map] at hso; exact hso) (by rw [List.length_map]; omega) (fun b hb => ?_) fun out hout eo => ?_))
  · have hb2 : b.1 ∈ (xs.map fun x => (x.1, V.ref x.2.1)).map (·.1) := List.mem_map.mpr ⟨b, hb, rfl⟩
    have := hdp _ hb2
    show X.A.in1.units + 1 + _ < _
    rw [Around.in1_units]
    omega
  · obtain ⟨e', he'⟩ := PyProof.Rows.sortedHeap_at (vs := xs.map fun x => Value.ref x.2.1) (out := out.toArray) hoL
    have hv := each_paired eo
    have hlen : (((xs.map fun x => (x.1, V.ref x.2.1)).mergeSort (dataLe false fun b : NestedKey × V => b.1.data)).map (·.2)).length ≤ sizeLine := by
      rw [List.length_map, List.length_mergeSort, List.length_map]
      omega
    refine wpAny_pure ⟨_, rfl, .ref h'.objs.size, upd H h'.objs.size (.lst (((xs.map fun x => (x.1, V.ref x.2.1)).mergeSort (dataLe false fun b : NestedKey × V => b.1.data)).map (·.2))), I1.laid (t' := tk) (fun b u e => ?_) (Nat.le_refl _)
      (show ObjOk X.prog X.w _ _ _ (.lst _) from ⟨hlen, out, e', hv, he'⟩), rfl, q _ _ (I1.hok.fresh (Nat.le_refl _)) ?_⟩
    · have hb : b < h'.objs.size := Heap.lt_size e
      rw [PyProof.Rows.sortedHeap_old (Nat.ne_of_lt hb) (by rw [size_push']; exact Nat.lt_succ_of_lt hb)]
      exact Heap.get?_push_of_some _ e
    · have em : ((xs.map fun x => (x.1, V.ref x.2.1)).mergeSort (dataLe false fun b : NestedKey × V => b.1.data)).map (·.1) = ((xs.map fun x => (x.1, V.ref x.2.1)).map (·.1)).mergeSort nLe := List.map_mergeSort fun a _ b _ => rfl
      rw [← em]
      have all : ∀ b ∈ (xs.map fun x => (x.1, V.ref x.2.1)).mergeSort (dataLe false fun b : NestedKey × V => b.1.data), NkAt X.K H b.1 b.2 := fun b hb => by
        obtain ⟨x, hx2, rfl⟩ := List.mem_map.mp ((List.mergeSort_perm _ _).mem_iff.mp hb)
        exact (hx x hx2).1
      exact nk_paired all
/-- len(d) -/
def rLenN (P : Program) (w : World) (K : PySem.W.Frag) : List V → Hp → VK → Prop := fun vs H Q => ∃ (d : Addr) (kvs : List (NestedKey × V)), vs = [V.ref d] ∧ DAt P w K H d kvs ∧ Q (.int (kvs.length : Nat)) H
theorem call_lenN (K : PySem.W.Frag) (hp : X.prog = P := by rfl) (hw : X.w = w := by rfl) (hk : X.K = K := by rfl) : CallR X (.builtin "len") (rLenN P w K) := by
  subst hp hw hk
  intro pins s σ H vs us Q I r hq
  obtain ⟨d, kvs, rfl, ⟨xs, e, hx, rfl⟩, q⟩ := hq
  obtain ⟨u, rfl, ru⟩ := vals1 r
  obtain rfl : u = Value.ref d := ru
  obtain ⟨h1, h2, ys, rel, dd⟩ := dat_of I e hx
  have l2 : xs.length = ys.length := PySem.Paired.length rel
  refine call_len_dictH h1 dd (by rw [sizeLine_eq] at h2; omega) ?_
  refine ⟨.int ((KN xs).length : Nat), H, I.tok _, ⟨s.toks + 1, ?_⟩, q⟩
  unfold KN
  rw [List.length_map, l2]
/-- d.values() -/
def tValsN (P : Program) (w : World) (to : TE) : TE := fun σ H Q => to σ H fun x H1 => ∃ a xs, x = .ref a ∧ H1 a = some (DN P w a xs) ∧ ∀ p, H1 p = none → Q (.ref p) (upd H1 p (viewO "dict_values" p a))
theorem pe_valsN {o : Expr} {to : TE} {apos cpos : Pos} (ho : PE X o to) (hp : X.prog = P := by rfl) (hw : X.w = w := by rfl) (hbase : attributeBase o "values" X.env (eval o X.env) = eval o X.env := by rfl) (hline : (apos.endLine == cpos.line) = true := by rfl) :
    PE X (.Call (.Attribute o "values" apos) [] [] cpos) (tValsN P w to) := by
  subst hp hw
  refine ⟨fun pins s σ H Q I h => ?_⟩
  refine wpAny_Call_method0_late hbase hline (thn (ho.run pins s σ H _ I h) fun v s1 ⟨x, H1, I1, r1, a, xs, ex, ea, q1⟩ => ?_)
  subst ex
  obtain rfl : v = Value.ref a := r1
  obtain ⟨h1, _, ys, _, oo, es, ep, e1, e2, e3, _⟩ := (I1.hok a _ ea).1
  refine ⟨"dict", "dict.values", PySem.F.plainAttrs_dict, PySem.F.slot_dict_values, PySem.F.type_dict_values, ⟨oo, e1, e2.1⟩, fun b q => ?_, Calls.callWith_builtin rfl (PySem.evalArgs_none ?_)⟩
  · cases q
    exact ⟨oo, e1, e2.2.1⟩
  refine call_meetsIn PySem.F.slot_dict_values ⟨oo, e1, e2.1⟩ PySem.F.entry_dict_values (PySem.F.args_dict_values_1 _) (meets_dict_values_raw a h1) ⟨⟨es, ep, oo, e1, e2, e3⟩, ?_⟩
  exact ⟨.ref s1.heap.objs.size, _, I1.laid (t' := s1.toks) (fun b o q => Heap.get?_push_of_some _ q) (Nat.le_refl _) (viewO_ok (Heap.get?_push_size _ rfl)), rfl, q1 _ (I1.hok.fresh (Nat.le_refl _))⟩
/-- the values as entries -/
theorem vals_ent {es : Array DictEntry} {ys : List (NestedKey × Addr × Value)} {xs : List (NestedKey × Addr × V)} {ns : List Int} (e4 : es.toList = ys.map (entryOfKey (nestedKind P w))) (rel : DRel xs ys) (hns : (KN xs).map (·.2) = ns.map V.int) : es.size = ns.length ∧ ∀ (i : Nat) (e : DictEntry), es[i]? = some e → ∃ t, e.val = .int (ns.getD i 0) t := by
  have l1 : es.size = ys.length := size_of_entries e4
  have l2 : xs.length = ys.length := PySem.Paired.length rel
  have l3 : xs.length = ns.length := by
    have e := congrArg List.length hns
    rw [List.length_map, List.length_map, List.length_map] at e
    exact e
  refine ⟨by omega, fun i e he => ?_⟩
  have qe := entry_at e4 i
  rw [he] at qe
  cases hb : ys[i]? with
  | none =>
    rw [hb] at qe
    exact nomatch (show some e = none from qe)
  | some b =>
    rw [hb] at qe
    have e2 : e = entryOfKey (nestedKind P w) b := Option.some.inj qe
    have hi : i < ys.length := (List.getElem?_eq_some_iff.mp hb).1
    have hx : xs[i]? = some xs[i] := List.getElem?_eq_getElem (by omega)
    rcases paired_at rel i with ⟨z, _⟩ | ⟨x, y, z1, z2, z3⟩
    · rw [hx] at z
      cases z
    · rw [hb] at z2
      obtain rfl := Option.some.inj z2
      have z4 : ((KN xs).map (·.2))[i]? = some x.2.2 := by
        unfold KN
        rw [List.map_map, List.getElem?_map, z1]
        rfl
      rw [hns, List.getElem?_map] at z4
      obtain ⟨j, hj, ej⟩ := Option.map_eq_some_iff.mp z4
      have r3 := z3.2.2
      rw [← ej] at r3
      obtain ⟨t, et⟩ := (show ∃ t, b.2.2 = Value.int j t from r3)
      refine ⟨t, ?_⟩
      rw [e2]
      show b.2.2 = _
      rw [et, List.getD_eq_getElem?_getD, hj]
      rfl
def rMaxN (P : Program) (w : World) (K : PySem.W.Frag) : List V → Hp → VK → Prop := fun xs H Q => ∃ (p a : Addr) (kvs : List (NestedKey × V)) (ns : List Int), xs = [.ref p] ∧ H p = some (viewO "dict_values" p a) ∧ DAt P w K H a kvs ∧ kvs.map (·.2) = ns.map V.int ∧ 0 < ns.length ∧ ∀ m, m ∈ ns → (∀ y, y ∈ ns → y ≤ m) → Q (.int m) H
def rMinN (P : Program) (w : World) (K : PySem.W.Frag) : List V → Hp → VK → Prop := fun xs H Q => ∃ (p a : Addr) (kvs : List (NestedKey × V)) (ns : List Int), xs = [.ref p] ∧ H p = some (viewO "dict_values" p a) ∧ DAt P w K H a kvs ∧ kvs.map (·.2) = ns.map V.int ∧ 0 < ns.length ∧ ∀ m, m ∈ ns → (∀ y, y ∈ ns → m ≤ y) → Q (.int m) H
def rSumN (P : Program) (w : World) (K : PySem.W.Frag) : List V → Hp → VK → Prop := fun xs H Q => ∃ (p a : Addr) (kvs : List (NestedKey × V)) (ns : List Int), xs = [.ref p] ∧ H p = some (viewO "dict_values" p a) ∧ DAt P w K H a kvs ∧ kvs.map (·.2) = ns.map V.int ∧ Q (.int ns.sum) H
theorem cr_maxN (K : PySem.W.Frag) (hc : X.calm = true) (hp : X.prog = P := by rfl) (hw : X.w = w := by rfl) (hk : X.K = K := by rfl) : CallR X (.builtin "max") (rMaxN P w K) := by
  subst hp hw hk
  intro pins s σ H xs us Q I rx h
  obtain ⟨p, a, kvs, ns, rfl, hpp, ⟨xs, e, hx, rfl⟩, hns, hne, q⟩ := h
  obtain ⟨u, rfl, ru⟩ := vals1 rx
  obtain rfl : u = Value.ref p := ru
  obtain ⟨h1, h2, ys, rel, o, es, ep, e1, e2, e3, e4, e5⟩ := (I.hok a _ e).1
  obtain ⟨hsz, hP⟩ := vals_ent e4 rel hns
  have hv : s.heap.get? p = some (DSub.viewOb "dict_values" a) := (show ObjOk X.prog X.w H s.heap p (viewO "dict_values" p a) from I.hok p _ hpp).1
  refine call_max_walk ?_
  refine DSub.iter_vals hv e1 e3 ?_
  have ha : a < s.heap.objs.size := Heap.lt_size e1
  refine ⟨s.heap.objs.size, [s.heap.objs.size, a], [s.heap.objs.size], es.size, fun i v => ∃ t, v = .int (ns.getD i 0) t, _, fun i j => decide (ns.getD i 0 > ns.getD j 0), rfl, DSub.walksVal (a := a) (show X.A.in1.handled = none from I.ok.hd hc) (Nat.ne_of_lt ha) e3 hP, ⟨Heap.get?_push_size _ rfl, Heap.get?_push_of_some _ e1⟩, fun b hb => ?_, by omega, CmpOf.ints_gt (fun i => ns.getD i 0) (fun i v z => z), fun v h' tk hv' hk => ?_⟩
  · show b < (s.heap.push _).objs.size
    rw [size_push']
    rcases List.mem_cons.mp hb with z | z
    · rw [z]
      exact Nat.lt_succ_self _
    · rw [List.mem_singleton.mp z]
      exact Nat.lt_succ_of_lt ha
  · obtain ⟨t, rfl⟩ := hv'
    obtain ⟨m1', m2'⟩ := argBest_gt (fun i => ns.getD i 0) (es.size - 1)
    have m1 : argBest (fun i j => decide (ns.getD i 0 > ns.getD j 0)) (es.size - 1) ≤ es.size - 1 := m1'
    have m2 : ∀ j, j ≤ es.size - 1 → ns.getD j 0 ≤ ns.getD (argBest (fun i j => decide (ns.getD i 0 > ns.getD j 0)) (es.size - 1)) 0 := m2'
    have hk2 : ∀ b o, s.heap.get? b = some o → h'.get? b = some o := fun b o e => hk b o (fun z => by rw [List.mem_singleton.mp z] at e; exact absurd (Heap.lt_size e) (Nat.lt_irrefl _)) (Heap.get?_push_of_some _ e)
    refine ⟨.int _, H, I.kept (t' := tk) hk2, ⟨t, rfl⟩, q _ (PySem.getD_mem (by omega)) fun y hy => ?_⟩
    obtain ⟨j, hj, e⟩ := List.mem_iff_getElem.mp hy
    have z := m2 j (by omega)
    have e3 : ns.getD j 0 = y := by rw [List.getD_eq_getElem?_getD, List.getElem?_eq_getElem hj, ← e] <;> rfl
    rw [e3] at z
    exact z
theorem cr_minN (K : PySem.W.Frag) (hc : X.calm = true) (hp : X.prog = P := by rfl) (hw : X.w = w := by rfl) (hk : X.K = K := by rfl) : CallR X (.builtin "min") (rMinN P w K) := by
  subst hp hw hk
  intro pins s σ H xs us Q I rx h
  obtain ⟨p, a, kvs, ns, rfl, hpp, ⟨xs, e, hx, rfl⟩, hns, hne, q⟩ := h
  obtain ⟨u, rfl, ru⟩ := vals1 rx
  obtain rfl : u = Value.ref p := ru
  obtain ⟨h1, h2, ys, rel, o, es, ep, e1, e2, e3, e4, e5⟩ := (I.hok a _ e).1
  obtain ⟨hsz, hP⟩ := vals_ent e4 rel hns
  have hv : s.heap.get? p = some (DSub.viewOb "dict_values" a) := (show ObjOk X.prog X.w H s.heap p (viewO "dict_values" p a) from I.hok p _ hpp).1
  refine call_min_walk ?_
  refine DSub.iter_vals hv e1 e3 ?_
  have ha : a < s.heap.objs.size := Heap.lt_size e1
  refine ⟨s.heap.objs.size, [s.heap.objs.size, a], [s.heap.objs.size], es.size, fun i v => ∃ t, v = .int (ns.getD i 0) t, _, fun i j => decide (ns.getD i 0 < ns.getD j 0), rfl, DSub.walksVal (a := a) (show X.A.in1.handled = none from I.ok.hd hc) (Nat.ne_of_lt ha) e3 hP, ⟨Heap.get?_push_size _ rfl, Heap.get?_push_of_some _ e1⟩, fun b hb => ?_, by omega, CmpOf.ints_lt (fun i => ns.getD i 0) (fun i v z => z), fun v h' tk hv' hk => ?_⟩
  · show b < (s.heap.push _).objs.size
    rw [size_push']
    rcases List.mem_cons.mp hb with z | z
    · rw [z]
      exact Nat.lt_succ_self _
    · rw [List.mem_singleton.mp z]
      exact Nat.lt_succ_of_lt ha
  · obtain ⟨t, rfl⟩ := hv'
    obtain ⟨m1', m2'⟩ := argBest_lt (fun i => ns.getD i 0) (es.size - 1)
    have m1 : argBest (fun i j => decide (ns.getD i 0 < ns.getD j 0)) (es.size - 1) ≤ es.size - 1 := m1'
    have m2 : ∀ j, j ≤ es.size - 1 → ns.getD (argBest (fun i j => decide (ns.getD i 0 < ns.getD j 0)) (es.size - 1)) 0 ≤ ns.getD j 0 := m2'
    have hk2 : ∀ b o, s.heap.get? b = some o → h'.get? b = some o := fun b o e => hk b o (fun z => by rw [List.mem_singleton.mp z] at e; exact absurd (Heap.lt_size e) (Nat.lt_irrefl _)) (Heap.get?_push_of_some _ e)
    refine ⟨.int _, H, I.kept (t' := tk) hk2, ⟨t, rfl⟩, q _ (PySem.getD_mem (by omega)) fun y hy => ?_⟩
    obtain ⟨j, hj, e⟩ := List.mem_iff_getElem.mp hy
    have z := m2 j (by omega)
    have e3 : ns.getD j 0 = y := by rw [List.getD_eq_getElem?_getD, List.getElem?_eq_getElem hj, ← e] <;> rfl
    rw [e3] at z
    exact z
theorem pre_sum : ∀ (ns : List Int), preSum (fun i => ns.getD i 0) ns.length = ns.sum
  | [] => rfl
  | n :: ns => by
    show preSum (fun i => (n :: ns).getD i 0) (ns.length + 1) = n + ns.sum
    rw [PySem.W.kdu_shift, ← pre_sum ns]
    rfl
theorem cr_sumN (K : PySem.W.Frag) (hc : X.calm = true) (hp : X.prog = P := by rfl) (hw : X.w = w := by rfl) (hk : X.K = K := by rfl) : CallR X (.builtin "sum") (rSumN P w K) := by
  subst hp hw hk
  intro pins s σ H xs us Q I rx h
  obtain ⟨p, a, kvs, ns, rfl, hpp, ⟨xs, e, hx, rfl⟩, hns, q⟩ := h
  obtain ⟨u, rfl, ru⟩ := vals1 rx
  obtain rfl : u = Value.ref p := ru
  obtain ⟨h1, h2, ys, rel, o, es, ep, e1, e2, e3, e4, e5⟩ := (I.hok a _ e).1
  obtain ⟨hsz, hP⟩ := vals_ent e4 rel hns
  have hv : s.heap.get? p = some (DSub.viewOb "dict_values" a) := (show ObjOk X.prog X.w H s.heap p (viewO "dict_values" p a) from I.hok p _ hpp).1
  refine call_sum_walkAnyS ?_
  refine DSub.iter_vals hv e1 e3 ?_
  have ha : a < s.heap.objs.size := Heap.lt_size e1
  refine ⟨s.heap.objs.size, [s.heap.objs.size, a], [s.heap.objs.size], _, es.size, fun i v => ∃ t, v = .int (ns.getD i 0) t, _, fun i => ns.getD i 0, rfl, (DSub.walksVal (a := a) (show X.A.in1.handled = none from I.ok.hd hc) (Nat.ne_of_lt ha) e3 hP).toS, ⟨Heap.get?_push_size _ rfl, Heap.get?_push_of_some _ e1⟩, fun b hb => ?_, fun i v z => z, fun s' t' hm => ?_⟩
  · show b < (s.heap.push _).objs.size
    rw [size_push']
    rcases List.mem_cons.mp hb with z | z
    · rw [z]
      exact Nat.lt_succ_self _
    · rw [List.mem_singleton.mp z]
      exact Nat.lt_succ_of_lt ha
  · have hk : ∀ b o, s.heap.get? b = some o → s'.heap.get? b = some o := fun b o e =>
      hm.heap b o (fun hI => absurd (Heap.lt_size e) (by rw [List.mem_singleton.mp hI]; exact Nat.lt_irrefl _)) (Heap.get?_push_of_some _ e)
    rw [Moved.eq_with hm]
    refine ⟨.int ns.sum, H, I.kept (h' := s'.heap) (t' := s'.toks) hk, ⟨t', ?_⟩, q⟩
    rw [hsz, pre_sum]
end
end Ef
set_option maxHeartbeats 4000000
namespace Ef
open PySem PySem.Spec PyProof.Rows L2
/-! ### what is counted -/
theorem valV_mem {κ : Type} [DecidableEq κ] : ∀ {kvs : List (κ × V)} {k : κ} {v : V}, (kvs.map (·.1)).Nodup → (k, v) ∈ kvs → valV kvs k = some v
  | [], _, _, _, h => absurd h List.not_mem_nil
  | p :: r, k, v, hn, h => by
    rw [List.map_cons] at hn
    obtain ⟨h1, h2⟩ := List.nodup_cons.mp hn
    by_cases e : p.1 = k
    · rw [valV_pos e]
      rcases List.mem_cons.mp h with z | z
      · rw [← z]
      · exact absurd (List.mem_map.mpr ⟨(k, v), z, rfl⟩) (by rw [← e]; exact h1)
    · rw [valV_neg e]
      rcases List.mem_cons.mp h with z | z
      · exact absurd (by rw [← z]) e
      · exact valV_mem h2 z
theorem valV_some {κ : Type} [DecidableEq κ] : ∀ {kvs : List (κ × V)} {k : κ}, (valV kvs k).isSome = true ↔ k ∈ kvs.map (·.1)
  | [], k => by
    constructor
    · intro h
      cases h
    · intro h
      exact absurd h List.not_mem_nil
  | p :: r, k => by
    rw [List.map_cons, List.mem_cons]
    by_cases e : p.1 = k
    · rw [valV_pos e]
      exact ⟨fun _ => .inl e.symm, fun _ => rfl⟩
    · rw [valV_neg e, valV_some (kvs := r)]
      exact ⟨.inr, fun h => h.resolve_left fun z => e z.symm⟩
theorem putK_keys {κ : Type} [DecidableEq κ] (kvs : List (κ × V)) (k : κ) (v : V) : (putK kvs k v).map (·.1) = if k ∈ kvs.map (·.1) then kvs.map (·.1) else kvs.map (·.1) ++ [k] := by
  unfold putK
  rw [valV_any]
  by_cases c : k ∈ kvs.map (·.1)
  · rw [if_pos c, if_pos (valV_some.mpr c), List.map_map]
    refine List.map_congr_left fun x _ => ?_
    show (if x.1 = k then (x.1, v) else x).1 = x.1
    by_cases e : x.1 = k
    · rw [if_pos e]
    · rw [if_neg e]
  · rw [if_neg c, if_neg (fun z => c (valV_some.mp z)), List.map_append]
    rfl
theorem tally_nodup : ∀ (n : Nat) (ks : List NestedKey), ks.length = n → ((tallyN ks).map (·.1)).Nodup
  | 0, ks, h => by
    rw [List.length_eq_zero_iff.mp h]
    exact List.nodup_nil
  | n + 1, ks, h => by
    obtain ⟨l, x, rfl⟩ : ∃ l x, ks = l ++ [x] := ⟨ks.dropLast, ks.getLast (fun e => by rw [e] at h; cases h), (List.dropLast_concat_getLast _).symm⟩
    have hl : l.length = n := by
      rw [List.length_append] at h
      have : [x].length = 1 := rfl
      omega
    have ih := tally_nodup n l hl
    rw [tally_snoc, putK_keys]
    split
    · exact ih
    · rename_i c
      refine List.nodup_append.mpr ⟨ih, List.nodup_cons.mpr ⟨List.not_mem_nil, List.nodup_nil⟩, fun a ha b hb e => ?_⟩
      rw [List.mem_singleton.mp hb] at e
      exact c (e ▸ ha)
theorem tally_keys (ks : List NestedKey) (k : NestedKey) : k ∈ (tallyN ks).map (·.1) ↔ k ∈ ks := by
  rw [← valV_some, tally_val _ _ rfl]
  by_cases c : ks.count k = 0
  · rw [if_pos c]
    constructor
    · intro h
      cases h
    · intro h
      exact absurd (List.count_pos_iff.mpr h) (by omega)
  · rw [if_neg c]
    exact ⟨fun _ => List.count_pos_iff.mp (by omega), fun _ => rfl⟩
/-- the pairs, by their keys -/
theorem tally_eq (ks : List NestedKey) : tallyN ks = ((tallyN ks).map (·.1)).map fun k => (k, V.int (ks.count k : Nat)) := by
  have hn := tally_nodup _ ks rfl
  have hv := tally_val _ ks rfl
  rw [List.map_map]
  conv => lhs; rw [← List.map_id (tallyN ks)]
  refine List.map_congr_left fun p hp => ?_
  have h1 := valV_mem (k := p.1) (v := p.2) hn hp
  rw [hv] at h1
  split at h1
  · cases h1
  · have h2 := Option.some.inj h1
    show p = (p.1, _)
    rw [h2]
theorem tally_snd (ks : List NestedKey) : (tallyN ks).map (·.2) = (((tallyN ks).map (·.1)).map fun k => ((ks.count k : Nat) : Int)).map V.int := by
  conv => lhs; rw [tally_eq ks]
  rw [List.map_map, List.map_map, List.map_map, List.map_map]
  rfl
theorem sum_oneG {α : Type} [DecidableEq α] {c : α} : ∀ {cs : List α}, cs.Nodup → c ∈ cs → (cs.map fun d => if c = d then 1 else 0).sum = 1
  | [], _, h => absurd h List.not_mem_nil
  | d :: cs, hn, h => by
    obtain ⟨h1, h2⟩ := List.nodup_cons.mp hn
    rw [List.map_cons, List.sum_cons]
    by_cases e : c = d
    · subst e
      have z : ∀ (l : List α), c ∉ l → (l.map fun d => if c = d then 1 else 0).sum = 0 := by
        intro l
        induction l with
        | nil => intro _; rfl
        | cons a l ih =>
          intro hh
          rw [List.map_cons, List.sum_cons, if_neg (fun z : c = a => hh (by rw [z]; exact List.mem_cons_self)), ih fun z => hh (List.mem_cons_of_mem _ z)]
      rw [if_pos rfl, z cs h1]
    · rw [if_neg e, sum_oneG h2 ((List.mem_cons.mp h).resolve_left e)]
theorem sum_addG {α : Type} (f g : α → Nat) : ∀ l : List α, (l.map fun x => f x + g x).sum = (l.map f).sum + (l.map g).sum
  | [] => rfl
  | a :: l => by
    rw [List.map_cons, List.sum_cons, List.map_cons, List.sum_cons, List.map_cons, List.sum_cons, sum_addG f g l]
    omega
theorem sum_countsG {α : Type} [DecidableEq α] {cs : List α} (hn : cs.Nodup) : ∀ {ks : List α}, (∀ k ∈ ks, k ∈ cs) → (cs.map fun c => ks.count c).sum = ks.length
  | [], _ => by
    have : ∀ l : List α, (l.map fun c => ([] : List α).count c).sum = 0 := by
      intro l
      induction l with
      | nil => rfl
      | cons a l ih => rw [List.map_cons, List.sum_cons, ih]; rfl
    exact this cs
  | k :: ks, h => by
    have e : (fun c => (k :: ks).count c) = fun c => ks.count c + if k = c then 1 else 0 := by
      funext c
      rw [List.count_cons]
      congr 1
      by_cases z : k = c
      · rw [if_pos z, if_pos (beq_iff_eq.mpr z)]
      · rw [if_neg z, if_neg (fun y => z (beq_iff_eq.mp y))]
    rw [e, sum_addG, sum_countsG hn fun x hx => h x (List.mem_cons_of_mem _ hx), sum_oneG hn (h k List.mem_cons_self)]
    rfl
theorem sum_ints {α : Type} (f : α → Nat) : ∀ l : List α, (l.map fun k => ((f k : Nat) : Int)).sum = (((l.map f).sum : Nat) : Int)
  | [] => rfl
  | a :: l => by rw [List.map_cons, List.sum_cons, List.map_cons, List.sum_cons, sum_ints f l, Int.natCast_add]
theorem tally_sum (ks : List NestedKey) : (((tallyN ks).map (·.1)).map fun k => ((ks.count k : Nat) : Int)).sum = (ks.length : Int) := by
  rw [sum_ints]
  exact congrArg Int.ofNat (sum_countsG (tally_nodup _ ks rfl) fun k hk => (tally_keys ks k).mpr hk)
/-! of keys that tell what they are made of -/
theorem map_countG {α : Type} [DecidableEq α] (f : α → NestedKey) (inj : ∀ a b, f a = f b → a = b) (ks : List α) (c : α) : (ks.map f).count (f c) = ks.count c := by
  induction ks with
  | nil => rfl
  | cons k r ih =>
    rw [List.map_cons, List.count_cons, List.count_cons, ih]
    congr 1
    by_cases e : k = c
    · rw [e, if_pos (beq_self_eq_true _), if_pos (beq_self_eq_true _)]
    · rw [if_neg (fun z => e (inj _ _ (beq_iff_eq.mp z))), if_neg (fun z => e (beq_iff_eq.mp z))]
theorem tally_getG {α : Type} [DecidableEq α] (f : α → NestedKey) (inj : ∀ a b, f a = f b → a = b) (ks : List α) (c : α) : (valV (tallyN (ks.map f)) (f c)).getD (.int 0) = .int (ks.count c : Nat) := by
  rw [tally_val _ _ rfl, map_countG f inj]
  by_cases e : ks.count c = 0
  · rw [if_pos e, e]
    rfl
  · rw [if_neg e]
    rfl
theorem tally_oneG {α : Type} [DecidableEq α] (f : α → NestedKey) (inj : ∀ a b, f a = f b → a = b) (ks : List α) (c : α) : putK (tallyN (ks.map f)) (f c) (.int ((ks.count c : Nat) + 1)) = tallyN ((ks ++ [c]).map f) := by
  rw [List.map_append]
  show _ = tallyN (ks.map f ++ [f c])
  rw [tally_snoc]
  congr 2
  congr 1
  rw [tally_val _ _ rfl, map_countG f inj]
  by_cases e : ks.count c = 0
  · rw [if_pos e, e]
    rfl
  · rw [if_neg e]
    rfl
theorem tally_lenG (ks : List NestedKey) : (tallyN ks).length ≤ ks.length := by
  unfold tallyN
  have g : ∀ (ks : List NestedKey) (acc : List (NestedKey × V)), (ks.foldl (fun acc k => putK acc k (.int (cntV (valV acc k) + 1))) acc).length ≤ acc.length + ks.length := by
    intro ks
    induction ks with
    | nil => intro acc; exact Nat.le_refl _
    | cons k r ih =>
      intro acc
      rw [List.foldl_cons]
      have h1 := ih (putK acc k (.int (cntV (valV acc k) + 1)))
      have h2 := length_putK acc k (.int (cntV (valV acc k) + 1))
      rw [List.length_cons]
      omega
  have := g ks []
  rw [List.length_nil] at this
  omega
end Ef
set_option maxHeartbeats 4000000
namespace Ef
open PySem PySem.Spec PyProof.Rows L2 PySem.W
/-! ### list(d.values()) of a dict with nested keys and integers for values -/
def rListVN (P : Program) (w : World) (K : PySem.W.Frag) : List V → Hp → VK → Prop := fun xs H Q => ∃ (p a : Addr) (kvs : List (NestedKey × V)) (ns : List Int), xs = [.ref p] ∧ H p = some (viewO "dict_values" p a) ∧ DAt P w K H a kvs ∧ kvs.map (·.2) = ns.map V.int ∧ ∀ b, H b = none → Q (.ref b) (upd H b (.lst (ns.map V.int)))
theorem vals_ints_of {ns : List Int} {us : List Value} (hl : us.length = ns.length) (h : ∀ j x, us[j]? = some x → ∃ t, x = Value.int (ns.getD j 0) t) : Vals (ns.map V.int) us := by
  induction ns generalizing us with
  | nil =>
    cases us with
    | nil => exact .nil
    | cons _ _ => cases hl
  | cons n ns ih =>
    cases us with
    | nil => cases hl
    | cons u us =>
      refine .cons ?_ (ih (by simpa using hl) fun j x hj => ?_)
      · obtain ⟨t, e⟩ := h 0 u rfl
        exact ⟨t, e⟩
      · obtain ⟨t, e⟩ := h (j + 1) x hj
        exact ⟨t, by simpa using e⟩
section
variable {P : Program} {w : World} {X : Cx}
theorem src_vals {prog : Program} {w : World} {p a : Addr} {es : Array DictEntry} {ep : Nat} {ob : Obj} {F : Nat → Value → Prop} (hdd : ob.data = .dict es ep) (hP : ∀ (i : Nat) (e : DictEntry), es[i]? = some e → F i e.val) :
    KdlSrc prog w "dict_values" p a es.size F (fun h => h.get? p = some (DSub.viewOb "dict_values" a) ∧ h.get? a = some ob) where
  type := fun s ok => ⟨_, ok.1, rfl⟩
  there := fun h ok => ⟨Heap.lt_size ok.1, Heap.lt_size ok.2⟩
  keep := fun h h' ok hk => ⟨hk p (.inl rfl) _ ok.1, hk a (.inr rfl) _ ok.2⟩
  notList := by decide
  notTuple := by decide
  hint := fun _ _ s _ ok hq => kdl_hint_values ⟨_, ok.1, rfl⟩ hq
  iter := fun A s hh ok => ⟨_, _, (fun _ _ hq => DSub.iter_vals ok.1 ok.2 hdd hq), DSub.walksVal (a := a) hh (Nat.ne_of_lt (Heap.lt_size ok.2)) hdd hP, ⟨Heap.get?_push_size _ rfl, Heap.get?_push_of_some _ ok.2⟩⟩
theorem cr_listVN (K : PySem.W.Frag) (hc : X.calm = true) (hp : X.prog = P := by rfl) (hw : X.w = w := by rfl) (hk : X.K = K := by rfl) : CallR X (.type "list") (rListVN P w K) := by
  subst hp hw hk
  intro pins s σ H xs us Q I rx h
  obtain ⟨p, a, kvs, ns, rfl, hpp, ⟨xs, e, hx, rfl⟩, hns, q⟩ := h
  obtain ⟨u, rfl, ru⟩ := vals1 rx
  obtain rfl : u = Value.ref p := ru
  obtain ⟨h1, h2, ys, rel, o, es, ep, e1, e2, e3, e4, e5⟩ := (I.hok a _ e).1
  obtain ⟨hsz, hP⟩ := vals_ent e4 rel hns
  have hv : s.heap.get? p = some (DSub.viewOb "dict_values" a) := (show ObjOk X.prog X.w H s.heap p (viewO "dict_values" p a) from I.hok p _ hpp).1
  have hlen : ns.length ≤ sizeLine := by
    have l2 : xs.length = ns.length := by
      have e := congrArg List.length hns
      rw [List.length_map, List.length_map, List.length_map] at e
      exact e
    rw [← l2]
    exact h2
  refine kdl_call (src_vals (F := fun i v => ∃ t, v = .int (ns.getD i 0) t) e3 hP) (I.ok.hd hc) ⟨hv, e1⟩ (by rw [hsz]; exact hlen) fun h' tk acc' c' hk hg hi => ?_
  have rv : Vals (ns.map V.int) acc'.toList := by
    obtain ⟨i1, i2⟩ := hi
    refine vals_ints_of ?_ ?_
    · rw [Array.length_toList, i1, hsz]
    · intro j x hj
      exact i2 j x (by rw [← Array.getElem?_toList]; exact hj)
  exact ⟨.ref s.heap.objs.size, upd H s.heap.objs.size (.lst (ns.map V.int)), I.laid (t' := tk) hk (Nat.le_refl _) (show ObjOk X.prog X.w _ _ _ (.lst (ns.map V.int)) from ⟨by rw [List.length_map]; exact hlen, acc'.toList, c', rv, hg⟩), rfl, q _ (I.hok.fresh (Nat.le_refl _))⟩
theorem cr_sortedSetK {X : Cx} (w : World) (hc : X.calm = true) (hw : X.w = w := by rfl) : CallR X (.builtin "sorted") (rSortedSet w) := by
  subst hw
  exact cr_sortedSet hc
end
end Ef
set_option maxHeartbeats 4000000
namespace Ef
open PySem PySem.Spec PyProof.Rows L2
/-! ### max(xs, default=d) of a list of ints, one at least -/
theorem foldl_max : ∀ (ns : List Int) (n : Int), (ns.foldl max n = n ∨ ns.foldl max n ∈ ns) ∧ n ≤ ns.foldl max n ∧ ∀ y ∈ ns, y ≤ ns.foldl max n
  | [], n => ⟨.inl rfl, Int.le_refl _, fun _ h => absurd h List.not_mem_nil⟩
  | k :: r, n => by
    obtain ⟨h1, h2, h3⟩ := foldl_max r (max n k)
    rw [List.foldl_cons]
    have e1 : n ≤ max n k := Int.le_max_left n k
    have e2 : k ≤ max n k := Int.le_max_right n k
    refine ⟨?_, Int.le_trans e1 h2, fun y hy => ?_⟩
    · rcases h1 with h1 | h1
      · by_cases c : n ≤ k
        · rw [h1, Int.max_eq_right c]
          exact .inr List.mem_cons_self
        · rw [h1, Int.max_eq_left (by omega)]
          exact .inl rfl
      · exact .inr (List.mem_cons_of_mem _ h1)
    · rcases List.mem_cons.mp hy with rfl | hy
      · exact Int.le_trans e2 h2
      · exact h3 y hy
theorem reads_ints {h : Heap} : ∀ {ns : List Int} {us : List Value}, Vals (ns.map V.int) us → ReadsAll h us (ns.map PyData.int) []
  | [], _, r => by
    cases r
    exact .nil
  | n :: ns, _, r => by
    rw [List.map_cons] at r
    cases r with
    | cons r1 r2 =>
      obtain ⟨t, rfl⟩ := r1
      exact .cons (.int n t) (reads_ints r2)
def rMaxDf (K : PySem.W.Frag) : List V → List V → Hp → VK → Prop := fun vs zs H Q => ∃ (a : Addr) (ns : List Int) (d : V), vs = [V.ref a] ∧ zs = [d] ∧ SqL K H a (ns.map V.int) ∧ 0 < ns.length ∧ ∀ m, m ∈ ns → (∀ y, y ∈ ns → y ≤ m) → Q (.int m) H
section
variable {X : Cx}
theorem cr_maxDf (K : PySem.W.Frag) (hc : X.calm = true) (hu : X.A.units + 64 < cLine) (hk : X.K = K := by rfl) : CallRK X (.builtin "max") ["default"] (rMaxDf K) := by
  subst hk
  intro pins s σ H vs zs us ws Q I r rz h
  obtain ⟨a, ns, d, rfl, rfl, hs, hne, q⟩ := h
  obtain ⟨u, rfl, ru⟩ := vals1 r
  obtain rfl : u = Value.ref a := ru
  obtain ⟨z, rfl, rz1⟩ := vals1 rz
  obtain ⟨its, rv, hl, _⟩ := I.list hs
  have hz : PyData.depthAll (ns.map PyData.int) = 0 := PySem.W.depth_ints ns
  show wpAny _ _ (call (.builtin "max") [.ref a] [(Str.ofString "default", z)]) _ _ s
  refine PySem.W.max_list_default (I.ok.hd hc) hl.isList (by simpa using reads_ints rv) ⟨fun x hx y hy => ?_, fun x hx => ?_⟩ (by rw [hz]; omega) (fun e => ?_) fun y ys i v h' tk bs e hv hr hk' => ?_
  · obtain ⟨i, _, rfl⟩ := List.mem_map.mp hx
    obtain ⟨j, _, rfl⟩ := List.mem_map.mp hy
    rfl
  · obtain ⟨i, _, rfl⟩ := List.mem_map.mp hx
    intro z
    cases z
  · rw [List.map_eq_nil_iff.mp e] at hne
    exact absurd hne (by decide)
  · cases ns with
    | nil => exact absurd hne (by decide)
    | cons n ns =>
      rw [List.map_cons] at e
      injection e with e1 e2
      subst e1 e2
      rw [PySem.W.maxD_ints] at hr
      cases hr
      obtain ⟨m1, m2, m3⟩ := foldl_max ns n
      refine ⟨.int (ns.foldl max n), H, I.kept (t' := tk) hk', ⟨_, rfl⟩, q _ ?_ fun y hy => ?_⟩
      · rcases m1 with m1 | m1
        · rw [m1]
          exact List.mem_cons_self
        · exact List.mem_cons_of_mem _ m1
      · rcases List.mem_cons.mp hy with rfl | hy
        · exact m2
        · exact m3 y hy
end
end Ef
set_option maxHeartbeats 4000000
namespace Ef
open PySem PySem.Spec PyProof.Rows L2
/-! ### min and max of a tuple of ints, one at least -/
theorem foldl_min : ∀ (ns : List Int) (n : Int), (ns.foldl min n = n ∨ ns.foldl min n ∈ ns) ∧ ns.foldl min n ≤ n ∧ ∀ y ∈ ns, ns.foldl min n ≤ y
  | [], n => ⟨.inl rfl, Int.le_refl _, fun _ h => absurd h List.not_mem_nil⟩
  | k :: r, n => by
    obtain ⟨h1, h2, h3⟩ := foldl_min r (min n k)
    rw [List.foldl_cons]
    have e1 : min n k ≤ n := Int.min_le_left n k
    have e2 : min n k ≤ k := Int.min_le_right n k
    refine ⟨?_, Int.le_trans h2 e1, fun y hy => ?_⟩
    · rcases h1 with h1 | h1
      · by_cases c : n ≤ k
        · rw [h1, Int.min_eq_left c]
          exact .inl rfl
        · rw [h1, Int.min_eq_right (by omega)]
          exact .inr List.mem_cons_self
      · exact .inr (List.mem_cons_of_mem _ h1)
    · rcases List.mem_cons.mp hy with rfl | hy
      · exact Int.le_trans h2 e2
      · exact h3 y hy
def rMinT (K : PySem.W.Frag) : List V → Hp → VK → Prop := fun vs H Q => ∃ (a : Addr) (ns : List Int), vs = [V.ref a] ∧ SqT K H a (ns.map V.int) ∧ 0 < ns.length ∧ ∀ m, m ∈ ns → (∀ y, y ∈ ns → m ≤ y) → Q (.int m) H
def rMaxT (K : PySem.W.Frag) : List V → Hp → VK → Prop := fun vs H Q => ∃ (a : Addr) (ns : List Int), vs = [V.ref a] ∧ SqT K H a (ns.map V.int) ∧ 0 < ns.length ∧ ∀ m, m ∈ ns → (∀ y, y ∈ ns → y ≤ m) → Q (.int m) H
theorem alike_ints {ns : List Int} : PySem.W.AlikeAll (ns.map PyData.int) := ⟨fun x hx y hy => by
    obtain ⟨i, _, rfl⟩ := List.mem_map.mp hx
    obtain ⟨j, _, rfl⟩ := List.mem_map.mp hy
    rfl, fun x hx => by
    obtain ⟨i, _, rfl⟩ := List.mem_map.mp hx
    intro z
    cases z⟩
section
variable {X : Cx}
theorem cr_minT (K : PySem.W.Frag) (hc : X.calm = true) (hu : X.A.units + 64 < cLine) (hk : X.K = K := by rfl) : CallR X (.builtin "min") (rMinT K) := by
  subst hk
  intro pins s σ H vs us Q I r h
  obtain ⟨a, ns, rfl, hs, hne, q⟩ := h
  obtain ⟨u, rfl, ru⟩ := vals1 r
  obtain rfl : u = Value.ref a := ru
  obtain ⟨its, rv, hl, _⟩ := I.tuple hs
  cases ns with
  | nil => exact absurd hne (by decide)
  | cons n ns =>
    have hz : PyData.depthAll ((n :: ns).map PyData.int) = 0 := PySem.W.depth_ints _
    rw [List.map_cons] at hz
    have rd := reads_ints (h := s.heap) rv
    rw [List.map_cons] at rd
    have al := alike_ints (ns := n :: ns)
    rw [List.map_cons] at al
    refine PySem.W.min_tuple_data (x := .int n) (xs := ns.map .int) (I.ok.hd hc) hl (by simpa using rd) al (by rw [hz]; omega) fun i v h' tk bs hv hr hk' => ?_
    rw [PySem.W.minD_ints] at hr
    cases hr
    obtain ⟨m1, m2, m3⟩ := foldl_min ns n
    refine ⟨.int (ns.foldl min n), H, I.kept (t' := tk) hk', ⟨_, rfl⟩, q _ ?_ fun y hy => ?_⟩
    · rcases m1 with m1 | m1
      · rw [m1]
        exact List.mem_cons_self
      · exact List.mem_cons_of_mem _ m1
    · rcases List.mem_cons.mp hy with rfl | hy
      · exact m2
      · exact m3 y hy
theorem cr_maxT (K : PySem.W.Frag) (hc : X.calm = true) (hu : X.A.units + 64 < cLine) (hk : X.K = K := by rfl) : CallR X (.builtin "max") (rMaxT K) := by
  subst hk
  intro pins s σ H vs us Q I r h
  obtain ⟨a, ns, rfl, hs, hne, q⟩ := h
  obtain ⟨u, rfl, ru⟩ := vals1 r
  obtain rfl : u = Value.ref a := ru
  obtain ⟨its, rv, hl, _⟩ := I.tuple hs
  cases ns with
  | nil => exact absurd hne (by decide)
  | cons n ns =>
    have hz : PyData.depthAll ((n :: ns).map PyData.int) = 0 := PySem.W.depth_ints _
    rw [List.map_cons] at hz
    have rd := reads_ints (h := s.heap) rv
    rw [List.map_cons] at rd
    have al := alike_ints (ns := n :: ns)
    rw [List.map_cons] at al
    refine PySem.W.max_tuple_data (x := .int n) (xs := ns.map .int) (I.ok.hd hc) hl (by simpa using rd) al (by rw [hz]; omega) fun i v h' tk bs hv hr hk' => ?_
    rw [PySem.W.maxD_ints] at hr
    cases hr
    obtain ⟨m1, m2, m3⟩ := foldl_max ns n
    refine ⟨.int (ns.foldl max n), H, I.kept (t' := tk) hk', ⟨_, rfl⟩, q _ ?_ fun y hy => ?_⟩
    · rcases m1 with m1 | m1
      · rw [m1]
        exact List.mem_cons_self
      · exact List.mem_cons_of_mem _ m1
    · rcases List.mem_cons.mp hy with rfl | hy
      · exact m2
      · exact m3 y hy
end
end Ef
set_option maxHeartbeats 4000000
namespace Ef
open PySem PySem.Spec PyProof.Rows L2
/-! ### set - set, of ints -/
section
variable {P : Program} {w : World} {A : Around} {E : Value → Shared → Prop} {s : Shared}
/-- the flags of a fresh set's table, turned -/
theorem setR_flags {h : Heap} {r : Addr} {o : Obj} {es : Array (Int × Value)} {ep : Nat} {t : SetTable} {S : Int → Bool} {n : Nat} {l p : Bool} (ho : h.get? r = some o) (hex : o.ExactSet) (hd : o.data = .set es ep t) (g : ∀ e ∈ es.toList, GoodE e) (nd : (es.toList.map keyOf).Nodup) (hm : ∀ k, S k = true ↔ k ∈ es.toList.map keyOf)
    (hb : es.size < scanBound) (hf : t.fits es.size = true) (hn : es.size = n) (hr : Ris t.place.toList) (hl : w.params.followText "set-order" = true ∨ l = true) :
    SetR w (h.update r (Obj.putSet es { t with led := l, plain := p })) r S n :=
  ⟨_, es, _, _, store_at ho hd, hex, rfl, g, nd, hm, hb, hf, hn, hr, hl⟩
theorem quiet_at : ∀ (l : List Addr) {Q : Bool → Shared → Prop}, (∀ a ∈ l, ∃ S n, SetR w s.heap a S n) → Q true s → wpAny (model P w) A (setsQuiet l) Q E s := by
  intro l Q hl q
  unfold setsQuiet
  refine wpAny_bind (wpAny_forIn_list _ (fun rest (b : Option Bool × Unit) s' => b.1 = none ∧ s' = s ∧ ∀ a ∈ rest, ∃ S n, SetR w s.heap a S n) _ ?_ ?_ l _ ⟨rfl, rfl, hl⟩)
  · rintro a rest ⟨b1, b2⟩ s1 ⟨hb, rfl, hl⟩
    obtain ⟨S, n, o, es, ep, t, ho, hex, hd, g, nd, hm, hsb, hf, hn, hr, hled⟩ := hl a List.mem_cons_self
    refine wpAny_bind (wpAny_setEntries_of ho hd hf ?_)
    refine wpAny_bind (MeetsSeq2.wpAny_forIn_array _ (fun rest (b : Option Bool × Unit) s' => b.1 = none ∧ s' = s1 ∧ ∀ e ∈ rest, GoodE e) _ ?_ ?_ es _ ⟨rfl, rfl, g⟩)
    · rintro ⟨h, x⟩ rest ⟨b1, b2⟩ s2 ⟨hb, rfl, g⟩
      obtain ⟨k, tk, rfl, e2⟩ := g _ List.mem_cons_self
      exact wpAny_pure ⟨rfl, rfl, fun e he => g e (List.mem_cons_of_mem _ he)⟩
    · rintro ⟨b1, b2⟩ s2 ⟨hb, rfl, _⟩
      obtain rfl : b1 = none := hb
      exact wpAny_pure ⟨rfl, rfl, fun a ha => hl a (List.mem_cons_of_mem _ ha)⟩
  · rintro ⟨b1, b2⟩ s1 ⟨hb, rfl, _⟩
    obtain rfl : b1 = none := hb
    exact wpAny_pure q
/-- all elements of a set, in an order -/
theorem setWalk_at {a : Addr} {o : Obj} {es : Array (Int × Value)} {ep : Nat} {t : SetTable} {Q : Array (Int × Value) → Shared → Prop} (ho : s.heap.get? a = some o) (hd : o.data = .set es ep t) (hf : t.fits es.size = true) (hl : w.params.followText "set-order" = true ∨ t.led = true)
    (h : ∀ (es' : Array (Int × Value)) d, es'.toList.Perm es.toList → Q es' { s with drawn := d }) : wpAny (model P w) A (setWalk a) Q E s := by
  unfold setWalk
  refine wpAny_bind (wpAny_setState_of ho hd hf ?_)
  dsimp only
  refine wpAny_bind (wpAny_byText ?_)
  cases hb : w.params.followText "set-order" with
  | true =>
    refine wp_if_pos rfl ?_
    exact wpAny_bind (wpAny_askSetting (wpAny_pure (h _ s.drawn (pick_perm _ _))))
  | false =>
    refine wp_if_neg (by simp) ?_
    try refine wpAny_bind (wpAny_pure ?_)
    have hl2 : t.led = true := hl.resolve_left (by rw [hb]; exact Bool.false_ne_true)
    by_cases hdr : (!t.plain && decide (es.size > 1)) = true
    · refine wp_if_pos hdr ?_
      exact wpAny_bind (drawOrder_at _ _ _ _ (Nat.le_of_eq Array.length_toList) fun ys d hp => wpAny_pure (h _ d (by simpa using hp)))
    · refine wp_if_neg hdr ?_
      try refine wpAny_bind (wpAny_pure ?_)
      refine wpAny_bind (wpAny_of_eq (a := ()) ?_ ?_)
      · show (if (!t.led && decide (es.size > 1)) = true then unsupported "set:maker-not-led" else pure ()) = pure ()
        rw [hl2]
        rfl
      · exact wpAny_pure (h es s.drawn (List.Perm.refl _))
theorem walkU_at {a q r : Addr} {o : Obj} {es : Array (Int × Value)} {ep : Nat} {t : SetTable} {S3 : Int → Bool} {n3 : Nat} {Q : Array (Int × Value) → Shared → Prop} (ho : s.heap.get? a = some o) (hd : o.data = .set es ep t) (hf : t.fits es.size = true) (hl : w.params.followText "set-order" = true ∨ t.led = true)
    (hq : ∀ b ∈ [a, q, r], ∃ S n, SetR w s.heap b S n) (R3 : SetR w s.heap r S3 n3)
    (h : ∀ (es' : Array (Int × Value)) h' d, es'.toList.Perm es.toList → Heap.SameBut r s.heap h' → SetR w h' r S3 n3 → Q es' { s with heap := h', drawn := d }) : wpAny (model P w) A (setWalkUnseen a [q, r] (some r)) Q E s := by
  unfold setWalkUnseen
  have walk : wpAny (model P w) A (setWalk a) Q E s := setWalk_at ho hd hf hl fun es' d hp => h es' s.heap d hp (Heap.SameBut.refl r s.heap) R3
  refine wpAny_bind (wpAny_setState_of ho hd hf ?_)
  dsimp only
  refine wpAny_bind (wpAny_byText ?_)
  by_cases hc : (w.params.followText "set-order" || (t.led && t.plain) || decide (es.size ≤ 1)) = true
  · refine wp_if_pos hc ?_
    first | exact walk | exact wpAny_bind walk
  · refine wp_if_neg hc ?_
    try refine wpAny_bind (wpAny_pure ?_)
    have hbt : w.params.followText "set-order" = false := by
      cases hb : w.params.followText "set-order" with
      | false => rfl
      | true => rw [hb] at hc; exact absurd rfl hc
    have hl2 : t.led = true := hl.resolve_left (by rw [hbt]; exact Bool.false_ne_true)
    refine wpAny_bind (quiet_at _ hq ?_)
    refine wp_if_neg (by simp) ?_
    try refine wpAny_bind (wpAny_pure ?_)
    refine wpAny_bind (wpAny_rule ?_)
    obtain ⟨o3, es3, ep3, t3, ho3, hex3, hd3, g3, nd3, hm3, hb3, hf3, hn3, hr3, hl3⟩ := R3
    refine wpAny_bind (wpAny_setState_of ho3 hd3 hf3 ?_)
    dsimp only
    by_cases hw : ((t3.led && !t.led) || (t3.plain && !t.plain)) = true
    · refine wp_if_pos hw ?_
      refine wpAny_bind (wpAny_storeSet_of ho3 hd3 ?_ (fits_of_scanBound hb3))
      refine wpAny_pure (h es _ s.drawn (List.Perm.refl _) (Heap.SameBut.update ..) ?_)
      refine setR_flags ho3 hex3 hd3 g3 nd3 hm3 hb3 hf3 hn3 hr3 (hl3.imp id fun z => ?_)
      rw [z, hl2]
      rfl
    · refine wp_if_neg hw ?_
      try refine wpAny_bind (wpAny_pure ?_)
      exact wpAny_pure (h es s.heap s.drawn (List.Perm.refl _) (Heap.SameBut.refl ..) ⟨o3, es3, ep3, t3, ho3, hex3, hd3, g3, nd3, hm3, hb3, hf3, hn3, hr3, hl3⟩)
theorem setR_type {h : Heap} {a : Addr} {S : Int → Bool} {n : Nat} (R : SetR w h a S n) (g : Array GenState) (d : Drawn) (tk : Nat) (os : OsState) : Shared.TypeIs { heap := h, gens := g, drawn := d, toks := tk, os := os } (.ref a) "set" := by
  obtain ⟨o, es, ep, t, ho, hex, _⟩ := R
  exact ⟨o, ho, hex.1⟩
theorem anySet_at {a : Addr} {S : Int → Bool} {n : Nat} {Q : Bool → Shared → Prop} (R : SetR w s.heap a S n) (h : Q true s) : wpAny (model P w) A (Builtin.Frozenset.isAnySet (.ref a)) Q E s := by
  unfold Builtin.Frozenset.isAnySet
  refine wpAny_bind (wpAny_isInstance (setR_type R _ _ _ _) sub_set_self ?_)
  exact wpAny_pure h
theorem baseOf_at {a : Addr} {S : Int → Bool} {n : Nat} {Q : Value → Shared → Prop} (R : SetR w s.heap a S n) (h : Q (.type "set") s) : wpAny (model P w) A (Builtin.Frozenset.baseOf a) Q E s := by
  unfold Builtin.Frozenset.baseOf
  refine wpAny_bind (wpAny_isInstance (setR_type R _ _ _ _) sub_set_self ?_)
  exact wpAny_pure h
theorem sizeOf_at {a : Addr} {S : Int → Bool} {n : Nat} {Q : Nat → Shared → Prop} (R : SetR w s.heap a S n) (h : Q n s) : wpAny (model P w) A (Builtin.Frozenset.sizeOf a) Q E s := by
  obtain ⟨o, es, ep, t, ho, hex, hd, g, nd, hm, hb, hf, hn, hr, hl⟩ := R
  unfold Builtin.Frozenset.sizeOf
  refine wpAny_bind (wpAny_setEntries_of ho hd hf (wpAny_pure ?_))
  rw [hn]
  exact h
theorem newSet_at {Q : Value → Shared → Prop} (h : ∀ h', (∀ b u, s.heap.get? b = some u → h'.get? b = some u) → h'.objs.size = s.heap.objs.size + 1 → SetR w h' s.heap.objs.size (fun _ => false) 0 → Q (.ref s.heap.objs.size) { s with heap := h' }) : wpAny (model P w) A (newSet (.type "set")) Q E s := by
  unfold newSet setsByText
  refine wpAny_bind (wpAny_bind (wpAny_askSetting (wpAny_pure ?_)))
  dsimp only
  simp only [newObj]
  refine wpAny_bind (wpAny_alloc (wpAny_pure (h _ (fun b u e => Heap.get?_push_of_some _ e) (Heap.size_push ..) ?_)))
  exact (setR_new_at (ns := []) (Heap.get?_push_size _ rfl)).congr fun k => by simp
theorem diff_at {a q : Addr} {S T : Int → Bool} {c e : Nat} {nm : String} {Q : Value → Shared → Prop} (Ra : SetR w s.heap a S c) (Rq : SetR w s.heap q T e) (small : c / 4 ≤ e) (room : c + 1 < scanBound)
    (h : ∀ h' d m, (∀ b u, s.heap.get? b = some u → h'.get? b = some u) → SetR w h' s.heap.objs.size (fun k => S k && !T k) m → Q (.ref s.heap.objs.size) { s with heap := h', drawn := d }) :
    wpAny (model P w) A (Builtin.Frozenset.difference nm a (.ref q)) Q E s := by
  unfold Builtin.Frozenset.difference
  dsimp only
  refine wpAny_bind (anySet_at Rq ?_)
  refine wp_if_neg (by simp) ?_
  refine wpAny_bind (m := Builtin.Frozenset.addrOf (.ref q)) (wpAny_pure ?_)
  refine wp_if_neg (by simp) ?_
  refine wp_if_pos rfl ?_
  refine wpAny_bind (sizeOf_at Rq ?_)
  refine wpAny_bind (sizeOf_at Ra ?_)
  refine wp_if_neg (by omega) ?_
  refine wpAny_bind (baseOf_at Ra ?_)
  refine wpAny_bind (newSet_at fun h1 k1 z1 R1 => ?_)
  generalize hr0 : s.heap.objs.size = r at R1 z1 h ⊢
  have hra : a < r := by rw [← hr0]; exact Ra.lt
  have hrq : q < r := by rw [← hr0]; exact Rq.lt
  refine wpAny_bind (m := Builtin.Frozenset.addrOf (.ref r)) (wpAny_pure ?_)
  have Ra1 := Ra.at (h' := h1) (k1 a)
  have Rq1 := Rq.at (h' := h1) (k1 q)
  obtain ⟨o, es, ep, t, ho, hex, hd, g, nd, hm, hb, hf, hn, hr, hl⟩ := id Ra1
  refine wpAny_bind (wpAny_setEpoch_of ho hd hf ?_)
  refine wpAny_bind (wpAny_holding ?_)
  refine wpAny_bind (wp_if_pos rfl ?_)
  refine walkU_at ho hd hf hl (fun b hb => ?_) R1 fun es' h2 d hp sb R2 => ?_
  · simp only [List.mem_cons, List.not_mem_nil, or_false] at hb
    rcases hb with rfl | rfl | rfl
    · exact ⟨_, _, Ra1⟩
    · exact ⟨_, _, Rq1⟩
    · exact ⟨_, _, R1⟩
  refine wpAny_bind (MeetsSeq2.wpAny_forIn_array _ (fun rest (b : PUnit) s' => ∃ h' m, s' = { s with heap := h', drawn := d } ∧ Heap.SameBut r h1 h' ∧ SetR w h' r (fun k => S k && !T k && !decide (k ∈ rest.map keyOf)) m ∧ m + rest.length ≤ c ∧ (∀ e ∈ rest, GoodE e) ∧ (rest.map keyOf).Nodup ∧ ∀ k ∈ rest.map keyOf, S k = true) _ ?_ ?_ es' _ ⟨h2, 0, rfl, sb, R2.congr fun k => ?_, ?_, ?_, ?_, ?_⟩)
  · rintro ⟨hh, x⟩ rest b s' ⟨h', m, rfl, sb, R, ml, g, nd, hS⟩
    obtain ⟨k, tk, e1, e2⟩ := g _ List.mem_cons_self
    obtain rfl : x = Value.int k tk := e1
    obtain rfl : hh = hashInt k := e2
    have kk : keyOf (hashInt k, Value.int k tk) = k := rfl
    rw [List.map_cons, kk] at nd hS R
    obtain ⟨nk, nd⟩ := List.nodup_cons.mp nd
    have hSk : S k = true := hS k List.mem_cons_self
    have ml' : m + rest.length + 1 ≤ c := ml
    have un : ∀ (h3 : Heap) {Q : Unit → Shared → Prop}, Heap.SameBut r h1 h3 → Q () { s with heap := h3, drawn := d } → wpAny (model P w) A (Builtin.Frozenset.unchanged nm a ep) Q E { s with heap := h3, drawn := d } := fun h3 Q sb3 hq => by
      unfold Builtin.Frozenset.unchanged
      refine wpAny_bind (wpAny_setEpoch_of ((sb3.2 a (Nat.ne_of_lt hra)).trans ho) hd hf ?_)
      exact wp_if_neg (by simp) (wpAny_pure hq)
    refine wpAny_bind (wpAny_holding (wp_if_pos rfl ?_))
    obtain ⟨oq, esq, epq, tq, hoq, hexq, hdq, gq, ndq, hmq, hbq, hfq, hnq, hrq', hlq⟩ := Rq1
    refine wpAny_bind (PySem.W.setFind_any (knd := intKind P w) (S := T) (k := k) (intKind_is P w k tk) rfl ((sb.2 q (Nat.ne_of_lt hrq)).trans hoq) hdq (good_elems gq) (fun j => (hmq j).trans (good_mem gq j)) hbq hfq fun rr hrr => ?_)
    refine wpAny_bind (wpAny_pure ?_)
    rw [hrr]
    cases hT : T k with
    | true =>
      refine wp_if_neg (by simp) (wpAny_pure ?_)
      refine wpAny_bind (un h' sb (wpAny_pure ⟨h', m, rfl, sb, R.congr fun j => ?_, by omega, fun e he => g e (List.mem_cons_of_mem _ he), nd, fun j hj => hS j (List.mem_cons_of_mem _ hj)⟩))
      by_cases e : j = k
      · rw [e, hT]
        simp
      · simp [e, beq_eq_false_iff_ne.mpr e]
    | false =>
      refine wp_if_pos (by simp) (wpAny_bind ?_)
      refine setR_add_hashed R (by omega) fun h3 sb3 R3 => wpAny_pure ?_
      have sb13 := sb.trans sb3
      refine wpAny_bind (un h3 sb13 (wpAny_pure ⟨h3, _, rfl, sb13, R3.congr fun j => ?_, ?_, fun e he => g e (List.mem_cons_of_mem _ he), nd, fun j hj => hS j (List.mem_cons_of_mem _ hj)⟩))
      · by_cases e : j = k
        · rw [e, hT, hSk]
          simp [nk]
        · simp [e, beq_eq_false_iff_ne.mpr e]
      · split <;> omega
  · rintro b s' ⟨h', m, rfl, sb, R, ml, g, nd, hS⟩
    refine wpAny_pure (wpAny_pure (h h' d m (fun b u e => ?_) (R.congr fun k => ?_)))
    · have := Heap.lt_size e
      rw [hr0] at this
      exact (sb.2 b (Nat.ne_of_lt this)).trans (k1 b u e)
    · simp
  · have hp2 : (es'.toList.map keyOf).Perm (es.toList.map keyOf) := hp.map _
    cases hS : S k with
    | false => rfl
    | true =>
      have : k ∈ es'.toList.map keyOf := hp2.mem_iff.mpr ((hm k).mp hS)
      simp [this]
  · rw [hp.length_eq, Array.length_toList, hn]
    omega
  · exact fun e he => g e (hp.mem_iff.mp he)
  · exact (hp.map keyOf).nodup_iff.mpr nd
  · exact fun k hk => (hm k).mpr ((hp.map keyOf).mem_iff.mp hk)
end
theorem entry_set_sub : entryFor table "set.__sub__" = some Builtin.«frozenset.__sub__» :=
  entryFor_alias (id' := "frozenset.__sub__") (by kernel_rfl) rfl (by decide +kernel) (by kernel_rfl)
def rSetSub (w : World) : R2 := fun x y H Q => ∃ (p q : Addr) (S T : Int → Bool) (c e : Nat), x = .ref p ∧ y = .ref q ∧ H p = some (SetO w p S c) ∧ H q = some (SetO w q T e) ∧ c / 4 ≤ e ∧ c ≤ 4000 ∧
  ∀ r m, H r = none → (∃ ks : List Int, ks.Nodup ∧ (∀ k, k ∈ ks ↔ (S k && !T k) = true) ∧ ks.length = m) → Q (.ref r) (upd H r (SetO w r (fun k => S k && !T k) m))
section
variable {X : Cx} {w : World}
theorem op_setSub (hw : X.w = w := by rfl) : OpR X (binaryOp .Sub) (rSetSub w) := by
  subst hw
  intro pins s σ H x y v u Q I rx ry h
  obtain ⟨p, q, S, T, c, e, rfl, rfl, hp, hq, small, room, k⟩ := h
  cases rx
  cases ry
  have Rp := setO_get I hp
  have Rq := setO_get I hq
  refine wpAny_binaryOp_same (setR_type Rp _ _ _ _) (setR_type Rq _ _ _ _) F.fills_set_sub F.slot_set_sub (wpAny_call_entry F.slot_set_sub (setR_type Rp _ _ _ _) entry_set_sub ?_ (F.args_set_sub_2 _ _))
  refine wpAny_bind (m := Builtin.Frozenset.slot1 "__sub__" _) (wpAny_of_eq (a := (.ref p, .ref q)) (by rfl) ?_)
  dsimp only
  refine wpAny_bind (wpAny_bind (anySet_at Rp ?_))
  refine anySet_at Rq ?_
  refine wp_if_neg (by simp) ?_
  refine wpAny_bind (m := Builtin.Frozenset.addrOf (.ref p)) (wpAny_pure ?_)
  refine wpAny_bind (diff_at Rp Rq small (by unfold scanBound; omega) fun h' d m kp R => ?_)
  have hn : H s.heap.objs.size = none := I.hok.fresh (Nat.le_refl _)
  refine wpAny_pure ⟨_, rfl, (fun z => nomatch z), .ref _, _, I.call (d' := d) (t' := s.toks) (ch := []) (Un.laid kp (Nat.le_refl _) hn) (I.hok.laid kp (Nat.le_refl _) (setO_new R)) I.bare (fun _ z => nomatch z), rfl, k _ m hn ?_⟩
  obtain ⟨o, es, ep, t, _, _, _, _, nd, mem, _, _, sz, _⟩ := R
  exact ⟨es.toList.map keyOf, nd, fun j => (mem j).symm, by rw [List.length_map, Array.length_toList]; exact sz⟩
end
end Ef
set_option maxHeartbeats 4000000
namespace Ef
open PySem PySem.Spec PyProof.Rows L2
/-! ### a table laid anew: small whole numbers do not collide -/
structure Own0 (m : Nat) (done : List Int) (owner : Array (Option Nat)) : Prop where
  sz : owner.size = m + 1
  at_ : ∀ j k, j ≤ m → oAt owner j = some k → ∃ h, done[k]? = some h ∧ h.toNat = j
  all : ∀ k h, done[k]? = some h → oAt owner h.toNat = some k
theorem slot_small {m : Nat} (hm : m < 2 ^ 60) {h : Int} (h0 : 0 ≤ h) (h1 : h ≤ m) : SetTable.bits h % (m + 1) = h.toNat := by
  unfold SetTable.bits
  obtain ⟨n, rfl⟩ := Int.eq_ofNat_of_zero_le h0
  have h1 : n ≤ m := by omega
  rw [Int.emod_eq_of_lt (by omega) (by have : (n : Int) < 2 ^ 60 := by omega
                                       omega)]
  rw [Int.toNat_natCast]
  exact Nat.mod_eq_of_lt (by omega)
theorem free_small {m : Nat} (hm : m < 2 ^ 60) {owner : Array (Option Nat)} {h : Int} (h0 : 0 ≤ h) (h1 : h ≤ m) (hf : oAt owner h.toNat = none) :
    SetTable.layClean.free m owner (SetTable.turns m) (SetTable.bits h % (m + 1)) (SetTable.bits h) = some h.toNat := by
  rw [slot_small hm h0 h1]
  rw [show SetTable.turns m = (m + 14) + 1 from rfl, free_succ]
  have := runEnd_ge m h.toNat
  rw [find_range _ (k := 0) (by omega) (by rw [Nat.add_zero, hf]; rfl) (fun k' hk => absurd hk (Nat.not_lt_zero _))]
  rfl
theorem fold_small {m : Nat} (hm : m < 2 ^ 60) : ∀ (rest done : List Int) (owner : Array (Option Nat)), Own0 m done owner → (∀ x ∈ rest, 0 ≤ x ∧ x ≤ m) → (∀ x ∈ done, 0 ≤ x) → (done ++ rest).Nodup →
    ∃ owner', rest.foldl (stepF m) (some (owner, done.length)) = some (owner', (done ++ rest).length) ∧ Own0 m (done ++ rest) owner'
  | [], done, owner, W, _, _, _ => ⟨owner, by rw [List.append_nil]; rfl, by rw [List.append_nil]; exact W⟩
  | h :: rest, done, owner, W, hr, hd, nd => by
    obtain ⟨h0, h1⟩ := hr h List.mem_cons_self
    have hn : h ∉ done := fun z => (List.nodup_append.mp nd).2.2 h z h List.mem_cons_self rfl
    have hf : oAt owner h.toNat = none := by
      cases e : oAt owner h.toNat with
      | none => rfl
      | some k =>
        obtain ⟨h', a, b⟩ := W.at_ h.toNat k (by omega) e
        have := hd h' (List.mem_of_getElem? a)
        exact absurd (by rw [show h = h' by omega]; exact List.mem_of_getElem? a) hn
    have W' : Own0 m (done ++ [h]) (owner.setIfInBounds h.toNat (some done.length)) := by
      refine ⟨by rw [Array.size_setIfInBounds]; exact W.sz, fun j k hj e => ?_, fun k x hx => ?_⟩
      · by_cases c : j = h.toNat
        · subst c
          rw [oAt_set_self _ (by rw [W.sz]; omega)] at e
          cases e
          exact ⟨h, by rw [List.getElem?_append_right (Nat.le_refl _), Nat.sub_self]; rfl, rfl⟩
        · rw [oAt_set_ne _ c] at e
          obtain ⟨x, a, b⟩ := W.at_ j k hj e
          exact ⟨x, by rw [List.getElem?_append_left (List.getElem?_eq_some_iff.mp a).1]; exact a, b⟩
      · by_cases c : k < done.length
        · rw [List.getElem?_append_left c] at hx
          have a := W.all k x hx
          rw [oAt_set_ne _ (fun z => by rw [z, hf] at a; cases a)]
          exact a
        · rw [List.getElem?_append_right (by omega)] at hx
          have kl : k = done.length := by
            have := (List.getElem?_eq_some_iff.mp hx).1
            rw [List.length_singleton] at this
            omega
          subst kl
          rw [Nat.sub_self] at hx
          cases hx
          exact oAt_set_self _ (by rw [W.sz]; omega)
    have ea : done ++ [h] ++ rest = done ++ h :: rest := by rw [List.append_assoc]; rfl
    have hl' : (done ++ [h]).length = done.length + 1 := by rw [List.length_append]; rfl
    obtain ⟨owner', f, W2⟩ := fold_small hm rest (done ++ [h]) _ W' (fun x hx => hr x (List.mem_cons_of_mem _ hx)) (fun x hx => (List.mem_append.mp hx).elim (hd x) fun z => by rw [List.mem_singleton.mp z]; exact h0) (by rw [ea]; exact nd)
    rw [ea, hl'] at f
    rw [ea] at W2
    refine ⟨owner', ?_, W2⟩
    rw [List.foldl_cons, stepF_some (free_small hm h0 h1 hf)]
    exact f
theorem clean_small {m : Nat} (hm : m < 2 ^ 60) {hs : Array Int} (h : ∀ x ∈ hs.toList, 0 ≤ x ∧ x ≤ m) (nd : hs.toList.Nodup) : ∃ owner, SetTable.layClean m hs = some owner ∧ Own0 m hs.toList owner := by
  obtain ⟨owner, f, W⟩ := fold_small hm hs.toList [] (Array.replicate (m + 1) none) ⟨by simp, fun j k hj e => (by rw [oAt_init hj] at e; cases e), fun k h e => (by cases e)⟩ h (by simp) nd
  rw [List.nil_append] at W
  refine ⟨owner, ?_, W⟩
  rw [layClean_eq]
  have f' : hs.toList.foldl (stepF m) (some (Array.replicate (m + 1) none, 0)) = some (owner, ([] ++ hs.toList).length) := f
  rw [f'] <;> rfl
/-- what a laying anew gives -/
def Laid (m : Nat) (hs : Array Int) (led : Bool) (t : SetTable) (order : Array Nat) : Prop := order.toList.Perm (List.range hs.size) ∧ Ris t.place.toList ∧ t.place.size = hs.size ∧ t.dummies = #[] ∧ t.mask = m ∧ t.led = led
theorem laid_own {m fi mo : Nat} {led pl : Bool} {hs : Array Int} {owner : Array (Option Nat)} (e : SetTable.layClean m hs = some owner) (sz : owner.size = m + 1) (all : ∀ k, k < hs.size → ∃ j, j ≤ m ∧ oAt owner j = some k) (ps : ∃ ps : List Nat, ps.length = hs.size ∧ ∀ j, j ≤ m → oAt owner j ≠ none → j ∈ ps) :
    ∃ t order, SetTable.laid m fi mo led pl hs = some (t, order) ∧ Laid m hs led t order := by
  have ris := ris_live (fun j => owner.getD j none) (List.range (m + 1)) (by
    unfold Ris
    first | exact List.pairwise_lt_range | exact List.pairwise_lt_range _)
  have r1 : Ris ((liveOf m owner).map (·.1)) := ris.1
  have nd : ((liveOf m owner).map (·.1)).Nodup := List.Pairwise.imp (fun h => Nat.ne_of_lt h) r1
  have hlen : (liveOf m owner).length = hs.size := by
    obtain ⟨ps, p1, p2⟩ := ps
    have a := nat_nodup_len ((liveOf m owner).map (·.1)) ps nd fun x hx => by
      obtain ⟨⟨y, k⟩, hq, rfl⟩ := List.mem_map.mp hx
      obtain ⟨b1, b2⟩ := (mem_live sz).1 hq
      exact p2 y b1 (by rw [b2]; exact fun z => nomatch z)
    have b := nat_nodup_len (List.range hs.size) ((liveOf m owner).map (·.2)) List.nodup_range fun k hk => by
      obtain ⟨j, b1, b2⟩ := all k (List.mem_range.mp hk)
      exact List.mem_map.mpr ⟨(j, k), (mem_live sz).2 ⟨b1, b2⟩, rfl⟩
    rw [List.length_map, p1] at a
    rw [List.length_map, List.length_range] at b
    omega
  refine ⟨{ mask := m, place := ((liveOf m owner).map (·.1)).toArray, dummies := #[], finger := fi, led := led, moves := mo, plain := pl }, ((liveOf m owner).map (·.2)).toArray, ?_, ?_, r1, ?_, rfl, rfl, rfl⟩
  · unfold SetTable.laid
    rw [e]
    rfl
  · refine perm_range hs.size _ (by show ((liveOf m owner).map (·.2)).length = _; rw [List.length_map]; exact hlen) fun k hk => ?_
    obtain ⟨j, b1, b2⟩ := all k hk
    exact List.mem_map.mpr ⟨(j, k), (mem_live sz).2 ⟨b1, b2⟩, rfl⟩
  · show ((liveOf m owner).map (·.1)).toArray.size = hs.size
    rw [List.size_toArray, List.length_map]
    exact hlen
theorem laid_small {m fi mo : Nat} {led pl : Bool} (hm : m < 2 ^ 60) {hs : Array Int} (h : ∀ x ∈ hs.toList, 0 ≤ x ∧ x ≤ m) (nd : hs.toList.Nodup) : ∃ t order, SetTable.laid m fi mo led pl hs = some (t, order) ∧ Laid m hs led t order := by
  obtain ⟨owner, e, W⟩ := clean_small hm h nd
  refine laid_own e W.sz (fun k hk => ?_) ⟨hs.toList.map Int.toNat, by rw [List.length_map, Array.length_toList], fun j hj hne => ?_⟩
  · have hk2 : k < hs.toList.length := by rw [Array.length_toList]; exact hk
    have e2 := List.getElem?_eq_getElem hk2
    have := h _ (List.getElem_mem hk2)
    exact ⟨_, by omega, W.all k _ e2⟩
  · cases q : oAt owner j with
    | none => exact absurd q hne
    | some k =>
      obtain ⟨x, a, b⟩ := W.at_ j k hj q
      exact List.mem_map.mpr ⟨x, List.mem_of_getElem? a, b⟩
theorem laid_mask {m fi mo : Nat} {led pl : Bool} (hm : MaskOk m) {hs : Array Int} (hn : hs.size ≤ m) : ∃ t order, SetTable.laid m fi mo led pl hs = some (t, order) ∧ Laid m hs led t order := by
  obtain ⟨owner, e, W⟩ := layClean_ok hm hn
  refine laid_own e W.sz (fun k hk => W.all k (by rw [Array.length_toList]; exact hk)) ?_
  obtain ⟨ps, p1, p2⟩ := W.ps
  exact ⟨ps, by rw [p1, Array.length_toList], p2⟩
theorem Laid.es {m : Nat} {led : Bool} {t : SetTable} {order : Array Nat} {es : Array (Int × Value)} {hs : Array Int} (hh : hs.size = es.size) (h : Laid m hs led t order) : (order.filterMap (es[·]?)).toList.Perm es.toList := by
  obtain ⟨hp, _⟩ := h
  rw [hh] at hp
  rw [Array.toList_filterMap]
  exact (hp.filterMap _).trans (by rw [filterMap_getElem?_range])
theorem hash_small : ∀ k : Nat, k < 64 → hashInt (k : Int) = (k : Int) := by decide +kernel
section
variable {P : Program} {w : World} {A : Around} {E : Value → Shared → Prop} {s : Shared}
/-- a set with what its table is known to be -/
def SetM (w : World) (h : Heap) (a : Addr) (S : Int → Bool) (n m q : Nat) : Prop :=
  ∃ o es ep t, h.get? a = some o ∧ o.ExactSet ∧ o.data = .set es ep t ∧ (∀ e ∈ es.toList, GoodE e) ∧ (es.toList.map keyOf).Nodup ∧ (∀ k, S k = true ↔ k ∈ es.toList.map keyOf) ∧
    es.size < scanBound ∧ t.fits es.size = true ∧ es.size = n ∧ Ris t.place.toList ∧ (w.params.followText "set-order" = true ∨ t.led = true) ∧ t.mask = m ∧ t.dummies.size = q
theorem SetM.r {h : Heap} {a : Addr} {S : Int → Bool} {n m q : Nat} (M : SetM w h a S n m q) : SetR w h a S n := by
  obtain ⟨o, es, ep, t, a1, a2, a3, a4, a5, a6, a7, a8, a9, b1, b2, _⟩ := M
  exact ⟨o, es, ep, t, a1, a2, a3, a4, a5, a6, a7, a8, a9, b1, b2⟩
theorem SetM.congr {h : Heap} {a : Addr} {S S' : Int → Bool} {n m q : Nat} (M : SetM w h a S n m q) (e : ∀ k, S' k = S k) : SetM w h a S' n m q := by
  have : S' = S := funext e
  rw [this]
  exact M
theorem newSetM_at {Q : Value → Shared → Prop} (h : ∀ h', (∀ b u, s.heap.get? b = some u → h'.get? b = some u) → h'.objs.size = s.heap.objs.size + 1 → SetM w h' s.heap.objs.size (fun _ => false) 0 7 0 → Q (.ref s.heap.objs.size) { s with heap := h' }) : wpAny (model P w) A (newSet (.type "set")) Q E s := by
  unfold newSet setsByText
  refine wpAny_bind (wpAny_bind (wpAny_askSetting (wpAny_pure ?_)))
  dsimp only
  simp only [newObj]
  refine wpAny_bind (wpAny_alloc (wpAny_pure (h _ (fun b u e => Heap.get?_push_of_some _ e) (Heap.size_push ..) ?_)))
  obtain ⟨o, es, ep, t, a1, a2, a3, a4, a5, a6, a7, a8, a9, b1, b2⟩ := (setR_new_at (w := w) (ns := []) (Heap.get?_push_size s.heap rfl))
  refine ⟨_, _, _, _, Heap.get?_push_size s.heap rfl, ?_, rfl, by simp, by simp, by simp, by decide, rfl, rfl, ?_, ?_, rfl, rfl⟩
  · exact ⟨rfl, rfl, rfl⟩
  · exact List.Pairwise.nil
  · show w.params.followText "set-order" = true ∨ (!w.params.followText "set-order") = true
    cases w.params.followText "set-order" <;> simp
theorem merge_at {a r : Addr} {S : Int → Bool} {c : Nat} {Q : Unit → Shared → Prop} (hne : a ≠ r) (Ra : SetR w s.heap a S c) (Rr : SetM w s.heap r (fun _ => false) 0 7 0) (c8 : 8 ≤ c) (c60 : c ≤ 60) (ks : ∀ k, S k = true → 0 ≤ k ∧ k < 60)
    (h : ∀ h' m, Heap.SameBut r s.heap h' → SetM w h' r S c m 0 → 2 * c ≤ m → Q () { s with heap := h' }) : wpAny (model P w) A (setMerge r a) Q E s := by
  obtain ⟨o, es, ep, t, ho, hex, hd, g, nd, hm, hb, hf, hn, hr, hl⟩ := Ra
  obtain ⟨o2, es2, ep2, t2, ho2, hex2, hd2, g2, nd2, hm2, hb2, hf2, hn2, hr2, hl2, mk2, dm2⟩ := Rr
  unfold setMerge
  refine wp_if_neg (by simpa using fun e => hne e.symm) ?_
  try refine wpAny_bind (wpAny_pure ?_)
  refine wpAny_bind (wpAny_setState_of ho hd hf ?_)
  dsimp only
  refine wp_if_neg (fun e => by have := Array.size_eq_zero_iff.mpr (Array.isEmpty_iff.mp e); omega) ?_
  try refine wpAny_bind (wpAny_pure ?_)
  refine wpAny_bind ?_
  unfold setRoomFor
  refine wpAny_bind (wpAny_setState_of ho2 hd2 hf2 ?_)
  dsimp only
  have e20 : es2 = #[] := Array.size_eq_zero_iff.mp hn2
  have pl2 : t2.place.size = 0 := by
    unfold SetTable.fits at hf2
    rw [Bool.and_eq_true, beq_iff_eq] at hf2
    omega
  have fl2 : t2.fill = 0 := by
    unfold SetTable.fill
    omega
  have rf : t2.roomFor es.size = some (2 * c) := by
    unfold SetTable.roomFor
    rw [if_pos (by rw [fl2, mk2]; omega), pl2]
    congr 1
    omega
  rw [rf]
  dsimp only
  -- an empty table laid anew
  obtain ⟨M, hM⟩ : ∃ M, SetTable.sizeAbove (2 * c) - 1 = M := ⟨_, rfl⟩
  have Mc : (c < 16 ∧ M = 31) ∨ (16 ≤ c ∧ c < 32 ∧ M = 63) ∨ (32 ≤ c ∧ M = 127) := by
    have key : ∀ c, c ≤ 60 → 8 ≤ c → (c < 16 ∧ SetTable.sizeAbove (2 * c) - 1 = 31) ∨ (16 ≤ c ∧ c < 32 ∧ SetTable.sizeAbove (2 * c) - 1 = 63) ∨ (32 ≤ c ∧ SetTable.sizeAbove (2 * c) - 1 = 127) := by decide +kernel
    rw [← hM]
    exact key c c60 c8
  have Ms : SetTable.sizeAbove (2 * c) ≤ 128 := by omega
  rw [setRelay_eq]
  refine wpAny_bind (wpAny_setState_of ho2 hd2 hf2 ?_)
  dsimp only
  refine wp_if_neg (by rw [sizeLine_eq]; omega) ?_
  try refine wpAny_bind (wpAny_pure ?_)
  obtain ⟨t3, order, e3, L3⟩ := laid_small (m := M) (fi := t2.finger) (mo := t2.movedTo M) (led := t2.led) (pl := t2.plain) (hs := es2.map (·.1)) (by omega) (by rw [e20]; simp) (by rw [e20]; simp)
  have er : t2.relaid (es2.map (·.1)) (2 * c) = some (t3, order) := by
    unfold SetTable.relaid
    rw [hM]
    exact e3
  rw [er]
  dsimp only
  have ee := L3.es (es := es2) (by rw [Array.size_map])
  have ee0 : order.filterMap (es2[·]?) = #[] := by
    rw [e20] at ee ⊢
    exact Array.toList_eq_nil_iff.mp (List.Perm.eq_nil ee)
  rw [ee0]
  refine wpAny_bind (wp_if_neg (by rw [e20]; simp) (wpAny_pure ?_))
  dsimp only
  refine wpAny_storeSet_of ho2 hd2 ?_ (by rw [sizeLine_eq]; decide)
  have ho3 := store_at (es' := #[]) (t' := t3) ho2 hd2
  have sb1 := Heap.SameBut.update s.heap r (Obj.putSet #[] t3)
  obtain ⟨_, lr3, lp3, ld3, lm3, ll3⟩ := L3
  have p30 : t3.place.size = 0 := by
    rw [lp3, Array.size_map]
    exact hn2
  have f30 : t3.fill = 0 := by
    unfold SetTable.fill
    rw [ld3, p30]
    rfl
  have hf3 : t3.fits (#[] : Array (Int × Value)).size = true := by
    unfold SetTable.fits
    rw [f30, p30]
    simp
  have led3 : w.params.followText "set-order" = true ∨ (t3.led && t.led) = true := by
    rw [ll3]
    rcases hl2 with z | z
    · exact .inl z
    · rcases hl with y | y
      · exact .inl y
      · exact .inr (by rw [z, y]; rfl)
  have c2M : 2 * c ≤ M := by omega
  refine wpAny_bind (wpAny_setState_of ho3 rfl hf3 ?_)
  dsimp only
  cases hro : t3.road t with
  | oneByOne =>
    exfalso
    unfold SetTable.road at hro
    rw [f30] at hro
    simp at hro
    split at hro <;> cases hro
  | slotForSlot =>
    dsimp only
    obtain ⟨e1, e2⟩ : t.mask = M ∧ t.dummies.size = 0 := by
      unfold SetTable.road at hro
      rw [f30] at hro
      simp only [bne_self_eq_false, Bool.false_eq_true, ↓reduceIte] at hro
      split at hro
      · rename_i hc
        rw [Bool.and_eq_true, beq_iff_eq] at hc
        exact ⟨by rw [← hc.1, lm3], Array.size_eq_zero_iff.mpr (Array.isEmpty_iff.mp hc.2)⟩
      · cases hro
    refine wpAny_storeSet_of ho3 rfl ?_ (by rw [sizeLine_eq]; omega)
    refine h _ M (sb1.trans (Heap.SameBut.update _ r _)) ⟨_, _, _, _, store_at ho3 rfl, hex2, rfl, g, nd, hm, hb, hf, hn, hr, led3, e1, e2⟩ c2M
  | clean =>
    dsimp only
    have keys : ∀ x ∈ (es.map (·.1)).toList, 0 ≤ x ∧ x < 60 := fun x hx => by
      rw [Array.toList_map] at hx
      obtain ⟨e, he, rfl⟩ := List.mem_map.mp hx
      obtain ⟨k, tk, q1, q2⟩ := g e he
      have hk : k ∈ es.toList.map keyOf := List.mem_map.mpr ⟨e, he, by unfold keyOf; rw [q1]⟩
      obtain ⟨k0, k1⟩ := ks k ((hm k).mpr hk)
      obtain ⟨kk, rfl⟩ := Int.eq_ofNat_of_zero_le k0
      show 0 ≤ e.1 ∧ e.1 < 60
      rw [q2, hash_small kk (by omega)]
      omega
    have ndh : (es.map (·.1)).toList.Nodup := by
      rw [Array.toList_map, show es.toList.map (·.1) = es.toList.map keyOf from List.map_congr_left fun e he => by
        obtain ⟨k, tk, q1, q2⟩ := g e he
        have hk : k ∈ es.toList.map keyOf := List.mem_map.mpr ⟨e, he, by unfold keyOf; rw [q1]⟩
        obtain ⟨k0, k1⟩ := ks k ((hm k).mpr hk)
        obtain ⟨kk, rfl⟩ := Int.eq_ofNat_of_zero_le k0
        show e.1 = keyOf e
        rw [q2, hash_small kk (by omega)]
        unfold keyOf
        rw [q1]]
      exact nd
    have hsz : (es.map (·.1)).size = c := by rw [Array.size_map]; exact hn
    obtain ⟨t4, order4, e4, L4⟩ : ∃ t4 order4, SetTable.laid t3.mask t3.finger t3.moves (t3.led && t.led) (t3.plain && t.plain) (es.map (·.1)) = some (t4, order4) ∧ Laid M (es.map (·.1)) (t3.led && t.led) t4 order4 := by
      rw [lm3]
      rcases Mc with ⟨z, rfl⟩ | ⟨z, z2, rfl⟩ | ⟨z, rfl⟩
      · exact laid_mask (.inr (.inl rfl)) (by omega)
      · exact laid_small (by decide) (fun x hx => by have := keys x hx; omega) ndh
      · exact laid_small (by decide) (fun x hx => by have := keys x hx; omega) ndh
    rw [e4]
    have pe := L4.es (es := es) (by rw [Array.size_map])
    have ps : (order4.filterMap (es[·]?)).size = es.size := by rw [← Array.length_toList, pe.length_eq, Array.length_toList]
    refine wpAny_bind (wp_if_neg (by rw [ps]; simp) (wpAny_pure ?_))
    dsimp only
    refine wpAny_storeSet_of ho3 rfl ?_ (by rw [ps, sizeLine_eq]; omega)
    obtain ⟨_, lr4, lp4, ld4, lm4, ll4⟩ := L4
    refine h _ M (sb1.trans (Heap.SameBut.update _ r _)) ⟨_, _, _, _, store_at ho3 rfl, hex2, rfl, fun e he => g e (pe.mem_iff.mp he), (pe.map keyOf).nodup_iff.mpr nd, fun k => (hm k).trans (pe.map keyOf).mem_iff.symm, by rw [ps]; exact hb, ?_, by rw [ps]; exact hn, lr4, by rw [ll4]; exact led3, lm4, by rw [ld4]; rfl⟩ c2M
    unfold SetTable.fits SetTable.fill
    rw [lp4, ld4, lm4, hsz, ps, hn]
    simp
    omega
theorem setFind_idx {o : Obj} {es : Array (Int × Value)} {ep : Nat} {t : SetTable} {k : Int} {tk : Tok} {Q : Option Nat → Shared → Prop} {a : Addr}
    (ho : s.heap.get? a = some o) (hd : o.data = .set es ep t) (g : ∀ e ∈ es.toList, GoodE e) (hb : es.size < scanBound) (hf : t.fits es.size = true)
    (h1 : k ∉ es.toList.map keyOf → Q none s) (h2 : ∀ i (hi : i < es.toList.length), keyOf es.toList[i] = k → Q (some i) s) : wpAny (model P w) A (setFind a (.int k tk) (hashInt k)) Q E s := by
  have hkey : (intKind P w).is k (.int k tk) = true := intKind_is P w k tk
  have hel : ElemsOf (intKind P w) es.toList := good_elems g
  show wpAny (model P w) A (setFind a (.int k tk) ((intKind P w).hash k)) Q E s
  unfold setFind setFindIn
  refine wpAny_bind (wpAny_setState_of ho hd hf ?_)
  dsimp only
  rw [byScan_of rfl hb hel]
  simp only [↓reduceIte]
  refine wpAny_bind (wpAny_rule ?_)
  refine wpAny_bind (wpAny_setScan_of hkey ho hd hf hel ?_)
  cases hr : List.findIdx? (fun e => (intKind P w).is k e.2) es.toList with
  | none =>
    dsimp only
    refine wpAny_pure (h1 fun z => ?_)
    obtain ⟨e, he, q⟩ := (good_mem (P := P) (w := w) g k).1 z
    have := List.findIdx?_eq_none_iff.mp hr e he
    rw [q] at this
    cases this
  | some j =>
    dsimp only
    obtain ⟨hj, hpj, _⟩ := List.findIdx?_eq_some_iff_getElem.mp hr
    refine wpAny_pure ?_
    rw [Nat.zero_add]
    exact h2 j hj ((good_is (P := P) (w := w) (g _ (List.getElem_mem hj)) k).1 hpj)
theorem toList_eraseAt {α : Type} (xs : Array α) (p : Nat) : (SetTable.eraseAt xs p).toList = xs.toList.eraseIdx p := by
  simp [SetTable.eraseAt, List.extract_eq_take_drop, List.take_of_length_le, List.eraseIdx_eq_take_drop_succ]
theorem map_erase {α β : Type} (f : α → β) : ∀ (l : List α) (k : Nat), (l.eraseIdx k).map f = (l.map f).eraseIdx k
  | [], _ => rfl
  | _ :: _, 0 => rfl
  | x :: l, k + 1 => congrArg (List.cons (f x)) (map_erase f l k)
theorem mem_eraseI {L : List Int} {i : Nat} (nd : L.Nodup) (hi : i < L.length) (j : Int) : j ∈ L.eraseIdx i ↔ j ∈ L ∧ j ≠ L[i] := by
  have e : L = L.take i ++ L[i] :: L.drop (i + 1) := by
    rw [← List.drop_eq_getElem_cons hi, List.take_append_drop]
  have p : (L[i] :: L.eraseIdx i).Perm L := by
    rw [List.eraseIdx_eq_take_drop_succ]
    exact List.perm_middle.symm.trans (List.Perm.of_eq e.symm)
  have nd2 := p.nodup_iff.mpr nd
  rw [← p.mem_iff, List.mem_cons]
  constructor
  · exact fun h => ⟨.inr h, fun e => (List.nodup_cons.mp nd2).1 (e ▸ h)⟩
  · rintro ⟨h | h, n⟩
    · exact absurd h n
    · exact h
theorem discard_at {a : Addr} {S : Int → Bool} {n m q : Nat} {k : Int} {tk : Tok} {Q : Bool → Shared → Prop} (M : SetM w s.heap a S n m q)
    (h : ∀ b h' n' q', Heap.SameBut a s.heap h' → SetM w h' a (fun j => S j && !decide (j = k)) n' m q' → q' ≤ q + 1 → n' ≤ n → Q b { s with heap := h' }) : wpAny (model P w) A (setDiscardHashed a (.int k tk) (hashInt k)) Q E s := by
  obtain ⟨o, es, ep, t, ho, hex, hd, g, nd, hm, hb, hf, hn, hr, hl, mk, dm⟩ := M
  unfold setDiscardHashed
  refine wpAny_bind (setFind_idx ho hd g hb hf (fun hk => ?_) fun i hi hik => ?_)
  · dsimp only
    refine wpAny_pure (h false s.heap n q (Heap.SameBut.refl a s.heap) ⟨o, es, ep, t, ho, hex, hd, g, nd, fun j => ?_, hb, hf, hn, hr, hl, mk, dm⟩ (by omega) (Nat.le_refl _))
    rw [Bool.and_eq_true, hm j]
    constructor
    · exact fun z => z.1
    · exact fun z => ⟨z, by rw [decide_eq_false (fun e => hk (by rw [← e]; exact z))]; rfl⟩
  · dsimp only
    refine wpAny_bind (wpAny_setState_of ho hd hf ?_)
    dsimp only
    have tl := toList_eraseAt es i
    have sz : (SetTable.eraseAt es i).size = es.size - 1 := by
      rw [← Array.length_toList, tl, List.length_eraseIdx_of_lt hi, Array.length_toList]
    have hpl : t.place.size = es.size ∧ t.fill ≤ t.mask := by
      unfold SetTable.fits at hf
      rw [Bool.and_eq_true, beq_iff_eq, decide_eq_true_iff] at hf
      exact hf
    have hi2 : i < es.size := by rw [← Array.length_toList]; exact hi
    obtain ⟨jj, hj⟩ : ∃ jj, t.place[i]? = some jj := ⟨_, Array.getElem?_eq_getElem (by rw [hpl.1]; exact hi2)⟩
    have ed : t.drop i = { t with place := SetTable.eraseAt t.place i, dummies := SetTable.insertAt t.dummies (SetTable.below t.dummies jj) jj } := by
      unfold SetTable.drop
      rw [hj]
    have pz : (SetTable.eraseAt t.place i).size = t.place.size - 1 := by
      rw [← Array.length_toList, toList_eraseAt, List.length_eraseIdx_of_lt (by rw [Array.length_toList, hpl.1]; exact hi2), Array.length_toList]
    have dz : (SetTable.insertAt t.dummies (SetTable.below t.dummies jj) jj).size = t.dummies.size + 1 := by
      rw [← Array.length_toList, SetTable.toList_insertAt, List.length_append, List.length_cons, List.length_take, List.length_drop, Array.length_toList]
      omega
    have mp : (SetTable.eraseAt es i).toList.map keyOf = (es.toList.map keyOf).eraseIdx i := by
      rw [tl]
      exact map_erase keyOf _ _
    rw [ed]
    refine wpAny_bind (wpAny_storeSet_of ho hd ?_ (by rw [sz]; have := fits_of_scanBound hb; omega))
    refine wpAny_bind (wpAny_point (wpAny_pure ?_))
    refine h true _ (n - 1) (q + 1) (Heap.SameBut.update _ a _) ⟨_, _, _, _, store_at ho hd, hex, rfl, fun e he => ?_, ?_, fun j => ?_, by rw [sz]; omega, ?_, by rw [sz, hn], ?_, ?_, ?_, ?_⟩ (Nat.le_refl _) (by omega)
    · rw [tl] at he
      exact g e (List.mem_of_mem_eraseIdx he)
    · rw [mp]
      exact nd.sublist (List.eraseIdx_sublist _ _)
    · have il : i < (es.toList.map keyOf).length := by rw [List.length_map]; exact hi
      rw [mp, mem_eraseI nd il, Bool.and_eq_true, hm j, List.getElem_map, hik]
      simp
    · show ((SetTable.eraseAt t.place i).size == (SetTable.eraseAt es i).size && decide ((SetTable.eraseAt t.place i).size + (SetTable.insertAt t.dummies (SetTable.below t.dummies jj) jj).size ≤ t.mask)) = true
      have := hpl.2
      unfold SetTable.fill at this
      rw [pz, dz, sz, hpl.1, Bool.and_eq_true, beq_iff_eq, decide_eq_true_iff]
      exact ⟨rfl, by omega⟩
    · show Ris (SetTable.eraseAt t.place i).toList
      rw [toList_eraseAt]
      exact List.Pairwise.sublist (List.eraseIdx_sublist _ _) hr
    · exact hl
    · exact mk
    · rw [← dm]
      exact dz
theorem walkN_at {a q : Addr} {o : Obj} {es : Array (Int × Value)} {ep : Nat} {t : SetTable} {Q : Array (Int × Value) → Shared → Prop} (ho : s.heap.get? a = some o) (hd : o.data = .set es ep t) (hf : t.fits es.size = true) (hl : w.params.followText "set-order" = true ∨ t.led = true)
    (hq : ∀ b ∈ [a, q], ∃ S n, SetR w s.heap b S n)
    (h : ∀ (es' : Array (Int × Value)) d, es'.toList.Perm es.toList → Q es' { s with drawn := d }) : wpAny (model P w) A (setWalkUnseen a [q] none) Q E s := by
  unfold setWalkUnseen
  have walk : wpAny (model P w) A (setWalk a) Q E s := setWalk_at ho hd hf hl fun es' d hp => h es' d hp
  refine wpAny_bind (wpAny_setState_of ho hd hf ?_)
  dsimp only
  refine wpAny_bind (wpAny_byText ?_)
  by_cases hc : (w.params.followText "set-order" || (t.led && t.plain) || decide (es.size ≤ 1)) = true
  · refine wp_if_pos hc ?_
    first | exact walk | exact wpAny_bind walk
  · refine wp_if_neg hc ?_
    try refine wpAny_bind (wpAny_pure ?_)
    refine wpAny_bind (quiet_at _ hq ?_)
    refine wp_if_neg (by simp) ?_
    try refine wpAny_bind (wpAny_pure ?_)
    refine wpAny_bind (wpAny_rule ?_)
    exact wpAny_pure (h es s.drawn (List.Perm.refl _))
theorem update_at {r q : Addr} {S T : Int → Bool} {c e m : Nat} {nm : String} {Q : Unit → Shared → Prop} (hne : q ≠ r) (Rr : SetM w s.heap r S c m 0) (Rq : SetR w s.heap q T e) (wide : e < c / 4) (cm : 2 * c ≤ m)
    (h : ∀ h' d n, Heap.SameBut r s.heap h' → SetR w h' r (fun k => S k && !T k) n → Q () { s with heap := h', drawn := d }) :
    wpAny (model P w) A (Builtin.Frozenset.differenceUpdate nm r (.ref q)) Q E s := by
  unfold Builtin.Frozenset.differenceUpdate
  refine wp_if_neg (by simpa using hne) ?_
  try refine wpAny_bind (wpAny_pure ?_)
  refine wpAny_bind (anySet_at Rq ?_)
  dsimp only
  refine wp_if_pos rfl ?_
  refine wpAny_bind (m := Builtin.Frozenset.addrOf (.ref q)) (wpAny_pure ?_)
  refine wpAny_bind (sizeOf_at Rq ?_)
  refine wpAny_bind (sizeOf_at Rr.r ?_)
  refine wp_if_neg (by omega) ?_
  try refine wpAny_bind (wpAny_pure ?_)
  obtain ⟨o, es, ep, t, ho, hex, hd, g, nd, hm, hb, hf, hn, hr, hl⟩ := id Rq
  refine wpAny_bind (wpAny_setEpoch_of ho hd hf ?_)
  refine wpAny_bind ?_
  refine wpAny_holding ?_
  refine wpAny_bind (walkN_at ho hd hf hl (fun b hb => ?_) fun es' d hp => ?_)
  · simp only [List.mem_cons, List.not_mem_nil, or_false] at hb
    rcases hb with rfl | rfl
    · exact ⟨_, _, Rq⟩
    · exact ⟨_, _, Rr.r⟩
  refine wpAny_bind (MeetsSeq2.wpAny_forIn_array _ (fun rest (b : PUnit) s' => ∃ h' n q', s' = { s with heap := h', drawn := d } ∧ Heap.SameBut r s.heap h' ∧ SetM w h' r (fun k => S k && (!T k || decide (k ∈ rest.map keyOf))) n m q' ∧ q' + rest.length ≤ e ∧ (∀ e ∈ rest, GoodE e) ∧ (rest.map keyOf).Nodup ∧ ∀ k ∈ rest.map keyOf, T k = true) _ ?_ ?_ es' _ ⟨s.heap, c, 0, rfl, Heap.SameBut.refl r s.heap, ?_, ?_, ?_, ?_, ?_⟩)
  · rintro ⟨hh, x⟩ rest b s' ⟨h', n, q', rfl, sb, R, ml, g, nd, hS⟩
    obtain ⟨k, tk, e1, e2⟩ := g _ List.mem_cons_self
    obtain rfl : x = Value.int k tk := e1
    obtain rfl : hh = hashInt k := e2
    have kk : keyOf (hashInt k, Value.int k tk) = k := rfl
    rw [List.map_cons, kk] at nd hS R
    obtain ⟨nk, nd⟩ := List.nodup_cons.mp nd
    have ml' : q' + rest.length + 1 ≤ e := ml
    dsimp only
    refine wpAny_bind (wpAny_holding (discard_at R fun b h3 n3 q3 sb3 R3 hq3 _ => ?_))
    have sb13 := sb.trans sb3
    have un : ∀ {Q : Unit → Shared → Prop}, Q () { s with heap := h3, drawn := d } → wpAny (model P w) A (Builtin.Frozenset.unchanged nm q ep) Q E { s with heap := h3, drawn := d } := fun hq => by
      unfold Builtin.Frozenset.unchanged
      refine wpAny_bind (wpAny_setEpoch_of ((sb13.2 q hne).trans ho) hd hf ?_)
      exact wp_if_neg (by simp) (wpAny_pure hq)
    refine wpAny_bind (un (wpAny_pure ⟨h3, n3, q3, rfl, sb13, ?_, by omega, fun e he => g e (List.mem_cons_of_mem _ he), nd, fun j hj => hS j (List.mem_cons_of_mem _ hj)⟩))
    refine R3.congr fun j => ?_
    have hTk : T k = true := hS k List.mem_cons_self
    by_cases c : j = k
    · subst c
      simp [hTk, nk]
    · simp [c, beq_eq_false_iff_ne.mpr c]
  · rintro b s' ⟨h', n, q', rfl, sb, R, ml, g, nd, hS⟩
    refine wpAny_pure ?_
    have R2 := (R.congr (S' := fun k => S k && !T k) fun k => by simp).r
    obtain ⟨o2, es2, ep2, t2, ho2, hex2, hd2, g2, nd2, hm2, hb2, hf2, hn2, hr2, hl2, mk2, dm2⟩ := R
    have ml : q' ≤ e := ml
    unfold setTidy
    refine wpAny_bind (wpAny_setState_of ho2 hd2 hf2 ?_)
    dsimp only
    refine wp_if_neg ?_ (wpAny_pure (h h' d n sb R2))
    unfold SetTable.tooManyDummies
    rw [dm2, mk2, decide_eq_true_iff]
    omega
  · refine Rr.congr fun k => ?_
    have hp2 : (es'.toList.map keyOf).Perm (es.toList.map keyOf) := hp.map _
    cases hT : T k with
    | false => simp
    | true =>
      have : k ∈ es'.toList.map keyOf := hp2.mem_iff.mpr ((hm k).mp hT)
      simp [this]
  · rw [hp.length_eq, Array.length_toList, hn]
    omega
  · exact fun e he => g e (hp.mem_iff.mp he)
  · exact (hp.map keyOf).nodup_iff.mpr nd
  · exact fun k hk => (hm k).mpr ((hp.map keyOf).mem_iff.mp hk)
theorem diffW_at {a q : Addr} {S T : Int → Bool} {c e : Nat} {nm : String} {Q : Value → Shared → Prop} (Ra : SetR w s.heap a S c) (Rq : SetR w s.heap q T e) (e1 : 1 ≤ e) (c60 : c ≤ 60) (ks : ∀ k, S k = true → 0 ≤ k ∧ k < 60)
    (h : ∀ h' d m, (∀ b u, s.heap.get? b = some u → h'.get? b = some u) → SetR w h' s.heap.objs.size (fun k => S k && !T k) m → Q (.ref s.heap.objs.size) { s with heap := h', drawn := d }) :
    wpAny (model P w) A (Builtin.Frozenset.difference nm a (.ref q)) Q E s := by
  by_cases small : c / 4 ≤ e
  · exact diff_at Ra Rq small (by unfold scanBound; omega) h
  unfold Builtin.Frozenset.difference
  dsimp only
  refine wpAny_bind (anySet_at Rq ?_)
  refine wp_if_neg (by simp) ?_
  refine wpAny_bind (m := Builtin.Frozenset.addrOf (.ref q)) (wpAny_pure ?_)
  refine wp_if_neg (by simp) ?_
  refine wp_if_pos rfl ?_
  refine wpAny_bind (sizeOf_at Rq ?_)
  refine wpAny_bind (sizeOf_at Ra ?_)
  refine wp_if_pos (by omega) ?_
  refine wpAny_bind (wpAny_rule ?_)
  unfold Builtin.Frozenset.copyOf
  refine wpAny_bind (wpAny_bind (baseOf_at Ra ?_))
  refine wpAny_bind (newSetM_at fun h1 k1 z1 R1 => ?_)
  generalize hr0 : s.heap.objs.size = r at R1 z1 h ⊢
  have hra : a < r := by rw [← hr0]; exact Ra.lt
  have hrq : q < r := by rw [← hr0]; exact Rq.lt
  refine wpAny_bind (m := Builtin.Frozenset.addrOf (.ref r)) (wpAny_pure ?_)
  have Ra1 := Ra.at (h' := h1) (k1 a)
  have Rq1 := Rq.at (h' := h1) (k1 q)
  refine wpAny_bind (merge_at (Nat.ne_of_lt hra) Ra1 R1 (by omega) c60 ks fun h2 m sb2 R2 cm => ?_)
  refine wpAny_pure ?_
  have Rq2 := Rq1.at (h' := h2) (fun o ho => (sb2.2 q (Nat.ne_of_lt hrq)).trans ho)
  refine wpAny_bind (m := Builtin.Frozenset.addrOf (.ref r)) (wpAny_pure ?_)
  refine wpAny_bind (wpAny_holding ?_)
  refine update_at (Nat.ne_of_lt hrq) R2 Rq2 (by omega) cm fun h3 d n sb3 R3 => ?_
  refine wpAny_pure (h h3 d n (fun b u e => ?_) R3)
  have hb : b < r := by
    have := Heap.lt_size e
    rw [hr0] at this
    exact this
  exact ((sb2.trans sb3).2 b (Nat.ne_of_lt hb)).trans (k1 b u e)
end
def rSetSubW (w : World) : R2 := fun x y H Q => ∃ (p q : Addr) (S T : Int → Bool) (c e : Nat), x = .ref p ∧ y = .ref q ∧ H p = some (SetO w p S c) ∧ H q = some (SetO w q T e) ∧ 1 ≤ e ∧ c ≤ 60 ∧ (∀ k, S k = true → 0 ≤ k ∧ k < 60) ∧
  ∀ r m, H r = none → (∃ ks : List Int, ks.Nodup ∧ (∀ k, k ∈ ks ↔ (S k && !T k) = true) ∧ ks.length = m) → Q (.ref r) (upd H r (SetO w r (fun k => S k && !T k) m))
section
variable {X : Cx} {w : World}
theorem op_setSubW (hw : X.w = w := by rfl) : OpR X (binaryOp .Sub) (rSetSubW w) := by
  subst hw
  intro pins s σ H x y v u Q I rx ry h
  obtain ⟨p, q, S, T, c, e, rfl, rfl, hp, hq, small, room, keys, k⟩ := h
  cases rx
  cases ry
  have Rp := setO_get I hp
  have Rq := setO_get I hq
  refine wpAny_binaryOp_same (setR_type Rp _ _ _ _) (setR_type Rq _ _ _ _) F.fills_set_sub F.slot_set_sub (wpAny_call_entry F.slot_set_sub (setR_type Rp _ _ _ _) entry_set_sub ?_ (F.args_set_sub_2 _ _))
  refine wpAny_bind (m := Builtin.Frozenset.slot1 "__sub__" _) (wpAny_of_eq (a := (.ref p, .ref q)) (by rfl) ?_)
  dsimp only
  refine wpAny_bind (wpAny_bind (anySet_at Rp ?_))
  refine anySet_at Rq ?_
  refine wp_if_neg (by simp) ?_
  refine wpAny_bind (m := Builtin.Frozenset.addrOf (.ref p)) (wpAny_pure ?_)
  refine wpAny_bind (diffW_at Rp Rq small room keys fun h' d m kp R => ?_)
  have hn : H s.heap.objs.size = none := I.hok.fresh (Nat.le_refl _)
  refine wpAny_pure ⟨_, rfl, (fun z => nomatch z), .ref _, _, I.call (d' := d) (t' := s.toks) (ch := []) (Un.laid kp (Nat.le_refl _) hn) (I.hok.laid kp (Nat.le_refl _) (setO_new R)) I.bare (fun _ z => nomatch z), rfl, k _ m hn ?_⟩
  obtain ⟨o, es, ep, t, _, _, _, _, nd, mem, _, _, sz, _⟩ := R
  exact ⟨es.toList.map keyOf, nd, fun j => (mem j).symm, by rw [List.length_map, Array.length_toList]; exact sz⟩
end
end Ef
namespace Ef
/-! ### levels that are equal, and what follows for the live servers -/
def edgE (s : Nat) (r : List Nat) : List Nat × Nat := (srt (r.take s), r.getD s 0)
def cE (es : List (List Nat × Nat)) (e : List Nat × Nat) : Nat := es.countP fun a => decide (a = e)
theorem cE_app (a b : List (List Nat × Nat)) (e : List Nat × Nat) : cE (a ++ b) e = cE a e + cE b e := List.countP_append
theorem cE_perm {a b : List (List Nat × Nat)} (h : a.Perm b) (e : List Nat × Nat) : cE a e = cE b e := h.countP_eq _
theorem cE_map {α : Type} (f : α → List Nat × Nat) (e : List Nat × Nat) (l : List α) : cE (l.map f) e = l.countP fun a => decide (f a = e) := by
  unfold cE
  rw [List.countP_map]
  rfl
/-- all level numbers of the level are w -/
def Lev (n s w : Nat) (rows : List (List Nat)) : Prop := ∀ e ∈ allE n s, cE (rows.map (edgE s)) e = w
/-- rows of a table -/
def Tab (n d : Nat) (rows : List (List Nat)) : Prop := ∀ r ∈ rows, r.length = d ∧ r.Nodup ∧ ∀ x ∈ r, x < n
theorem srt_eq {a b : List Nat} (h : a.Perm b) : srt a = srt b := srt_of ((srt_perm a).trans h) (srt_le a)
theorem srt_self {a : List Nat} (h : Asc a) : srt a = a := (srt_of (List.Perm.refl a) (h.imp fun z => Nat.le_of_lt z)).symm
theorem perm_of_srt {a b : List Nat} (h : srt a = srt b) : a.Perm b := (srt_perm a).symm.trans (h ▸ srt_perm b)
theorem edgE_mem {n d s : Nat} {rows : List (List Nat)} (G : Tab n d rows) (hs : s < d) : ∀ e ∈ rows.map (edgE s), e ∈ allE n s := fun e he => by
  obtain ⟨r, hr, rfl⟩ := List.mem_map.mp he
  obtain ⟨h1, h2, h3⟩ := G r hr
  have pm := srt_perm (r.take s)
  have hlt : s < r.length := by omega
  have hx : r.getD s 0 = r[s] := by
    rw [List.getD_eq_getElem?_getD, List.getElem?_eq_getElem hlt]
    rfl
  have nd : (r.take s).Nodup := h2.sublist (List.take_sublist _ _)
  refine allE_mem ?_ ?_ (srt_asc nd) fun y hy => ?_
  · rw [hx]
    exact h3 _ (List.getElem_mem _)
  · rw [pm.length_eq, List.length_take]
    omega
  · have hy2 := pm.mem_iff.mp hy
    refine ⟨h3 y (List.mem_of_mem_take hy2), fun e => ?_⟩
    obtain ⟨i, hi⟩ := List.getElem?_of_mem hy2
    rw [List.getElem?_take] at hi
    split at hi
    · rename_i hlt2
      have h4 : r[s]? = some y := by
        rw [List.getElem?_eq_getElem hlt, e, hx]
      have := (List.getElem?_inj (show i < r.length by omega) h2).mp (hi.trans h4.symm)
      omega
    · cases hi
theorem allE_nodup (n s : Nat) : (allE n s).Nodup := by
  unfold allE
  have key : ∀ l : List Nat, l.Nodup → (l.flatMap fun x => (combs (without n x) s).map fun c => (c, x)).Nodup := by
    intro l
    induction l with
    | nil => intro _; exact List.nodup_nil
    | cons x l ih =>
      intro h
      obtain ⟨h1, h2⟩ := List.nodup_cons.mp h
      rw [List.flatMap_cons]
      refine List.nodup_append.mpr ⟨List.Pairwise.map _ (fun a b hab z => hab (congrArg Prod.fst z)) (combsNodup _ _ (asc_nodup (without_asc n x))), ih h2, fun a ha b hb e => ?_⟩
      obtain ⟨c, _, rfl⟩ := List.mem_map.mp ha
      obtain ⟨y, hy, hb⟩ := List.mem_flatMap.mp hb
      obtain ⟨c', _, rfl⟩ := List.mem_map.mp hb
      have : x = y := congrArg Prod.snd e
      exact h1 (this ▸ hy)
  exact key _ List.nodup_range
theorem sum_one' {α : Type} [DecidableEq α] {c : α} : ∀ {cs : List α}, cs.Nodup → c ∈ cs → (cs.map fun d => if c = d then 1 else 0).sum = 1
  | [], _, h => absurd h List.not_mem_nil
  | d :: cs, hn, h => by
    obtain ⟨h1, h2⟩ := List.nodup_cons.mp hn
    rw [List.map_cons, List.sum_cons]
    by_cases e : c = d
    · subst e
      have z : ∀ (l : List α), c ∉ l → (l.map fun d => if c = d then 1 else 0).sum = 0 := by
        intro l
        induction l with
        | nil => intro _; rfl
        | cons a l ih =>
          intro hh
          rw [List.map_cons, List.sum_cons, if_neg (fun z : c = a => hh (by rw [z]; exact List.mem_cons_self)), ih fun z => hh (List.mem_cons_of_mem _ z)]
      rw [if_pos rfl, z cs h1]
    · rw [if_neg e, sum_one' h2 ((List.mem_cons.mp h).resolve_left e)]
theorem sum_add' {α : Type} (f g : α → Nat) : ∀ l : List α, (l.map fun x => f x + g x).sum = (l.map f).sum + (l.map g).sum
  | [] => rfl
  | a :: l => by
    rw [List.map_cons, List.sum_cons, List.map_cons, List.sum_cons, List.map_cons, List.sum_cons, sum_add' f g l]
    omega
theorem sum_zero' {α : Type} {f : α → Nat} : ∀ {l : List α}, (∀ a ∈ l, f a = 0) → (l.map f).sum = 0
  | [], _ => rfl
  | a :: l, h => by rw [List.map_cons, List.sum_cons, h a List.mem_cons_self, sum_zero' fun b hb => h b (List.mem_cons_of_mem _ hb)]
theorem sum_congr' {α : Type} {f g : α → Nat} {l : List α} (h : ∀ a ∈ l, f a = g a) : (l.map f).sum = (l.map g).sum := by rw [List.map_congr_left h]
theorem sum_cE {cs : List (List Nat × Nat)} (hn : cs.Nodup) : ∀ {ks : List (List Nat × Nat)}, (∀ k ∈ ks, k ∈ cs) → (cs.map fun c => cE ks c).sum = ks.length
  | [], _ => sum_zero' fun _ _ => rfl
  | k :: ks, h => by
    have e : (fun c => cE (k :: ks) c) = fun c => cE ks c + if k = c then 1 else 0 := by
      funext c
      unfold cE
      rw [List.countP_cons]
      congr 1
      by_cases z : k = c
      · rw [if_pos z, if_pos (decide_eq_true z)]
      · rw [if_neg z, if_neg (fun y => z (of_decide_eq_true y))]
    rw [e, sum_add', sum_cE hn fun x hx => h x (List.mem_cons_of_mem _ hx), sum_one' hn (h k List.mem_cons_self)]
    rfl
theorem all_tight {α : Type} {f : α → Nat} {w : Nat} : ∀ {l : List α}, (∀ a ∈ l, w ≤ f a) → (l.map f).sum = l.length * w → ∀ a ∈ l, f a = w
  | [], _, _, a, ha => absurd ha List.not_mem_nil
  | b :: l, h1, h2, a, ha => by
    have hb := h1 b List.mem_cons_self
    have ge : ∀ l : List α, (∀ a ∈ l, w ≤ f a) → l.length * w ≤ (l.map f).sum := by
      intro l
      induction l with
      | nil => intro _; simp
      | cons c l ih =>
        intro h
        rw [List.map_cons, List.sum_cons, List.length_cons, Nat.succ_mul]
        have := ih fun x hx => h x (List.mem_cons_of_mem _ hx)
        have := h c List.mem_cons_self
        omega
    have hl := ge l fun x hx => h1 x (List.mem_cons_of_mem _ hx)
    rw [List.map_cons, List.sum_cons, List.length_cons, Nat.succ_mul] at h2
    rcases List.mem_cons.mp ha with rfl | ha
    · omega
    · exact all_tight (fun x hx => h1 x (List.mem_cons_of_mem _ hx)) (by omega) a ha
/-- the level's number is what it must be -/
theorem Lev.eq {n d s w : Nat} {rows : List (List Nat)} (G : Tab n d rows) (hs : s < d) (h : Lev n s w rows) : n * C (n - 1) s * w = rows.length := by
  have h1 := sum_cE (allE_nodup n s) (edgE_mem G hs)
  rw [List.length_map, sum_congr' (g := fun _ => w) fun e he => h e he] at h1
  rw [← h1, ← allE_len, List.map_const', List.sum_replicate_nat]
/-! the standard tables -/
theorem path_edge {n c d k s : Nat} (hs : s < d) : edgE s (path n d c k).1 = (srt (path n s c k).1, (folL n c (List.range' 0 s) (List.range' 0 n) k).getD ((path n s c k).2 / wd n c s) 0) := by
  unfold edgE path
  have h1 : d = s + (d - s) := by omega
  have e1 := fol_take n c k s (d - s)
  have e2 := fol_take n c k (s + 1) (d - (s + 1))
  rw [← h1] at e1
  rw [show s + 1 + (d - (s + 1)) = d by omega, range'_end, fol_snoc] at e2
  rw [e1]
  congr 1
  have l := fol_len n c (List.range' 0 s) (List.range' 0 n) k
  rw [List.length_range'] at l
  have e3 : (fol n c (List.range' 0 d) (List.range' 0 n) k).1[s]? = some ((folL n c (List.range' 0 s) (List.range' 0 n) k).getD ((fol n c (List.range' 0 s) (List.range' 0 n) k).2 / wd n c s) 0) := by
    have e4 : ((fol n c (List.range' 0 d) (List.range' 0 n) k).1.take (s + 1))[s]? = (fol n c (List.range' 0 d) (List.range' 0 n) k).1[s]? := by
      rw [List.getElem?_take, if_pos (by omega)]
    rw [← e4, e2]
    show (_ ++ [_])[s]? = _
    rw [List.getElem?_append_right (by omega), l, Nat.sub_self]
    rfl
  rw [List.getD_eq_getElem?_getD, e3]
  rfl
theorem std_lev {n d c : Nat} (st : Std n d c) {s : Nat} (hs : s < d) : Lev n s (wd n c s) ((List.range c).map fun k => (path n d c k).1) := by
  have dv := st.dvd s hs
  have w0 := wd_pos dv st.c0
  have dn := st.dn
  have G : Tab n d ((List.range c).map fun k => (path n d c k).1) := fun r hr => by
    obtain ⟨k, hk, rfl⟩ := List.mem_map.mp hr
    exact ⟨path_len n d c k, path_nodup st (List.mem_range.mp hk), path_lt st (List.mem_range.mp hk)⟩
  refine all_tight (f := fun e => cE (((List.range c).map fun k => (path n d c k).1).map (edgE s)) e) (fun e he => ?_) ?_
  · -- at least so many
    obtain ⟨x, hx, he⟩ := List.mem_flatMap.mp he
    obtain ⟨S, hS, rfl⟩ := List.mem_map.mp he
    obtain ⟨g1, g2⟩ := combs_good _ _ _ hS
    have ascS : Asc S := (without_asc n x).sublist g2
    have memS : ∀ y ∈ S, y < n ∧ y ≠ x := fun y hy => by
      have := List.mem_filter.mp (g2.subset hy)
      exact ⟨List.mem_range.mp this.1, by simpa using this.2⟩
    have hxn := List.mem_range.mp hx
    -- the servers outside
    have hL0 : Compl n S ((List.range' 0 n).filter fun y => !decide (y ∈ S)) := ⟨ascS, (asc_range' n 0).filter _, fun y hy => (memS y hy).1, fun y => by
      rw [List.mem_filter, mem_range0]
      simp⟩
    have hxL : x ∈ (List.range' 0 n).filter fun y => !decide (y ∈ S) := (hL0.mem x).mpr ⟨hxn, fun z => (memS x z).2 rfl⟩
    obtain ⟨i, hi⟩ := List.getElem?_of_mem hxL
    have lenL : ((List.range' 0 n).filter fun y => !decide (y ∈ S)).length = n - s := by
      have p : (S ++ (List.range' 0 n).filter fun y => !decide (y ∈ S)).Perm (List.range' 0 n) := by
        refine (List.perm_ext_iff_of_nodup ?_ (asc_nodup (asc_range' n 0))).mpr fun y => ?_
        · refine List.nodup_append.mpr ⟨asc_nodup ascS, (asc_nodup (asc_range' n 0)).filter _, fun a ha b hb e => ?_⟩
          subst e
          exact ((hL0.mem a).mp hb).2 ha
        · rw [List.mem_append, hL0.mem, mem_range0]
          constructor
          · rintro (h | h)
            · exact (memS y h).1
            · exact h.1
          · intro h
            by_cases c : y ∈ S
            · exact .inl c
            · exact .inr ⟨h, c⟩
      have := p.length_eq
      rw [List.length_append, List.length_range', g1] at this
      omega
    have hi2 : i < n - s := by
      rw [← lenL]
      exact (List.getElem?_eq_some_iff.mp hi).1
    have wo : c / C n s = wd n c s * (n - s) := by
      have e := wd_out dv (show s < n by omega)
      have p := C_pos n s (by omega)
      conv => lhs; rw [← e]
      exact Nat.mul_div_cancel _ p
    rw [List.map_map, cE_map, List.countP_eq_length_filter]
    have hd : ∀ k, k < s → n * C (n - 1) k ∣ c := fun k hk => st.dvd k (by omega)
    have hpl : ∀ r, r < wd n c s → Place n c s S (wd n c s * i + r) := fun r hr => ⟨ascS, fun y hy => (memS y hy).1, g1, by
      rw [wo]
      have : wd n c s * (i + 1) ≤ wd n c s * (n - s) := Nat.mul_le_mul_left _ (by omega)
      rw [Nat.mul_add, Nat.mul_one] at this
      omega⟩
    have hlen : ((List.range (wd n c s)).map fun r => (fol n c (List.range' 0 s).reverse S (wd n c s * i + r)).2).length = wd n c s := by
      rw [List.length_map, List.length_range]
    rw [← hlen]
    refine subG_len ?_ fun k hk => ?_
    · rw [List.nodup_iff_pairwise_ne]
      refine List.pairwise_map.mpr ?_
      refine List.Pairwise.imp_of_mem (R := fun a b => a ≠ b) (fun {a b} ha hb hab e => hab ?_) (List.nodup_iff_pairwise_ne.mp List.nodup_range)
      have h1 := (back_fwd st.c0 s S _ (by omega) hd (hpl a (List.mem_range.mp ha))).2.2.1
      have h2 := (back_fwd st.c0 s S _ (by omega) hd (hpl b (List.mem_range.mp hb))).2.2.1
      rw [e] at h1
      rw [h1] at h2
      omega
    · obtain ⟨r, hr, rfl⟩ := List.mem_map.mp hk
      have hr2 := List.mem_range.mp hr
      obtain ⟨b1, b2, b3, b4⟩ := back_fwd st.c0 s S _ (by omega) hd (hpl r hr2)
      refine List.mem_filter.mpr ⟨List.mem_range.mpr b1, decide_eq_true ?_⟩
      show edgE s (path n d c _).1 = _
      rw [path_edge hs]
      unfold path
      rw [b3]
      have ed : (wd n c s * i + r) / wd n c s = i := by
        rw [Nat.mul_add_div w0, Nat.div_eq_of_lt hr2, Nat.add_zero]
      rw [ed, ← b4.free, List.getD_eq_getElem?_getD, hi]
      congr 1
      exact (srt_eq b2).trans (srt_self ascS)
  · rw [sum_cE (allE_nodup n s) (edgE_mem G hs), List.length_map, List.length_map, List.length_range, allE_len, Nat.mul_comm]
    exact (wd_eq dv).symm
end Ef
namespace Ef
/-! ### equal levels share the lists evenly among the live servers -/
def lvL (L r : List Nat) : List Nat := r.filter fun x => decide (x ∈ L)
def ddL (L r : List Nat) : List Nat := r.filter fun x => !decide (x ∈ L)
theorem lvL_app (L a b : List Nat) : lvL L (a ++ b) = lvL L a ++ lvL L b := List.filter_append ..
theorem lvL_perm {L a b : List Nat} (h : a.Perm b) : (lvL L a).Perm (lvL L b) := h.filter _
theorem ddL_perm {L a b : List Nat} (h : a.Perm b) : (ddL L a).Perm (ddL L b) := h.filter _
theorem lv_dd (L : List Nat) : ∀ r : List Nat, (lvL L r ++ ddL L r).Perm r
  | [] => List.Perm.refl _
  | x :: r => by
    unfold lvL ddL
    by_cases c : x ∈ L
    · rw [List.filter_cons_of_pos (by simpa using c), List.filter_cons_of_neg (by simpa using c)]
      exact (lv_dd L r).cons x
    · rw [List.filter_cons_of_neg (by simpa using c), List.filter_cons_of_pos (by simpa using c)]
      exact List.perm_middle.trans ((lv_dd L r).cons x)
/-- where the live server with this number stands -/
theorem at_live (L : List Nat) : ∀ (r : List Nat) (q : Nat), q + 1 ≤ (lvL L r).length → ∃ s x, r[s]? = some x ∧ x ∈ L ∧ (lvL L (r.take s)).length = q ∧ (lvL L r).take (q + 1) = lvL L (r.take s) ++ [x]
  | [], q, h => by
    have : (lvL L []).length = 0 := rfl
    omega
  | y :: r, q, h => by
    by_cases c : y ∈ L
    · have e : lvL L (y :: r) = y :: lvL L r := List.filter_cons_of_pos (by simpa using c)
      cases q with
      | zero =>
        refine ⟨0, y, rfl, c, rfl, ?_⟩
        rw [e]
        rfl
      | succ q =>
        rw [e, List.length_cons] at h
        obtain ⟨s, x, h1, h2, h3, h4⟩ := at_live L r q (by omega)
        have e2 : lvL L (y :: r.take s) = y :: lvL L (r.take s) := List.filter_cons_of_pos (by simpa using c)
        refine ⟨s + 1, x, h1, h2, ?_, ?_⟩
        · rw [List.take_succ_cons, e2, List.length_cons, h3]
        · rw [List.take_succ_cons, e2, e, List.take_succ_cons, h4]
          rfl
    · have e : lvL L (y :: r) = lvL L r := List.filter_cons_of_neg (by simpa using c)
      rw [e] at h
      obtain ⟨s, x, h1, h2, h3, h4⟩ := at_live L r q h
      have e2 : lvL L (y :: r.take s) = lvL L (r.take s) := List.filter_cons_of_neg (by simpa using c)
      refine ⟨s + 1, x, h1, h2, ?_, ?_⟩
      · rw [List.take_succ_cons, e2, h3]
      · rw [List.take_succ_cons, e2, e, h4]
theorem take_one {r : List Nat} {s x : Nat} (h : r[s]? = some x) : r.take (s + 1) = r.take s ++ [x] := by
  rw [List.take_add_one, h]
  rfl
theorem live_uniq {L r : List Nat} {q s s' x x' : Nat} (h1 : r[s]? = some x) (h2 : x ∈ L) (h3 : (lvL L (r.take s)).length = q) (k1 : r[s']? = some x') (k2 : x' ∈ L) (k3 : (lvL L (r.take s')).length = q) : s = s' := by
  have key : ∀ {a b y : Nat}, r[a]? = some y → y ∈ L → (lvL L (r.take a)).length = q → (lvL L (r.take b)).length = q → ¬ a < b := by
    intro a b y g1 g2 g3 g4 hlt
    have e : r.take b = r.take (a + 1) ++ (r.take b).drop (a + 1) := by
      have := List.take_append_drop (a + 1) (r.take b)
      rw [List.take_take, Nat.min_eq_left (by omega)] at this
      exact this.symm
    rw [e, take_one g1, lvL_app, lvL_app, List.length_append, List.length_append] at g4
    have : (lvL L [y]).length = 1 := by
      unfold lvL
      rw [List.filter_cons_of_pos (by simpa using g2)]
      rfl
    omega
  have a := key h1 h2 h3 k3
  have b := key k1 k2 k3 h3
  omega
/-- all sublists -/
def subsA : List Nat → List (List Nat)
  | [] => [[]]
  | x :: r => (subsA r).map (x :: ·) ++ subsA r
theorem subsA_mem : ∀ {l c : List Nat}, c.Sublist l → c ∈ subsA l
  | [], c, h => by
    rw [List.sublist_nil.mp h]
    exact List.mem_singleton.mpr rfl
  | x :: r, c, h => by
    cases h with
    | cons _ h => exact List.mem_append_right _ (subsA_mem h)
    | cons_cons _ h => exact List.mem_append_left _ (List.mem_map.mpr ⟨_, subsA_mem h, rfl⟩)
theorem subsA_good : ∀ {l c : List Nat}, c ∈ subsA l → c.Sublist l
  | [], c, h => by
    rw [List.mem_singleton.mp h]
    exact List.Sublist.refl _
  | x :: r, c, h => by
    rcases List.mem_append.mp h with h | h
    · obtain ⟨d, hd, rfl⟩ := List.mem_map.mp h
      exact (subsA_good hd).cons_cons x
    · exact (subsA_good h).cons x
theorem subsA_nodup : ∀ {l : List Nat}, l.Nodup → (subsA l).Nodup
  | [], _ => List.nodup_cons.mpr ⟨List.not_mem_nil, List.nodup_nil⟩
  | x :: r, h => by
    obtain ⟨h1, h2⟩ := List.nodup_cons.mp h
    refine List.nodup_append.mpr ⟨List.Pairwise.map _ (fun a b hab z => hab (List.cons.inj z).2) (subsA_nodup h2), subsA_nodup h2, fun a ha b hb e => ?_⟩
    obtain ⟨c, _, rfl⟩ := List.mem_map.mp ha
    have := subsA_good hb
    rw [← e] at this
    exact h1 (this.subset List.mem_cons_self)
/-- a row and a pair: the row begins with T but x, and D, and goes on to x -/
def mtB (T : List Nat) (q : Nat) (p : List Nat × Nat) (r : List Nat) : Bool := decide (edgE (q + p.1.length) r = (srt (T.erase p.2 ++ p.1), p.2))
theorem lv_all {L a : List Nat} (h : ∀ x ∈ a, x ∈ L) : lvL L a = a := List.filter_eq_self.mpr fun x hx => by simpa using h x hx
theorem lv_none {L a : List Nat} (h : ∀ x ∈ a, x ∉ L) : lvL L a = [] := List.filter_eq_nil_iff.mpr fun x hx => by simpa using h x hx
theorem dd_all {L a : List Nat} (h : ∀ x ∈ a, x ∉ L) : ddL L a = a := List.filter_eq_self.mpr fun x hx => by simpa using h x hx
theorem dd_none {L a : List Nat} (h : ∀ x ∈ a, x ∈ L) : ddL L a = [] := List.filter_eq_nil_iff.mpr fun x hx => by simpa using h x hx
theorem ddL_app (L a b : List Nat) : ddL L (a ++ b) = ddL L a ++ ddL L b := List.filter_append ..
theorem mt_iff {L T D r : List Nat} {q x : Nat} (hT : Asc T) (hTl : T.length = q + 1) (hTL : ∀ y ∈ T, y ∈ L) (hx : x ∈ T) (hD : Asc D) (hDL : ∀ y ∈ D, y ∉ L) (hs : q + D.length < r.length) :
    mtB T q (D, x) r = true ↔ ∃ s, r[s]? = some x ∧ (lvL L (r.take s)).length = q ∧ srt (lvL L (r.take s) ++ [x]) = T ∧ srt (ddL L (r.take s)) = D := by
  have te : (T.erase x).Perm (T.erase x) := List.Perm.refl _
  have tp : (T.erase x ++ [x]).Perm T := (List.perm_append_singleton x _).trans (List.perm_cons_erase hx).symm
  have tl : (T.erase x).length = q := by
    rw [List.length_erase_of_mem hx]
    omega
  have eL : ∀ y ∈ T.erase x, y ∈ L := fun y hy => hTL y (List.mem_of_mem_erase hy)
  unfold mtB
  rw [decide_eq_true_iff]
  constructor
  · intro h
    have h1 : srt (r.take (q + D.length)) = srt (T.erase x ++ D) := congrArg Prod.fst h
    have h2 : r.getD (q + D.length) 0 = x := congrArg Prod.snd h
    have pm := perm_of_srt h1
    have hxs : r[q + D.length]? = some x := by
      rw [List.getD_eq_getElem?_getD, List.getElem?_eq_getElem hs] at h2
      rw [List.getElem?_eq_getElem hs]
      exact congrArg some h2
    have pl : (lvL L (r.take (q + D.length))).Perm (T.erase x) := by
      have := lvL_perm (L := L) pm
      rw [lvL_app, lv_all eL, lv_none hDL, List.append_nil] at this
      exact this
    have pd : (ddL L (r.take (q + D.length))).Perm D := by
      have := ddL_perm (L := L) pm
      rw [ddL_app, dd_none eL, dd_all hDL, List.nil_append] at this
      exact this
    exact ⟨q + D.length, hxs, by rw [pl.length_eq, tl], (srt_eq ((pl.append_right [x]).trans tp)).trans (srt_self hT), (srt_eq pd).trans (srt_self hD)⟩
  · rintro ⟨s, h1, h2, h3, h4⟩
    have hsl : s < r.length := (List.getElem?_eq_some_iff.mp h1).1
    have pl : (lvL L (r.take s)).Perm (T.erase x) := by
      have p1 : (lvL L (r.take s) ++ [x]).Perm T := (srt_perm _).symm.trans (h3 ▸ List.Perm.refl _)
      have p2 := p1.trans tp.symm
      exact (List.perm_append_right_iff _).mp p2
    have pd : (ddL L (r.take s)).Perm D := (srt_perm _).symm.trans (h4 ▸ List.Perm.refl _)
    have pr : (r.take s).Perm (T.erase x ++ D) := (lv_dd L _).symm.trans (pl.append pd)
    have es : s = q + D.length := by
      have := pr.length_eq
      rw [List.length_take, List.length_append, tl] at this
      omega
    subst es
    unfold edgE
    show (srt (r.take (q + D.length)), r.getD (q + D.length) 0) = _
    rw [srt_eq pr, List.getD_eq_getElem?_getD, h1]
    rfl
/-- the pairs of T -/
def prL (dead T : List Nat) : List (List Nat × Nat) := (subsA dead).flatMap fun D => T.map fun x => (D, x)
theorem prL_nodup {dead T : List Nat} (hd : dead.Nodup) (hT : T.Nodup) : (prL dead T).Nodup := by
  unfold prL
  have key : ∀ l : List (List Nat), l.Nodup → (l.flatMap fun D => T.map fun x => (D, x)).Nodup := by
    intro l
    induction l with
    | nil => intro _; exact List.nodup_nil
    | cons D l ih =>
      intro h
      obtain ⟨h1, h2⟩ := List.nodup_cons.mp h
      rw [List.flatMap_cons]
      refine List.nodup_append.mpr ⟨List.Pairwise.map _ (fun a b hab z => hab (congrArg Prod.snd z)) hT, ih h2, fun a ha b hb e => ?_⟩
      obtain ⟨c, _, rfl⟩ := List.mem_map.mp ha
      obtain ⟨D', hD', hb⟩ := List.mem_flatMap.mp hb
      obtain ⟨c', _, rfl⟩ := List.mem_map.mp hb
      have ed : D = D' := congrArg Prod.fst e
      exact h1 (by rw [ed]; exact hD')
  exact key _ (subsA_nodup hd)
theorem countP_one {α : Type} {p : α → Bool} {a : α} : ∀ {l : List α}, l.Nodup → a ∈ l → (∀ b ∈ l, (p b = true ↔ b = a)) → l.countP p = 1
  | [], _, h, _ => absurd h List.not_mem_nil
  | b :: l, hn, h, hp => by
    obtain ⟨h1, h2⟩ := List.nodup_cons.mp hn
    rw [List.countP_cons]
    by_cases e : b = a
    · subst e
      have z : l.countP p = 0 := List.countP_eq_zero.mpr fun c hc hpc => h1 (((hp c (List.mem_cons_of_mem _ hc)).mp hpc) ▸ hc)
      rw [z, if_pos ((hp b List.mem_cons_self).mpr rfl)]
    · rw [if_neg (fun z => e ((hp b List.mem_cons_self).mp z)), countP_one h2 ((List.mem_cons.mp h).resolve_left fun z => e z.symm) fun c hc => hp c (List.mem_cons_of_mem _ hc)]
theorem swap_sum {α β : Type} (m : α → β → Bool) (rows : List β) : ∀ l : List α, (l.map fun a => rows.countP (m a)).sum = (rows.map fun r => l.countP fun a => m a r).sum
  | [] => (sum_zero' fun _ _ => rfl).symm
  | a :: l => by
    rw [List.map_cons, List.sum_cons, swap_sum m rows l]
    have e : (rows.map fun r => (a :: l).countP fun a => m a r) = rows.map fun r => (l.countP fun a => m a r) + if m a r = true then 1 else 0 := List.map_congr_left fun r _ => List.countP_cons ..
    rw [e, sum_add', Nat.add_comm]
    congr 1
    induction rows with
    | nil => rfl
    | cons r rows ih =>
      rw [List.countP_cons, List.map_cons, List.sum_cons, ih (List.map_congr_left fun r _ => List.countP_cons ..)]
      omega
theorem sum_ind {β : Type} (p : β → Bool) : ∀ rows : List β, (rows.map fun r => if p r = true then 1 else 0).sum = rows.countP p
  | [] => rfl
  | r :: rows => by
    rw [List.map_cons, List.sum_cons, sum_ind p rows, List.countP_cons, Nat.add_comm]
/-- how many rows have this set of first live servers -/
def heldN (L : List Nat) (q : Nat) (rows : List (List Nat)) (T : List Nat) : Nat := rows.countP fun r => decide (srt ((lvL L r).take q) = T)
theorem held_pairs {n d q : Nat} {L dead T : List Nat} {rows : List (List Nat)} (G : Tab n d rows) (hT : Asc T) (hTl : T.length = q + 1) (hTL : ∀ y ∈ T, y ∈ L) (hdead : Asc dead) (hmem : ∀ y, y ∈ dead ↔ y < n ∧ y ∉ L)
    (hd : q + dead.length < d) (hlive : ∀ r ∈ rows, q + 1 ≤ (lvL L r).length) :
    heldN L (q + 1) rows T = ((prL dead T).map fun p => cE (rows.map (edgE (q + p.1.length))) (srt (T.erase p.2 ++ p.1), p.2)).sum := by
  have e1 : ((prL dead T).map fun p => cE (rows.map (edgE (q + p.1.length))) (srt (T.erase p.2 ++ p.1), p.2)) = (prL dead T).map fun p => rows.countP (mtB T q p) := List.map_congr_left fun p _ => cE_map _ _ _
  rw [e1, swap_sum]
  unfold heldN
  rw [← sum_ind]
  refine sum_congr' fun r hr => ?_
  obtain ⟨g1, g2, g3⟩ := G r hr
  obtain ⟨s, x, a1, a2, a3, a4⟩ := at_live L r q (hlive r hr)
  have ndT : T.Nodup := asc_nodup hT
  -- what a pair that fits is
  have fit : ∀ p ∈ prL dead T, (mtB T q p r = true ↔ srt ((lvL L r).take (q + 1)) = T ∧ p = (srt (ddL L (r.take s)), x)) := fun p hp => by
    obtain ⟨D, hD, hp⟩ := List.mem_flatMap.mp hp
    obtain ⟨y, hy, rfl⟩ := List.mem_map.mp hp
    have sD := subsA_good hD
    have ascD : Asc D := hdead.sublist sD
    have hDL : ∀ z ∈ D, z ∉ L := fun z hz => ((hmem z).mp (sD.subset hz)).2
    have hDl := sD.length_le
    rw [mt_iff hT hTl hTL hy ascD hDL (by omega), a4]
    constructor
    · rintro ⟨s', b1, b2, b3, b4⟩
      obtain rfl := live_uniq a1 a2 a3 b1 (hTL y hy) b2
      rw [a1] at b1
      obtain rfl := Option.some.inj b1
      exact ⟨b3, by rw [b4]⟩
    · rintro ⟨b1, b2⟩
      have c1 : D = srt (ddL L (r.take s)) := congrArg Prod.fst b2
      have c2 : y = x := congrArg Prod.snd b2
      subst c2
      exact ⟨s, a1, a3, b1, c1.symm⟩
  by_cases c : srt ((lvL L r).take (q + 1)) = T
  · rw [if_pos (decide_eq_true c)]
    refine (countP_one (prL_nodup (asc_nodup hdead) ndT) (a := (srt (ddL L (r.take s)), x)) ?_ fun p hp => ?_).symm
    · have hxT : x ∈ T := by
        rw [← c, a4]
        exact (srt_perm _).mem_iff.mpr (List.mem_append_right _ (List.mem_singleton.mpr rfl))
      have nd : (ddL L (r.take s)).Nodup := (g2.sublist (List.take_sublist _ _)).filter _
      have sub : (srt (ddL L (r.take s))).Sublist dead := ascSub (srt_asc nd) hdead fun y hy => by
        have h1 := List.mem_filter.mp ((srt_perm _).mem_iff.mp hy)
        exact (hmem y).mpr ⟨g3 y (List.mem_of_mem_take h1.1), by simpa using h1.2⟩
      exact List.mem_flatMap.mpr ⟨_, subsA_mem sub, List.mem_map.mpr ⟨x, hxT, rfl⟩⟩
    · rw [fit p hp]
      exact ⟨fun h => h.2, fun h => ⟨c, h⟩⟩
  · rw [if_neg (fun z => c (of_decide_eq_true z))]
    exact (List.countP_eq_zero.mpr fun p hp h => c ((fit p hp).mp h).1).symm
theorem sum_const {α : Type} (k : Nat) : ∀ l : List α, (l.map fun _ => k).sum = l.length * k
  | [] => by simp
  | a :: l => by rw [List.map_cons, List.sum_cons, sum_const k l, List.length_cons, Nat.succ_mul, Nat.add_comm]
/-- by equal levels every set of live servers holds as many lists -/
theorem held_even {n d q : Nat} {L dead T : List Nat} {rows : List (List Nat)} {w : Nat → Nat} (G : Tab n d rows) (hT : Asc T) (hTl : T.length = q + 1) (hTL : ∀ y ∈ T, y ∈ L) (hLn : ∀ y ∈ L, y < n) (hdead : Asc dead) (hmem : ∀ y, y ∈ dead ↔ y < n ∧ y ∉ L)
    (hd : q + dead.length < d) (hlive : ∀ r ∈ rows, q + 1 ≤ (lvL L r).length) (lev : ∀ s, s ≤ q + dead.length → Lev n s (w s) rows) :
    heldN L (q + 1) rows T = ((subsA dead).map fun D => (q + 1) * w (q + D.length)).sum := by
  rw [held_pairs G hT hTl hTL hdead hmem hd hlive]
  have e1 : ((prL dead T).map fun p => cE (rows.map (edgE (q + p.1.length))) (srt (T.erase p.2 ++ p.1), p.2)) = (prL dead T).map fun p => w (q + p.1.length) := List.map_congr_left fun p hp => by
    obtain ⟨D, hD, hp⟩ := List.mem_flatMap.mp hp
    obtain ⟨y, hy, rfl⟩ := List.mem_map.mp hp
    have sD := subsA_good hD
    have hDl := sD.length_le
    have pm := srt_perm (T.erase y ++ D)
    have ndT := asc_nodup hT
    have hyE : y ∉ T.erase y := fun z => (List.Nodup.mem_erase_iff ndT).mp z |>.1 rfl
    have nd : (T.erase y ++ D).Nodup := List.nodup_append.mpr ⟨ndT.sublist (List.erase_sublist), asc_nodup (hdead.sublist sD), fun a ha b hb e => by
      subst e
      exact ((hmem a).mp (sD.subset hb)).2 (hTL a (List.mem_of_mem_erase ha))⟩
    refine lev (q + D.length) (by omega) _ (allE_mem (hLn y (hTL y hy)) ?_ (srt_asc nd) fun z hz => ?_)
    · rw [pm.length_eq, List.length_append, List.length_erase_of_mem hy]
      omega
    · rcases List.mem_append.mp (pm.mem_iff.mp hz) with hz | hz
      · exact ⟨hLn z (hTL z (List.mem_of_mem_erase hz)), fun e => hyE (by rw [show y = z from e.symm]; rw [show y = z from e.symm] at hz; exact hz)⟩
      · have := (hmem z).mp (sD.subset hz)
        exact ⟨this.1, fun e => this.2 (by rw [show z = y from e]; exact hTL y hy)⟩
  rw [e1]
  unfold prL
  have key : ∀ l : List (List Nat), ((l.flatMap fun D => T.map fun x => (D, x)).map fun p => w (q + p.1.length)).sum = (l.map fun D => (q + 1) * w (q + D.length)).sum := by
    intro l
    induction l with
    | nil => rfl
    | cons D l ih =>
      rw [List.flatMap_cons, List.map_append, List.sum_append, List.map_cons, List.sum_cons, ih, List.map_map]
      congr 1
      show (T.map fun _ => w (q + D.length)).sum = _
      rw [sum_const, hTl]
  exact key _
end Ef
namespace Ef
/-! ### the shares of sets and of servers -/
theorem combs_one {cs : List (List Nat)} {k : List Nat} (hn : cs.Nodup) (h : k ∈ cs) : cs.countP (fun T => decide (k = T)) = 1 :=
  countP_one hn h fun b _ => by
    rw [decide_eq_true_iff]
    exact ⟨fun e => e.symm, fun e => e.symm⟩
/-- the set of the first live servers is one of the sets -/
theorem first_mem {n d q : Nat} {L : List Nat} {rows : List (List Nat)} (G : Tab n d rows) (aL : Asc L) (hlive : ∀ r ∈ rows, q ≤ (lvL L r).length) : ∀ r ∈ rows, srt ((lvL L r).take q) ∈ combs L q := fun r hr => by
  obtain ⟨_, g2, _⟩ := G r hr
  have nd : ((lvL L r).take q).Nodup := (g2.filter _).sublist (List.take_sublist _ _)
  have pm := srt_perm ((lvL L r).take q)
  have hl : (srt ((lvL L r).take q)).length = q := by
    rw [pm.length_eq, List.length_take]
    have := hlive r hr
    omega
  have := combs_mem L _ (ascSub (srt_asc nd) aL fun y hy => by
    have h1 := List.mem_filter.mp (List.mem_of_mem_take (pm.mem_iff.mp hy))
    exact of_decide_eq_true h1.2)
  rw [hl] at this
  exact this
theorem held_total {n d q : Nat} {L : List Nat} {rows : List (List Nat)} (G : Tab n d rows) (aL : Asc L) (hlive : ∀ r ∈ rows, q ≤ (lvL L r).length) : ((combs L q).map fun T => heldN L q rows T).sum = rows.length := by
  have e : ((combs L q).map fun T => heldN L q rows T) = (combs L q).map fun T => rows.countP ((fun T r => decide (srt ((lvL L r).take q) = T)) T) := rfl
  rw [e, swap_sum, sum_congr' (g := fun _ => 1) fun r hr => combs_one (combsNodup L q (asc_nodup aL)) (first_mem G aL hlive r hr), sum_const, Nat.mul_one]
/-- what there is to know of a live set and a factor -/
structure Live (n d q : Nat) (L : List Nat) (rows : List (List Nat)) : Prop where
  tab : Tab n d rows
  asc : Asc L
  lt : ∀ y ∈ L, y < n
  q1 : 1 ≤ q
  qL : q ≤ L.length
  fit : q + (n - L.length) ≤ d
  lev : ∀ s, s < q + (n - L.length) → ∃ w, Lev n s w rows
def deadL (n : Nat) (L : List Nat) : List Nat := (List.range' 0 n).filter fun y => !decide (y ∈ L)
theorem dead_mem {n : Nat} {L : List Nat} (y : Nat) : y ∈ deadL n L ↔ y < n ∧ y ∉ L := by
  unfold deadL
  rw [List.mem_filter, mem_range0]
  simp
theorem dead_asc (n : Nat) (L : List Nat) : Asc (deadL n L) := (asc_range' n 0).filter _
theorem live_dead {n : Nat} {L : List Nat} (aL : Asc L) (hL : ∀ y ∈ L, y < n) : L.length + (deadL n L).length = n := by
  have p : (L ++ deadL n L).Perm (List.range' 0 n) := by
    refine (List.perm_ext_iff_of_nodup ?_ (asc_nodup (asc_range' n 0))).mpr fun y => ?_
    · refine List.nodup_append.mpr ⟨asc_nodup aL, asc_nodup (dead_asc n L), fun a ha b hb e => ?_⟩
      subst e
      exact ((dead_mem a).mp hb).2 ha
    · rw [List.mem_append, dead_mem, mem_range0]
      constructor
      · rintro (h | h)
        · exact hL y h
        · exact h.1
      · intro h
        by_cases c : y ∈ L
        · exact .inl c
        · exact .inr ⟨h, c⟩
  have := p.length_eq
  rw [List.length_append, List.length_range'] at this
  exact this
/-- every list has enough live servers -/
theorem enough {n d : Nat} {L : List Nat} {rows : List (List Nat)} (G : Tab n d rows) (aL : Asc L) (hL : ∀ y ∈ L, y < n) {q : Nat} (h : q + (n - L.length) ≤ d) : ∀ r ∈ rows, q ≤ (lvL L r).length := fun r hr => by
  obtain ⟨g1, g2, g3⟩ := G r hr
  have p := (lv_dd L r).length_eq
  rw [List.length_append, g1] at p
  have h2 : (ddL L r).length ≤ (deadL n L).length := subG_len (g2.filter _) fun y hy => by
    have h1 := List.mem_filter.mp hy
    exact (dead_mem y).mpr ⟨g3 y h1.1, by simpa using h1.2⟩
  have := live_dead aL hL
  omega
theorem Live.enough {n d q : Nat} {L : List Nat} {rows : List (List Nat)} (h : Live n d q L rows) : ∀ r ∈ rows, q ≤ (lvL L r).length := Ef.enough h.tab h.asc h.lt h.fit
theorem Live.const {n d q : Nat} {L : List Nat} {rows : List (List Nat)} (h : Live n d q L rows) : ∃ F, ∀ T ∈ combs L q, heldN L q rows T = F := by
  obtain ⟨p, rfl⟩ : ∃ p, q = p + 1 := ⟨q - 1, by have := h.q1; omega⟩
  have ld := live_dead h.asc h.lt
  have hf := h.fit
  have hq := h.qL
  let w : Nat → Nat := fun s => if hs : s < p + 1 + (n - L.length) then (h.lev s hs).choose else 0
  refine ⟨((subsA (deadL n L)).map fun D => (p + 1) * w (p + D.length)).sum, fun T hT => ?_⟩
  obtain ⟨g1, g2⟩ := combs_good L (p + 1) T hT
  refine held_even h.tab (h.asc.sublist g2) g1 (fun y hy => g2.subset hy) h.lt (dead_asc n L) dead_mem (by omega) h.enough fun s hs => ?_
  have hs2 : s < p + 1 + (n - L.length) := by omega
  have e : w s = (h.lev s hs2).choose := dif_pos hs2
  rw [e]
  exact (h.lev s hs2).choose_spec
/-- every set's share -/
theorem Live.held {n d q : Nat} {L : List Nat} {rows : List (List Nat)} (h : Live n d q L rows) : ∀ T ∈ combs L q, heldN L q rows T * C L.length q = rows.length := by
  obtain ⟨F, hF⟩ := h.const
  have t := held_total h.tab h.asc h.enough
  rw [sum_congr' (g := fun _ => F) hF, sum_const, combsLen] at t
  intro T hT
  rw [hF T hT, Nat.mul_comm]
  exact t
/-- how many lists have a server among the first live ones -/
def ldN (L : List Nat) (q : Nat) (rows : List (List Nat)) (y : Nat) : Nat := rows.countP fun r => decide (y ∈ (lvL L r).take q)
theorem combs_with : ∀ (l : List Nat) (k y : Nat), l.Nodup → y ∈ l → (combs l (k + 1)).countP (fun T => decide (y ∈ T)) = C (l.length - 1) k
  | [], k, y, _, h => absurd h List.not_mem_nil
  | x :: r, k, y, hn, h => by
    obtain ⟨h1, h2⟩ := List.nodup_cons.mp hn
    show ((combs r k).map (x :: ·) ++ combs r (k + 1)).countP _ = C (r.length + 1 - 1) k
    rw [List.countP_append, List.countP_map, Nat.add_sub_cancel]
    by_cases e : y = x
    · subst e
      have a1 : (combs r k).countP ((fun T => decide (y ∈ T)) ∘ fun T => y :: T) = (combs r k).length := List.countP_eq_length.mpr fun T _ => by simp
      have a2 : (combs r (k + 1)).countP (fun T => decide (y ∈ T)) = 0 := List.countP_eq_zero.mpr fun T hT z => h1 ((combs_good r (k + 1) T hT).2.subset (of_decide_eq_true z))
      rw [a1, a2, combsLen]
      rfl
    · have hy : y ∈ r := (List.mem_cons.mp h).resolve_left e
      have rp := List.length_pos_of_mem hy
      have a1 : (combs r k).countP ((fun T => decide (y ∈ T)) ∘ fun T => x :: T) = (combs r k).countP fun T => decide (y ∈ T) := List.countP_congr fun T _ => by simp [e]
      rw [a1, combs_with r k y h2 hy]
      cases k with
      | zero =>
        rw [combs_zero]
        show 0 + C (r.length - 1) 0 = C r.length 0
        rw [C_zero, C_zero]
      | succ k =>
        rw [combs_with r k y h2 hy]
        obtain ⟨m, em⟩ : ∃ m, r.length = m + 1 := ⟨r.length - 1, by omega⟩
        rw [em]
        rfl
theorem Live.load {n d q : Nat} {L : List Nat} {rows : List (List Nat)} (h : Live n d q L rows) : ∀ y ∈ L, ldN L q rows y * L.length = rows.length * q := fun y hy => by
  obtain ⟨p, rfl⟩ : ∃ p, q = p + 1 := ⟨q - 1, by have := h.q1; omega⟩
  obtain ⟨F, hF⟩ := h.const
  have hq := h.qL
  have t := held_total h.tab h.asc h.enough
  rw [sum_congr' (g := fun _ => F) hF, sum_const, combsLen] at t
  -- the sets with this server
  have e1 : ldN L (p + 1) rows y = (((combs L (p + 1)).filter fun T => decide (y ∈ T)).map fun T => heldN L (p + 1) rows T).sum := by
    have e2 : (((combs L (p + 1)).filter fun T => decide (y ∈ T)).map fun T => heldN L (p + 1) rows T) = ((combs L (p + 1)).filter fun T => decide (y ∈ T)).map fun T => rows.countP ((fun T r => decide (srt ((lvL L r).take (p + 1)) = T)) T) := rfl
    rw [e2, swap_sum]
    unfold ldN
    rw [← sum_ind]
    refine sum_congr' fun r hr => ?_
    have hm := first_mem h.tab h.asc h.enough r hr
    have nd := (combsNodup L (p + 1) (asc_nodup h.asc)).filter fun T => decide (y ∈ T)
    have pm := srt_perm ((lvL L r).take (p + 1))
    by_cases c : y ∈ (lvL L r).take (p + 1)
    · rw [if_pos (decide_eq_true c)]
      exact (combs_one nd (List.mem_filter.mpr ⟨hm, decide_eq_true (pm.mem_iff.mpr c)⟩)).symm
    · rw [if_neg (fun z => c (of_decide_eq_true z))]
      refine (List.countP_eq_zero.mpr fun T hT z => c ?_).symm
      have hT2 := of_decide_eq_true (List.mem_filter.mp hT).2
      rw [← of_decide_eq_true z] at hT2
      exact pm.mem_iff.mp hT2
  have e3 : ((combs L (p + 1)).filter fun T => decide (y ∈ T)).length = C (L.length - 1) p := by
    rw [← List.countP_eq_length_filter]
    exact combs_with L p y (asc_nodup h.asc) hy
  rw [e1, sum_congr' (g := fun _ => F) fun T hT => hF T (List.mem_filter.mp hT).1, sum_const, e3, ← t]
  have e4 := edge_alt2 (n := L.length) (i := p) (by omega)
  rw [Nat.mul_right_comm, Nat.mul_comm (C (L.length - 1) p) L.length, ← e4, Nat.mul_right_comm]
/-! what the levels do not tell: the order of the rows, the names of the servers -/
theorem Lev.perm {n s w : Nat} {rows rows' : List (List Nat)} (p : rows'.Perm rows) (h : Lev n s w rows) : Lev n s w rows' := fun e he => (cE_perm (p.map _) e).trans (h e he)
theorem Tab.perm {n d : Nat} {rows rows' : List (List Nat)} (p : rows'.Perm rows) (h : Tab n d rows) : Tab n d rows' := fun r hr => h r (p.mem_iff.mp hr)
/-- servers renamed -/
structure Names (n : Nat) (f g : Nat → Nat) : Prop where
  fn : ∀ x, x < n → f x < n
  gn : ∀ x, x < n → g x < n
  gf : ∀ x, x < n → g (f x) = x
  fg : ∀ x, x < n → f (g x) = x
theorem names_of {n : Nat} {ns : List Nat} (p : ns.Perm (List.range' 0 n)) : Names n (fun x => ns.getD x 0) (fun y => ns.idxOf y) := by
  have hl : ns.length = n := by
    rw [p.length_eq, List.length_range']
  have nd : ns.Nodup := p.nodup_iff.mpr (asc_nodup (asc_range' n 0))
  have at_ : ∀ x, x < n → ns[x]? = some (ns.getD x 0) := fun x hx => getD_of (by omega)
  have mem : ∀ y, y < n → y ∈ ns := fun y hy => p.mem_iff.mpr (mem_range0.mpr hy)
  refine ⟨fun x hx => mem_range0.mp (p.mem_iff.mp (List.mem_of_getElem? (at_ x hx))), fun x hx => ?_, fun x hx => ?_, fun x hx => ?_⟩
  · have := List.idxOf_lt_length_of_mem (mem x hx)
    omega
  · have h1 := at_ x hx
    have h2 := idx_at (List.mem_of_getElem? h1)
    exact nodup_inj nd h2 h1
  · show ns.getD (ns.idxOf x) 0 = x
    rw [List.getD_eq_getElem?_getD, idx_at (mem x hx)]
    rfl
theorem Names.inj {n : Nat} {f g : Nat → Nat} (N : Names n f g) {a b : Nat} (ha : a < n) (hb : b < n) (e : f a = f b) : a = b := by
  rw [← N.gf a ha, ← N.gf b hb, e]
theorem Names.tab {n d : Nat} {f g : Nat → Nat} {rows : List (List Nat)} (N : Names n f g) (h : Tab n d rows) : Tab n d (rows.map fun r => r.map f) := fun r hr => by
  obtain ⟨r0, hr0, rfl⟩ := List.mem_map.mp hr
  obtain ⟨h1, h2, h3⟩ := h r0 hr0
  refine ⟨by rw [List.length_map]; exact h1, ?_, fun x hx => ?_⟩
  · refine List.pairwise_map.mpr (List.Pairwise.imp_of_mem (fun {a b} ha hb hab e => hab (N.inj (h3 a ha) (h3 b hb) e)) h2)
  · obtain ⟨y, hy, rfl⟩ := List.mem_map.mp hx
    exact N.fn y (h3 y hy)
theorem map_back {n : Nat} {f g : Nat → Nat} {l : List Nat} (hl : ∀ x ∈ l, x < n) (h : ∀ x, x < n → g (f x) = x) : (l.map f).map g = l := by
  rw [List.map_map]
  conv => rhs; rw [← List.map_id l]
  exact List.map_congr_left fun x hx => h x (hl x hx)
theorem Names.lev {n d s w : Nat} {f g : Nat → Nat} {rows : List (List Nat)} (N : Names n f g) (G : Tab n d rows) (hs : s < d) (h : Lev n s w rows) : Lev n s w (rows.map fun r => r.map f) := fun e he => by
  obtain ⟨x, hx, he⟩ := List.mem_flatMap.mp he
  obtain ⟨S, hS, rfl⟩ := List.mem_map.mp he
  obtain ⟨g1, g2⟩ := combs_good _ _ _ hS
  have hxn := List.mem_range.mp hx
  have memS : ∀ y ∈ S, y < n ∧ y ≠ x := fun y hy => by
    have := List.mem_filter.mp (g2.subset hy)
    exact ⟨List.mem_range.mp this.1, by simpa using this.2⟩
  have ascS : Asc S := (without_asc n x).sublist g2
  have hin : (srt (S.map g), g x) ∈ allE n s := by
    have pm := srt_perm (S.map g)
    have nd : (S.map g).Nodup := List.pairwise_map.mpr (List.Pairwise.imp_of_mem (fun {a b} ha hb hab e => hab (by rw [← N.fg a (memS a ha).1, ← N.fg b (memS b hb).1, e])) (asc_nodup ascS))
    refine allE_mem (N.gn x hxn) (by rw [pm.length_eq, List.length_map, g1]) (srt_asc nd) fun y hy => ?_
    obtain ⟨z, hz, rfl⟩ := List.mem_map.mp (pm.mem_iff.mp hy)
    exact ⟨N.gn z (memS z hz).1, fun e => (memS z hz).2 (by rw [← N.fg z (memS z hz).1, ← N.fg x hxn, e])⟩
  rw [← h _ hin, List.map_map, cE_map, cE_map]
  refine List.countP_congr fun r hr => ?_
  obtain ⟨h1, h2, h3⟩ := G r hr
  have hlt : s < r.length := by omega
  rw [decide_eq_true_iff, decide_eq_true_iff]
  have ex : (r.map f).getD s 0 = f (r.getD s 0) := by
    rw [List.getD_eq_getElem?_getD, List.getD_eq_getElem?_getD, List.getElem?_map, List.getElem?_eq_getElem hlt]
    rfl
  have hrs : r.getD s 0 < n := by
    rw [List.getD_eq_getElem?_getD, List.getElem?_eq_getElem hlt]
    exact h3 _ (List.getElem_mem _)
  have ht : ∀ y ∈ r.take s, y < n := fun y hy => h3 y (List.mem_of_mem_take hy)
  show edgE s (r.map f) = (S, x) ↔ edgE s r = (srt (S.map g), g x)
  unfold edgE
  rw [ex, ← List.map_take]
  constructor
  · intro e
    have e1 : srt ((r.take s).map f) = S := congrArg Prod.fst e
    have e2 : f (r.getD s 0) = x := congrArg Prod.snd e
    have p1 : ((r.take s).map f).Perm S := (srt_perm _).symm.trans (e1 ▸ List.Perm.refl _)
    have p2 := p1.map g
    rw [map_back ht N.gf] at p2
    rw [srt_eq p2, ← e2, N.gf _ hrs]
  · intro e
    have e1 : srt (r.take s) = srt (S.map g) := congrArg Prod.fst e
    have e2 : r.getD s 0 = g x := congrArg Prod.snd e
    have p2 := (perm_of_srt e1).map f
    rw [map_back (fun y hy => (memS y hy).1) N.fg] at p2
    rw [srt_eq p2, srt_self ascS, e2, N.fg x hxn]
end Ef
namespace Ef
open PySem PySem.Spec PyProof.Rows L2
/-! ### data with empty dicts in it, shown -/
mutual
inductive Dz (K : PySem.W.Frag) (H : Hp) : V → PyData → Prop
  | non : Dz K H .non .none
  | bl (b : Bool) : Dz K H (.bl b) (.bool b)
  | int (i : Int) : Dz K H (.int i) (.int i)
  | str (x : Str) : Dz K H (.str x) (.str x)
  | dic {p : Addr} : H p = some (.dK []) → Dz K H (.ref p) (.dict [])
  | tup {a : Addr} {xs : List V} {ds : List PyData} : SqT K H a xs → DzAll K H xs ds → Dz K H (.ref a) (.tuple ds)
  | lst {a : Addr} {xs : List V} {ds : List PyData} : SqL K H a xs → a ≠ sysModules → DzAll K H xs ds → Dz K H (.ref a) (.list ds)
inductive DzAll (K : PySem.W.Frag) (H : Hp) : List V → List PyData → Prop
  | nil : DzAll K H [] []
  | cons {v : V} {vs : List V} {d : PyData} {ds : List PyData} : Dz K H v d → DzAll K H vs ds → DzAll K H (v :: vs) (d :: ds)
end
section
variable {K : PySem.W.Frag} {H H' : Hp}
mutual
theorem Dz.mono (e : ∀ b o, H b = some o → (∀ ps, o ≠ .tbl ps) → H' b = some o) : ∀ {v : V} {d : PyData}, Dz K H v d → Dz K H' v d
  | _, _, .non => .non
  | _, _, .bl b => .bl b
  | _, _, .int i => .int i
  | _, _, .str x => .str x
  | _, _, .dic h => .dic (e _ _ h (fun _ z => by cases z))
  | _, _, .tup h a => .tup (by
      rcases h with (h | ⟨o, h⟩) | h
      · exact .inl (.inl (e _ _ h (fun _ z => by cases z)))
      · exact .inl (.inr ⟨o, e _ _ h (fun _ z => by cases z)⟩)
      · exact .inr h) (DzAll.mono e a)
  | _, _, .lst h n a => .lst (by
      rcases h with (h | ⟨o, h⟩) | h
      · exact .inl (.inl (e _ _ h (fun _ z => by cases z)))
      · exact .inl (.inr ⟨o, e _ _ h (fun _ z => by cases z)⟩)
      · exact .inr h) n (DzAll.mono e a)
theorem DzAll.mono (e : ∀ b o, H b = some o → (∀ ps, o ≠ .tbl ps) → H' b = some o) : ∀ {vs : List V} {ds : List PyData}, DzAll K H vs ds → DzAll K H' vs ds
  | _, _, .nil => .nil
  | _, _, .cons a b => .cons (Dz.mono e a) (DzAll.mono e b)
end
end
section
variable {X : Cx} {pins : List (Addr × Obj)} {σ : L2.St} {H : Hp} {s : Shared}
theorem dz_app {a : Addr} {xs ys : List Addr} (h1 : a ∉ xs) (h2 : a ∉ ys) : a ∉ xs ++ ys := fun z => (List.mem_append.mp z).elim h1 h2
mutual
theorem Dz.reads (I : Inv X pins σ H s) : ∀ (d : PyData) (v : V) (u : Value), Dz X.K H v d → RelV v u → ∃ as, Reads s.heap u d as ∧ sysModules ∉ as
  | .none, _, _, h, r => by
    cases h
    cases r
    exact ⟨_, Reads.none, List.not_mem_nil⟩
  | .bool b, _, _, h, r => by
    cases h
    cases r
    exact ⟨_, Reads.bool b, List.not_mem_nil⟩
  | .int i, _, _, h, r => by
    cases h
    obtain ⟨t, rfl⟩ := r
    exact ⟨_, Reads.int i t, List.not_mem_nil⟩
  | .str x, _, _, h, r => by
    cases h
    obtain ⟨t, rfl⟩ := r
    exact ⟨_, Reads.str x t, List.not_mem_nil⟩
  | .list ds, _, _, h, r => by
    cases h with
    | lst hs n ha =>
      cases r
      obtain ⟨its, rv, ⟨o, nn, ho, hc, _, hd⟩, _⟩ := I.list hs
      obtain ⟨as, hr, hn⟩ := Dz.readsAll I ds _ its ha rv
      refine ⟨_, Reads.list ho hc hd hr, fun z => ?_⟩
      rcases List.mem_cons.mp z with e | e
      · exact n e.symm
      · exact hn e
  | .tuple ds, _, _, h, r => by
    cases h with
    | tup hs ha =>
      cases r
      obtain ⟨its, rv, ⟨o, ho, hc, n, hd⟩, _⟩ := I.tuple hs
      obtain ⟨as, hr, hn⟩ := Dz.readsAll I ds _ its ha rv
      exact ⟨_, Reads.tuple ho hc hd hr, hn⟩
  | .dict kvs, _, _, h, r => by
    cases h with
    | dic hp =>
      rename_i p
      cases r
      obtain ⟨_, hsys, vs, kv, o, es, ep, ho, hx, hd, hk, hpr, hn⟩ := dk_of I.hok hp
      have e1 : vs = [] := by
        cases kv
        rfl
      subst e1
      have e2 : es.toList = [] := by
        generalize es.toList = l at hpr ⊢
        cases hpr
        rfl
      have rd : Reads s.heap (.ref p) (.dict []) (p :: [] ++ []) := by
        refine .dict ho hx.1 hd ?_ ?_
        · rw [e2]
          exact .nil
        · rw [e2]
          exact .nil
      refine ⟨_, rd, fun z => ?_⟩
      have e3 : sysModules = p := by simpa using z
      rw [← e3] at hsys
      exact absurd hsys (by simp)
theorem Dz.readsAll (I : Inv X pins σ H s) : ∀ (ds : List PyData) (vs : List V) (us : List Value), DzAll X.K H vs ds → Vals vs us → ∃ as, ReadsAll s.heap us ds as ∧ sysModules ∉ as
  | [], _, _, h, r => by
    cases h
    cases r
    exact ⟨_, ReadsAll.nil, List.not_mem_nil⟩
  | d :: ds, _, _, h, r => by
    cases h with
    | cons h1 h2 =>
      cases r with
      | cons r1 r2 =>
        obtain ⟨as, q1, n1⟩ := Dz.reads I d _ _ h1 r1
        obtain ⟨bs, q2, n2⟩ := Dz.readsAll I ds _ _ h2 r2
        exact ⟨_, ReadsAll.cons q1 q2, dz_app n1 n2⟩
end
end
/-- what may be shown: plain data, or data with empty dicts in it -/
def ShowV (K : PySem.W.Frag) (H : Hp) (v : V) (d : PyData) : Prop := (Dp K H v d ∧ Sh 60 80000 d) ∨ ∃ a, v = .ref a ∧ Dz K H v d ∧ d.showable = true ∧ d.depth ≤ 60 ∧ d.shown.length ≤ sizeLine
def rReprZ (K : PySem.W.Frag) : List V → Hp → VK → Prop := fun xs H Q => ∃ v d, xs = [v] ∧ ShowV K H v d ∧ Q (.str d.shown) H
section
variable {X : Cx} (K : PySem.W.Frag)
theorem call_reprZ (gd : X.A.guards = some []) (hu : X.A.units + 66 < cLine) (h : X.K = K := by rfl) : CallR X (.builtin "repr") (rReprZ K) := by
  subst h
  intro pins s σ H xs us Q I r h
  obtain ⟨v, d, rfl, hv, q⟩ := h
  rcases hv with ⟨hD, hS⟩ | ⟨a, rfl, hz, hsh, hdp, hsz⟩
  · exact call_reprD gd hu pins s σ H _ us Q I r ⟨v, d, rfl, hD, hS, q⟩
  · obtain ⟨u, rfl, ru⟩ := vals1 r
    obtain ⟨as, rd, hn⟩ := Dz.reads I d _ _ hz ru
    obtain rfl : u = Value.ref a := ru
    refine repr_of_reads' rd hsh (fun _ => hn) gd (by omega) (fun _ _ e => e) (fun h' u tk hk => ?_) hsz
    exact ⟨.str _, H, I.kept hk, ⟨u, rfl⟩, q⟩
end
/-! ### a list times an int, its address told -/
def rRepN : R2 := fun x y H Q => ∃ l k xs, x = .ref l ∧ y = .int k ∧ H l = some (.lst xs) ∧ 0 ≤ k ∧ k < 2 ^ 63 ∧ xs.length * k.toNat ≤ sizeLine ∧ ∀ p, H p = none → p ≠ sysModules → Q (.ref p) (upd H p (.lst (List.replicate k.toNat xs).flatten))
section
variable {X : Cx}
theorem rep_fold (its : List Value) : ∀ m : Nat, List.foldl (fun a b => a ++ b) #[] (List.replicate m its.toArray) = (List.replicate m its).flatten.toArray := fun m => by
  have z := foldl_rep its m []
  rwa [List.nil_append] at z
theorem op_repN : OpR X (binaryOp .Mult) rRepN := by
  rintro pins s σ H _ _ v u Q I rx ry ⟨l, k, xs, rfl, rfl, hl, k0, k1, size, q⟩
  obtain rfl : v = Value.ref l := rx
  obtain ⟨tk, rfl⟩ := ry
  obtain ⟨lx, its, n, rel, len, get⟩ := I.lstM hl
  have fits : its.toArray.size * k.toNat ≤ sizeLine := by
    rw [List.size_toArray, ← len]
    exact size
  have line : (sizeLine : Nat) ≤ (2 ^ 63 - 1) / 8 := by decide
  have a1 : ¬ (!Builtin.List.listFitsIndex k) = true := by
    rw [fitsIndex_both (by omega) k1]
    decide
  have a2 : ¬ its.toArray.size * k.toNat > (2 ^ 63 - 1) / 8 := Nat.not_lt.mpr (Nat.le_trans fits line)
  have a3 : ¬ Builtin.List.listTooLong (its.toArray.size * k.toNat) = true := by
    rw [notLongL fits]
    decide
  have whole : List.foldl (fun a b => a ++ b) #[] (List.replicate (if its.toArray.isEmpty = true then 0 else k.toNat) its.toArray) = (List.replicate k.toNat its).flatten.toArray := by
    rw [rep_fold]
    cases its <;> simp
  refine wpAny_binaryOp_repeat_ref (T := "list") (U := "int") (by decide) ⟨_, get, rfl⟩ (fun s' => typeIs_int s' k tk) noFill_list_mul F.fills_int_mul F.slot_int_rmul repeat_list F.slot_int_index.lookup (call_meets F.slot_int_rmul (typeIs_int s k tk) F.entry_int_rmul (F.args_int_rmul_2 _ _) (int___rmul___int_list k tk l its.toArray n) ⟨get, rfl, ⟨_, get, rfl⟩, ?_⟩)
  refine call_meets F.slot_list_mul ⟨_, get, rfl⟩ F.entry_list_mul (F.args_list_mul_2 _ _) (AutoListH.list___mul___list_int_3 l its.toArray n k tk a1 a2 a3) ⟨get, ?_⟩
  rw [whole]
  refine ⟨.ref _, _, I.lnew (t' := s.toks) (rel.rep k.toNat) ?_, rfl, q _ I.fresh (far_new I)⟩
  rw [PyProof.Rows.lm_len_rep_flat, Nat.mul_comm]
  exact size
end
end Ef
namespace Ef
open PySem PySem.Spec PyProof.Rows L2
/-! ### data with dicts {} and {0: any of them} in it, shown -/
mutual
inductive De (K : PySem.W.Frag) (H : Hp) : V → PyData → Prop
  | non : De K H .non .none
  | bl (b : Bool) : De K H (.bl b) (.bool b)
  | int (i : Int) : De K H (.int i) (.int i)
  | str (x : Str) : De K H (.str x) (.str x)
  | dic {p : Addr} : H p = some (.dK []) → De K H (.ref p) (.dict [])
  | dicV {p : Addr} {i : Int} {v : V} {d : PyData} : H p = some (.dK [(.inl i, v)]) → De K H v d → De K H (.ref p) (.dict [(.int i, d)])
  | tup {a : Addr} {xs : List V} {ds : List PyData} : SqT K H a xs → DeAll K H xs ds → De K H (.ref a) (.tuple ds)
  | lst {a : Addr} {xs : List V} {ds : List PyData} : SqL K H a xs → a ≠ sysModules → DeAll K H xs ds → De K H (.ref a) (.list ds)
inductive DeAll (K : PySem.W.Frag) (H : Hp) : List V → List PyData → Prop
  | nil : DeAll K H [] []
  | cons {v : V} {vs : List V} {d : PyData} {ds : List PyData} : De K H v d → DeAll K H vs ds → DeAll K H (v :: vs) (d :: ds)
end
section
variable {K : PySem.W.Frag} {H H' : Hp}
mutual
theorem De.mono (e : ∀ b o, H b = some o → (∀ ps, o ≠ .tbl ps) → H' b = some o) : ∀ {v : V} {d : PyData}, De K H v d → De K H' v d
  | _, _, .non => .non
  | _, _, .bl b => .bl b
  | _, _, .int i => .int i
  | _, _, .str x => .str x
  | _, _, .dic h => .dic (e _ _ h (fun _ z => by cases z))
  | _, _, .dicV h a => .dicV (e _ _ h (fun _ z => by cases z)) (De.mono e a)
  | _, _, .tup h a => .tup (by
      rcases h with (h | ⟨o, h⟩) | h
      · exact .inl (.inl (e _ _ h (fun _ z => by cases z)))
      · exact .inl (.inr ⟨o, e _ _ h (fun _ z => by cases z)⟩)
      · exact .inr h) (DeAll.mono e a)
  | _, _, .lst h n a => .lst (by
      rcases h with (h | ⟨o, h⟩) | h
      · exact .inl (.inl (e _ _ h (fun _ z => by cases z)))
      · exact .inl (.inr ⟨o, e _ _ h (fun _ z => by cases z)⟩)
      · exact .inr h) n (DeAll.mono e a)
theorem DeAll.mono (e : ∀ b o, H b = some o → (∀ ps, o ≠ .tbl ps) → H' b = some o) : ∀ {vs : List V} {ds : List PyData}, DeAll K H vs ds → DeAll K H' vs ds
  | _, _, .nil => .nil
  | _, _, .cons a b => .cons (De.mono e a) (DeAll.mono e b)
end
end
section
variable {X : Cx} {pins : List (Addr × Obj)} {σ : L2.St} {H : Hp} {s : Shared}
theorem de_app {a : Addr} {xs ys : List Addr} (h1 : a ∉ xs) (h2 : a ∉ ys) : a ∉ xs ++ ys := fun z => (List.mem_append.mp z).elim h1 h2
mutual
theorem De.reads (I : Inv X pins σ H s) : ∀ {v : V} {d : PyData}, De X.K H v d → ∀ u : Value, RelV v u → ∃ as, Reads s.heap u d as ∧ sysModules ∉ as
  | _, _, .non, _, r => by
    cases r
    exact ⟨_, Reads.none, List.not_mem_nil⟩
  | _, _, .bl b, _, r => by
    cases r
    exact ⟨_, Reads.bool b, List.not_mem_nil⟩
  | _, _, .int i, _, r => by
    obtain ⟨t, rfl⟩ := r
    exact ⟨_, Reads.int i t, List.not_mem_nil⟩
  | _, _, .str x, _, r => by
    obtain ⟨t, rfl⟩ := r
    exact ⟨_, Reads.str x t, List.not_mem_nil⟩
  | _, _, .lst hs n ha, _, r => by
    cases r
    obtain ⟨its, rv, ⟨o, nn, ho, hc, _, hd⟩, _⟩ := I.list hs
    obtain ⟨as, hr, hn⟩ := De.readsAll I ha its rv
    refine ⟨_, Reads.list ho hc hd hr, fun z => ?_⟩
    rcases List.mem_cons.mp z with e | e
    · exact n e.symm
    · exact hn e
  | _, _, .tup hs ha, _, r => by
    cases r
    obtain ⟨its, rv, ⟨o, ho, hc, n, hd⟩, _⟩ := I.tuple hs
    obtain ⟨as, hr, hn⟩ := De.readsAll I ha its rv
    exact ⟨_, Reads.tuple ho hc hd hr, hn⟩
  | .ref p, _, .dic hp, _, r => by
    cases r
    obtain ⟨_, hsys, vs, kv, o, es, ep, ho, hx, hd, hk, hpr, hn⟩ := dk_of I.hok hp
    have e1 : vs = [] := by
      cases kv
      rfl
    subst e1
    have e2 : es.toList = [] := by
      generalize es.toList = l at hpr ⊢
      cases hpr
      rfl
    have rd : Reads s.heap (.ref p) (.dict []) (p :: [] ++ []) := by
      refine .dict ho hx.1 hd ?_ ?_
      · rw [e2]
        exact .nil
      · rw [e2]
        exact .nil
    refine ⟨_, rd, fun z => ?_⟩
    have e3 : sysModules = p := by simpa using z
    rw [← e3] at hsys
    exact absurd hsys (by simp)
  | .ref p, _, @De.dicV _ _ _ i v d hp ha, _, r => by
    cases r
    obtain ⟨_, hsys, vs, kv, o, es, ep, ho, hx, hd, hk, hpr, hn⟩ := dk_of I.hok hp
    cases kv with
    | @cons _ q _ vs' r0 r1 =>
    cases r1
    obtain ⟨k1, u1⟩ := q
    obtain ⟨ek, ru⟩ := r0
    have ek : Sum.inl i = k1 := ek
    have ru : RelV v u1 := ru
    subst ek
    obtain ⟨bs, rt, hnt⟩ := De.reads I ha u1 ru
    generalize hel : es.toList = el at hpr
    cases hpr with
    | @cons e _ es' _ k1 k2 k3 =>
    cases k3
    obtain ⟨tk, ek2⟩ : ∃ tk, e.key = Value.int i tk := by
      rcases keyIs_shape (show keyIs (Sum.inl i) e.key = true from k1) with ⟨j, tj, e1, e2⟩ | ⟨x, tj, e1, e2⟩
      · cases e1
        exact ⟨tj, e2⟩
      · cases e1
    have rd : Reads s.heap (.ref p) (.dict [(.int i, d)]) (p :: ([] ++ []) ++ (bs ++ [])) := by
      refine .dict ho hx.1 hd ?_ ?_
      · rw [hel]
        show ReadsAll s.heap [e.key] [PyData.int i] _
        rw [ek2]
        exact .cons (.int i tk) .nil
      · rw [hel]
        show ReadsAll s.heap [e.val] [d] _
        rw [show e.val = u1 from k2]
        exact .cons rt .nil
    refine ⟨_, rd, fun z => ?_⟩
    have z2 : sysModules = p ∨ sysModules ∈ bs := by simpa using z
    rcases z2 with e3 | e3
    · rw [← e3] at hsys
      exact absurd hsys (by simp)
    · exact hnt e3
theorem De.readsAll (I : Inv X pins σ H s) : ∀ {vs : List V} {ds : List PyData}, DeAll X.K H vs ds → ∀ us : List Value, Vals vs us → ∃ as, ReadsAll s.heap us ds as ∧ sysModules ∉ as
  | _, _, .nil, _, r => by
    cases r
    exact ⟨_, ReadsAll.nil, List.not_mem_nil⟩
  | _, _, .cons h1 h2, _, r => by
    cases r with
    | cons r1 r2 =>
      obtain ⟨as, q1, n1⟩ := De.reads I h1 _ r1
      obtain ⟨bs, q2, n2⟩ := De.readsAll I h2 _ r2
      exact ⟨_, ReadsAll.cons q1 q2, de_app n1 n2⟩
end
end
/-- what may be shown: plain data, or data with empty dicts in it -/
def ShowE (K : PySem.W.Frag) (H : Hp) (v : V) (d : PyData) : Prop := (Dp K H v d ∧ Sh 60 80000 d) ∨ ∃ a, v = .ref a ∧ De K H v d ∧ d.showable = true ∧ d.depth ≤ 60 ∧ d.shown.length ≤ sizeLine
def rReprE (K : PySem.W.Frag) : List V → Hp → VK → Prop := fun xs H Q => ∃ v d, xs = [v] ∧ ShowE K H v d ∧ Q (.str d.shown) H
section
variable {X : Cx} (K : PySem.W.Frag)
theorem call_reprE (gd : X.A.guards = some []) (hu : X.A.units + 66 < cLine) (h : X.K = K := by rfl) : CallR X (.builtin "repr") (rReprE K) := by
  subst h
  intro pins s σ H xs us Q I r h
  obtain ⟨v, d, rfl, hv, q⟩ := h
  rcases hv with ⟨hD, hS⟩ | ⟨a, rfl, hz, hsh, hdp, hsz⟩
  · exact call_reprD gd hu pins s σ H _ us Q I r ⟨v, d, rfl, hD, hS, q⟩
  · obtain ⟨u, rfl, ru⟩ := vals1 r
    obtain ⟨as, rd, hn⟩ := De.reads I hz _ ru
    obtain rfl : u = Value.ref a := ru
    refine repr_of_reads' rd hsh (fun _ => hn) gd (by omega) (fun _ _ e => e) (fun h' u tk hk => ?_) hsz
    exact ⟨.str _, H, I.kept hk, ⟨u, rfl⟩, q⟩
end
end Ef
namespace Ef
open PySem PySem.Spec PyProof.Rows L2
def topS (i : Nat) : Stmt := PySem.Challenge.pw_evenfailover_k22_witnesses_of_any_value.main.body.getD i (.Pass ⟨0, 0, 0, 0⟩)
abbrev sPlain : Stmt := topS 4
abbrev NPlain : List Str := ["thing"]
theorem scPlain : FnScope ["thing"] ["thing"] (defScope sPlain) := ⟨rfl, rfl, rfl, by decide +kernel, rfl, by decide +kernel, by decide +kernel⟩
abbrev sReachOf : Stmt := topS 5
abbrev NReachOf : List Str := ["n", "failures", "factor"]
theorem scReachOf : FnScope ["n", "failures", "factor"] ["n", "failures", "factor"] (defScope sReachOf) := ⟨rfl, rfl, rfl, by decide +kernel, rfl, by decide +kernel, by decide +kernel⟩
abbrev sSet22 : Stmt := topS 7
abbrev NSet22 : List Str := ["n", "thing", "least", "server"]
theorem scSet22 : FnScope ["n", "thing", "least", "server"] ["n", "thing"] (defScope sSet22) := ⟨rfl, rfl, rfl, by decide +kernel, rfl, by decide +kernel, by decide +kernel⟩
abbrev sHold : Stmt := topS 9
abbrev NHold : List Str := ["order", "live", "factor", "wanted", "found", "server"]
theorem scHold : FnScope ["order", "live", "factor", "wanted", "found", "server"] ["order", "live", "factor"] (defScope sHold) := ⟨rfl, rfl, rfl, by decide +kernel, rfl, by decide +kernel, by decide +kernel⟩
abbrev sHelds : Stmt := topS 10
abbrev NHelds : List Str := ["table", "live", "factor", "held", "order", "members"]
theorem scHelds : FnScope ["table", "live", "factor", "held", "order", "members"] ["table", "live", "factor"] (defScope sHelds) := ⟨rfl, rfl, rfl, by decide +kernel, rfl, by decide +kernel, by decide +kernel⟩
abbrev sChkR : Stmt := topS 12
abbrev NChkR : List Str := ["n", "table", "failures", "factor", "order"]
theorem scChkR : FnScope ["n", "table", "failures", "factor", "order"] ["n", "table", "failures", "factor"] (defScope sChkR) := ⟨rfl, rfl, rfl, by decide +kernel, rfl, by decide +kernel, by decide +kernel⟩
abbrev sClaim22 : Stmt := topS 13
abbrev NClaim22 : List Str := ["n", "failures", "factor", "thing", "members", "live", "fewer", "more"]
theorem scClaim22 : FnScope ["n", "failures", "factor", "thing", "members", "live", "fewer", "more"] ["n", "failures", "factor", "thing"] (defScope sClaim22) := ⟨rfl, rfl, rfl, by decide +kernel, rfl, by decide +kernel, by decide +kernel⟩
abbrev sShows22 : Stmt := topS 14
abbrev NShows22 : List Str := ["n", "table", "failures", "factor", "thing", "live", "fewer", "more", "held"]
theorem scShows22 : FnScope ["n", "table", "failures", "factor", "thing", "live", "fewer", "more", "held"] ["n", "table", "failures", "factor", "thing"] (defScope sShows22) := ⟨rfl, rfl, rfl, by decide +kernel, rfl, by decide +kernel, by decide +kernel⟩
abbrev sPot : Stmt := topS 16
abbrev NPot : List Str := ["_law_script", "_law_k", "_law_cell", "_law_own"]
theorem scPot : FnScope ["_law_script", "_law_k", "_law_cell", "_law_own"] ["_law_script", "_law_k"] (defScope sPot) := ⟨rfl, rfl, rfl, by decide +kernel, rfl, by decide +kernel, by decide +kernel⟩
abbrev sTake : Stmt := topS 17
abbrev NTake : List Str := ["_law_pot_here", "_law_size", "_law_digit", "_law_prime", "_law_mixed_here"]
theorem scTake : FnScope ["_law_pot_here", "_law_size", "_law_digit", "_law_prime", "_law_mixed_here"] ["_law_pot_here", "_law_size"] (defScope sTake) := ⟨rfl, rfl, rfl, by decide +kernel, rfl, by decide +kernel, by decide +kernel⟩
abbrev sOf : Stmt := topS 18
abbrev NOf : List Str := ["_law_pot_here", "_law_some"]
theorem scOf : FnScope ["_law_pot_here", "_law_some"] ["_law_pot_here", "_law_some"] (defScope sOf) := ⟨rfl, rfl, rfl, by decide +kernel, rfl, by decide +kernel, by decide +kernel⟩
abbrev sMixed : Stmt := topS 19
abbrev NMixed : List Str := ["_law_pot_here", "_law_some", "_law_left", "_law_found"]
theorem scMixed : FnScope ["_law_pot_here", "_law_some", "_law_left", "_law_found"] ["_law_pot_here", "_law_some"] (defScope sMixed) := ⟨rfl, rfl, rfl, by decide +kernel, rfl, by decide +kernel, by decide +kernel⟩
abbrev sChoose : Stmt := topS 20
abbrev NChoose : List Str := ["_law_n", "_law_k", "_law_found", "_law_step"]
theorem scChoose : FnScope ["_law_n", "_law_k", "_law_found", "_law_step"] ["_law_n", "_law_k"] (defScope sChoose) := ⟨rfl, rfl, rfl, by decide +kernel, rfl, by decide +kernel, by decide +kernel⟩
abbrev sLeast : Stmt := topS 21
abbrev NLeast : List Str := ["_law_n", "_law_depth", "_law_found", "_law_size", "_law_one", "_law_other"]
theorem scLeast : FnScope ["_law_n", "_law_depth", "_law_found", "_law_size", "_law_one", "_law_other"] ["_law_n", "_law_depth"] (defScope sLeast) := ⟨rfl, rfl, rfl, by decide +kernel, rfl, by decide +kernel, by decide +kernel⟩
abbrev sStandardList : Stmt := topS 22
abbrev NStandardList : List Str := ["_law_n", "_law_depth", "_law_count", "_law_number", "_law_found", "_law_rest", "_law_size", "_law_width", "_law_free", "_law_server"]
theorem scStandardList : FnScope ["_law_n", "_law_depth", "_law_count", "_law_number", "_law_found", "_law_rest", "_law_size", "_law_width", "_law_free", "_law_server"] ["_law_n", "_law_depth", "_law_count", "_law_number"] (defScope sStandardList) := ⟨rfl, rfl, rfl, by decide +kernel, rfl, by decide +kernel, by decide +kernel⟩
abbrev sStandard : Stmt := topS 23
abbrev NStandard : List Str := ["_law_n", "_law_depth", "_law_count", "_law_number"]
theorem scStandard : FnScope ["_law_n", "_law_depth", "_law_count", "_law_number"] ["_law_n", "_law_depth", "_law_count"] (defScope sStandard) := ⟨rfl, rfl, rfl, by decide +kernel, rfl, by decide +kernel, by decide +kernel⟩
abbrev sAllLists : Stmt := topS 24
abbrev NAllLists : List Str := ["_law_n", "_law_depth", "_law_found", "_law_turn", "_law_longer", "_law_some", "_law_server"]
theorem scAllLists : FnScope ["_law_n", "_law_depth", "_law_found", "_law_turn", "_law_longer", "_law_some", "_law_server"] ["_law_n", "_law_depth"] (defScope sAllLists) := ⟨rfl, rfl, rfl, by decide +kernel, rfl, by decide +kernel, by decide +kernel⟩
abbrev sSpoiled : Stmt := topS 25
abbrev NSpoiled : List Str := ["_law_pot_here", "_law_n", "_law_rows_here", "_law_way", "_law_at", "_law_found", "_law_row", "_law_one", "_law_other", "_law_turned"]
theorem scSpoiled : FnScope ["_law_pot_here", "_law_n", "_law_rows_here", "_law_way", "_law_at", "_law_found", "_law_row", "_law_one", "_law_other", "_law_turned"] ["_law_pot_here", "_law_n", "_law_rows_here"] (defScope sSpoiled) := ⟨rfl, rfl, rfl, by decide +kernel, rfl, by decide +kernel, by decide +kernel⟩
abbrev sLawRows : Stmt := topS 26
abbrev NLawRows : List Str := ["_law_pot_here", "_law_n", "_law_depth", "_law_way", "_law_rows_here", "_law_step", "_law_first_here", "_law_turn"]
theorem scLawRows : FnScope ["_law_pot_here", "_law_n", "_law_depth", "_law_way", "_law_rows_here", "_law_step", "_law_first_here", "_law_turn"] ["_law_pot_here", "_law_n", "_law_depth"] (defScope sLawRows) := ⟨rfl, rfl, rfl, by decide +kernel, rfl, by decide +kernel, by decide +kernel⟩
abbrev sFirst : Stmt := topS 27
abbrev NFirst : List Str := ["_law_row", "_law_live", "_law_many", "_law_server"]
theorem scFirst : FnScope ["_law_row", "_law_live", "_law_many", "_law_server"] ["_law_row", "_law_live", "_law_many"] (defScope sFirst) := ⟨rfl, rfl, rfl, by decide +kernel, rfl, by decide +kernel, by decide +kernel⟩
abbrev sHeldW : Stmt := topS 28
abbrev NHeldW : List Str := ["_law_rows_here", "_law_live", "_law_many", "_law_found", "_law_row", "_law_key"]
theorem scHeldW : FnScope ["_law_rows_here", "_law_live", "_law_many", "_law_found", "_law_row", "_law_key"] ["_law_rows_here", "_law_live", "_law_many"] (defScope sHeldW) := ⟨rfl, rfl, rfl, by decide +kernel, rfl, by decide +kernel, by decide +kernel⟩
abbrev sAsked21 : Stmt := topS 29
abbrev NAsked21 : List Str := ["_law_pot_here", "_law_n", "_law_depth", "_law_failures", "_law_factor"]
theorem scAsked21 : FnScope ["_law_pot_here", "_law_n", "_law_depth", "_law_failures", "_law_factor"] ["_law_pot_here", "_law_n", "_law_depth"] (defScope sAsked21) := ⟨rfl, rfl, rfl, by decide +kernel, rfl, by decide +kernel, by decide +kernel⟩
abbrev sIsW22 : Stmt := topS 30
abbrev NIsW22 : List Str := ["_law_n", "_law_rows_here", "_law_failures", "_law_factor", "_law_value", "_law_one", "_law_entry", "_law_live", "_law_fewer", "_law_more", "_law_server", "_law_counts"]
theorem scIsW22 : FnScope ["_law_n", "_law_rows_here", "_law_failures", "_law_factor", "_law_value", "_law_one", "_law_entry", "_law_live", "_law_fewer", "_law_more", "_law_server", "_law_counts"] ["_law_n", "_law_rows_here", "_law_failures", "_law_factor", "_law_value"] (defScope sIsW22) := ⟨rfl, rfl, rfl, by decide +kernel, rfl, by decide +kernel, by decide +kernel⟩
abbrev sOdd22 : Stmt := topS 31
abbrev NOdd22 : List Str := ["_law_pot_here", "_law_one", "_law_some"]
theorem scOdd22 : FnScope ["_law_pot_here", "_law_one", "_law_some"] ["_law_pot_here", "_law_one"] (defScope sOdd22) := ⟨rfl, rfl, rfl, by decide +kernel, rfl, by decide +kernel, by decide +kernel⟩
abbrev sBent22 : Stmt := topS 32
abbrev NBent22 : List Str := ["_law_pot_here", "_law_one", "_law_deep", "_law_at"]
theorem scBent22 : FnScope ["_law_pot_here", "_law_one", "_law_deep", "_law_at"] ["_law_pot_here", "_law_one", "_law_deep"] (defScope sBent22) := ⟨rfl, rfl, rfl, by decide +kernel, rfl, by decide +kernel, by decide +kernel⟩
abbrev sDrawn22 : Stmt := topS 33
abbrev NDrawn22 : List Str := ["_law_pot_here", "_law_n", "_law_live", "_law_many", "_law_two", "_law_turn"]
theorem scDrawn22 : FnScope ["_law_pot_here", "_law_n", "_law_live", "_law_many", "_law_two", "_law_turn"] ["_law_pot_here", "_law_n"] (defScope sDrawn22) := ⟨rfl, rfl, rfl, by decide +kernel, rfl, by decide +kernel, by decide +kernel⟩
abbrev sLaw : Stmt := topS 34
abbrev NLaw : List Str := ["_law_script", "_law_k", "_law_pot_here", "_law_n", "_law_depth", "_law_rows_here", "_law_turn", "_law_failures", "_law_factor", "_law_some", "_law_drawn_here", "_law_value", "_law_kept", "_law_due"]
theorem scLaw : FnScope ["_law_script", "_law_k", "_law_pot_here", "_law_n", "_law_depth", "_law_rows_here", "_law_turn", "_law_failures", "_law_factor", "_law_some", "_law_drawn_here", "_law_value", "_law_kept", "_law_due"] ["_law_script"] (defScope sLaw) := ⟨rfl, rfl, rfl, by decide +kernel, rfl, by decide +kernel, by decide +kernel⟩
abbrev sTooS : Stmt := inClass (topS 2) 0
theorem scTooS : FnScope ["self", "order"] ["self", "order"] (defScope sTooS) := ⟨rfl, rfl, rfl, by decide +kernel, rfl, by decide +kernel, by decide +kernel⟩
/-- what stands behind the top: each def, how it binds, and that the built-ins' names are free -/
structure Txt (K : PySem.W.Frag) (mg : Str → Option Value) where
  fPlain : Addr
  fdPlain : FuncData
  FPlain : Fun K "is_plain_int" "is_plain_int" sPlain fPlain fdPlain
  bPlain : Binds K fdPlain ["thing"] []
  gPlain : mg "is_plain_int" = some (.ref fPlain)
  fReachOf : Addr
  fdReachOf : FuncData
  FReachOf : Fun K "reach_of" "reach_of" sReachOf fReachOf fdReachOf
  bReachOf : Binds K fdReachOf ["n", "failures", "factor"] []
  gReachOf : mg "reach_of" = some (.ref fReachOf)
  fSet22 : Addr
  fdSet22 : FuncData
  FSet22 : Fun K "is_set" "is_set" sSet22 fSet22 fdSet22
  bSet22 : Binds K fdSet22 ["n", "thing"] []
  gSet22 : mg "is_set" = some (.ref fSet22)
  fHold : Addr
  fdHold : FuncData
  FHold : Fun K "holders" "holders" sHold fHold fdHold
  bHold : Binds K fdHold ["order", "live", "factor"] []
  gHold : mg "holders" = some (.ref fHold)
  fHelds : Addr
  fdHelds : FuncData
  FHelds : Fun K "held_by_sets" "held_by_sets" sHelds fHelds fdHelds
  bHelds : Binds K fdHelds ["table", "live", "factor"] []
  gHelds : mg "held_by_sets" = some (.ref fHelds)
  fChkR : Addr
  fdChkR : FuncData
  FChkR : Fun K "check_reached" "check_reached" sChkR fChkR fdChkR
  bChkR : Binds K fdChkR ["n", "table", "failures", "factor"] []
  gChkR : mg "check_reached" = some (.ref fChkR)
  fClaim22 : Addr
  fdClaim22 : FuncData
  FClaim22 : Fun K "is_claim" "is_claim" sClaim22 fClaim22 fdClaim22
  bClaim22 : Binds K fdClaim22 ["n", "failures", "factor", "thing"] []
  gClaim22 : mg "is_claim" = some (.ref fClaim22)
  fShows22 : Addr
  fdShows22 : FuncData
  FShows22 : Fun K "shows_uneven" "shows_uneven" sShows22 fShows22 fdShows22
  bShows22 : Binds K fdShows22 ["n", "table", "failures", "factor", "thing"] []
  gShows22 : mg "shows_uneven" = some (.ref fShows22)
  fPot : Addr
  fdPot : FuncData
  FPot : Fun K "_law_pot" "_law_pot" sPot fPot fdPot
  bPot : Binds K fdPot ["_law_script", "_law_k"] []
  gPot : mg "_law_pot" = some (.ref fPot)
  fTake : Addr
  fdTake : FuncData
  FTake : Fun K "_law_take" "_law_take" sTake fTake fdTake
  bTake : Binds K fdTake ["_law_pot_here", "_law_size"] []
  gTake : mg "_law_take" = some (.ref fTake)
  fOf : Addr
  fdOf : FuncData
  FOf : Fun K "_law_of" "_law_of" sOf fOf fdOf
  bOf : Binds K fdOf ["_law_pot_here", "_law_some"] []
  gOf : mg "_law_of" = some (.ref fOf)
  fMixed : Addr
  fdMixed : FuncData
  FMixed : Fun K "_law_mixed" "_law_mixed" sMixed fMixed fdMixed
  bMixed : Binds K fdMixed ["_law_pot_here", "_law_some"] []
  gMixed : mg "_law_mixed" = some (.ref fMixed)
  fChoose : Addr
  fdChoose : FuncData
  FChoose : Fun K "_law_choose" "_law_choose" sChoose fChoose fdChoose
  bChoose : Binds K fdChoose ["_law_n", "_law_k"] []
  gChoose : mg "_law_choose" = some (.ref fChoose)
  fLeast : Addr
  fdLeast : FuncData
  FLeast : Fun K "_law_least" "_law_least" sLeast fLeast fdLeast
  bLeast : Binds K fdLeast ["_law_n", "_law_depth"] []
  gLeast : mg "_law_least" = some (.ref fLeast)
  fStandardList : Addr
  fdStandardList : FuncData
  FStandardList : Fun K "_law_standard_list" "_law_standard_list" sStandardList fStandardList fdStandardList
  bStandardList : Binds K fdStandardList ["_law_n", "_law_depth", "_law_count", "_law_number"] []
  gStandardList : mg "_law_standard_list" = some (.ref fStandardList)
  fStandard : Addr
  fdStandard : FuncData
  FStandard : Fun K "_law_standard" "_law_standard" sStandard fStandard fdStandard
  bStandard : Binds K fdStandard ["_law_n", "_law_depth", "_law_count"] []
  gStandard : mg "_law_standard" = some (.ref fStandard)
  fAllLists : Addr
  fdAllLists : FuncData
  FAllLists : Fun K "_law_all_lists" "_law_all_lists" sAllLists fAllLists fdAllLists
  bAllLists : Binds K fdAllLists ["_law_n", "_law_depth"] []
  gAllLists : mg "_law_all_lists" = some (.ref fAllLists)
  fSpoiled : Addr
  fdSpoiled : FuncData
  FSpoiled : Fun K "_law_spoiled" "_law_spoiled" sSpoiled fSpoiled fdSpoiled
  bSpoiled : Binds K fdSpoiled ["_law_pot_here", "_law_n", "_law_rows_here"] []
  gSpoiled : mg "_law_spoiled" = some (.ref fSpoiled)
  fLawRows : Addr
  fdLawRows : FuncData
  FLawRows : Fun K "_law_rows" "_law_rows" sLawRows fLawRows fdLawRows
  bLawRows : Binds K fdLawRows ["_law_pot_here", "_law_n", "_law_depth"] []
  gLawRows : mg "_law_rows" = some (.ref fLawRows)
  fFirst : Addr
  fdFirst : FuncData
  FFirst : Fun K "_law_first" "_law_first" sFirst fFirst fdFirst
  bFirst : Binds K fdFirst ["_law_row", "_law_live", "_law_many"] []
  gFirst : mg "_law_first" = some (.ref fFirst)
  fHeldW : Addr
  fdHeldW : FuncData
  FHeldW : Fun K "_law_held" "_law_held" sHeldW fHeldW fdHeldW
  bHeldW : Binds K fdHeldW ["_law_rows_here", "_law_live", "_law_many"] []
  gHeldW : mg "_law_held" = some (.ref fHeldW)
  fAsked21 : Addr
  fdAsked21 : FuncData
  FAsked21 : Fun K "_law_asked" "_law_asked" sAsked21 fAsked21 fdAsked21
  bAsked21 : Binds K fdAsked21 ["_law_pot_here", "_law_n", "_law_depth"] []
  gAsked21 : mg "_law_asked" = some (.ref fAsked21)
  fIsW22 : Addr
  fdIsW22 : FuncData
  FIsW22 : Fun K "_law_is_witness" "_law_is_witness" sIsW22 fIsW22 fdIsW22
  bIsW22 : Binds K fdIsW22 ["_law_n", "_law_rows_here", "_law_failures", "_law_factor", "_law_value"] []
  gIsW22 : mg "_law_is_witness" = some (.ref fIsW22)
  fOdd22 : Addr
  fdOdd22 : FuncData
  FOdd22 : Fun K "_law_odd" "_law_odd" sOdd22 fOdd22 fdOdd22
  bOdd22 : Binds K fdOdd22 ["_law_pot_here", "_law_one"] []
  gOdd22 : mg "_law_odd" = some (.ref fOdd22)
  fBent22 : Addr
  fdBent22 : FuncData
  FBent22 : Fun K "_law_bent" "_law_bent" sBent22 fBent22 fdBent22
  bBent22 : Binds K fdBent22 ["_law_pot_here", "_law_one", "_law_deep"] []
  gBent22 : mg "_law_bent" = some (.ref fBent22)
  fDrawn22 : Addr
  fdDrawn22 : FuncData
  FDrawn22 : Fun K "_law_drawn" "_law_drawn" sDrawn22 fDrawn22 fdDrawn22
  bDrawn22 : Binds K fdDrawn22 ["_law_pot_here", "_law_n"] []
  gDrawn22 : mg "_law_drawn" = some (.ref fDrawn22)
  cBase : Addr
  gcBase : mg "FailoverError" = some (.ref cBase)
  btBase : BaseT K cBase
  cTooS : Addr
  gcTooS : mg "TooShort" = some (.ref cTooS)
  fTooS : Addr
  fdTooS : FuncData
  FTooS : Fun K "__init__" "TooShort.__init__" sTooS fTooS fdTooS
  bTooS : Binds K fdTooS ["self", "order"] []
  eTooS : ErrT K cTooS fTooS "order" cBase
  n_ValueError : mg "ValueError" = none
  n_abs : mg "abs" = none
  n_all : mg "all" = none
  n_bool : mg "bool" = none
  n_int : mg "int" = none
  n_isinstance : mg "isinstance" = none
  n_len : mg "len" = none
  n_list : mg "list" = none
  n_max : mg "max" = none
  n_min : mg "min" = none
  n_range : mg "range" = none
  n_repr : mg "repr" = none
  n_set : mg "set" = none
  n_sorted : mg "sorted" = none
  n_tuple : mg "tuple" = none
/-! ### is_plain_int -/
def tyNames : List String := ["NoneType", "bool", "int", "str", "list", "tuple", "dict"]
def spPlain (K : PySem.W.Frag) : Sp := fun vs H Q _ => ∃ (v : V) (t : String), vs = [v] ∧ TyX K H v (.type t) ∧ t ∈ tyNames ∧ Q (.bl (t == "int")) H
theorem ty_cases {t : String} (h : t ∈ tyNames) : t = "NoneType" ∨ t = "bool" ∨ t = "int" ∨ t = "str" ∨ t = "list" ∨ t = "tuple" ∨ t = "dict" := by
  unfold tyNames at h
  simp only [List.mem_cons, List.not_mem_nil, or_false] at h
  exact h
theorem kit_int {K : PySem.W.Frag} {t : String} (h : t ∈ tyNames) : PySem.W.kitOne K (.type t) (.type "int") = some (t == "int" || t == "bool") := by
  rcases ty_cases h with rfl | rfl | rfl | rfl | rfl | rfl | rfl <;> exact kit_ty (by decide +kernel)
theorem kit_bool {K : PySem.W.Frag} {t : String} (h : t ∈ tyNames) : PySem.W.kitOne K (.type t) (.type "bool") = some (t == "bool") := by
  rcases ty_cases h with rfl | rfl | rfl | rfl | rfl | rfl | rfl <;> exact kit_ty (by decide +kernel)
theorem kit_tuple {K : PySem.W.Frag} {t : String} (h : t ∈ tyNames) : PySem.W.kitOne K (.type t) (.type "tuple") = some (t == "tuple") := by
  rcases ty_cases h with rfl | rfl | rfl | rfl | rfl | rfl | rfl <;> exact kit_ty (by decide +kernel)
section
variable {P : Program} {w : World} {K : PySem.W.Frag} {mg : Str → Option Value} {base : Heap}
theorem ok_plain (T : Txt K mg) {j : Nat} : FnOk P w K mg base CX0 (j + 1) T.fPlain T.fdPlain ["thing"] (spPlain K) := by
  refine T.FPlain.ok scPlain (fun vs H Q E h => ?_) (fun cdv A outer s H vs Q E hr h => ?_)
  · obtain ⟨v, t, rfl, _⟩ := h
    rfl
  · obtain ⟨v, t, rfl, ty, ht, q⟩ := h
    refine ⟨_, pss_one (ps_ret (pe_and (pe_callB call_isi (by rfl) T.n_isinstance (by decide +kernel) (pa_cons (pv 0) (pa_cons (pe_bltn (v := .ty "int") (by rfl) T.n_int (by decide +kernel) rfl) pa_nil)))
      (pe_one (pe_not (pe_callB call_isi (by rfl) T.n_isinstance (by decide +kernel) (pa_cons (pv 0) (pa_cons (pe_bltn (v := .ty "bool") (by rfl) T.n_bool (by decide +kernel) rfl) pa_nil))))))), ?_⟩
    refine ⟨v, rfl, v, .ty "int", _, _, _, rfl, .ty _, ty, kit_int ht, _, rfl, ?_⟩
    rcases ty_cases ht with rfl | rfl | rfl | rfl | rfl | rfl | rfl
    · exact iteF q
    · exact iteT ⟨v, rfl, v, .ty "bool", _, _, _, rfl, .ty _, ty, kit_bool ht, _, rfl, q⟩
    · exact iteT ⟨v, rfl, v, .ty "bool", _, _, _, rfl, .ty _, ty, kit_bool ht, _, rfl, q⟩
    · exact iteF q
    · exact iteF q
    · exact iteF q
    · exact iteF q
end
/-! ### tuples and lists of servers -/
def setV (ms : List Nat) : List V := ms.map fun (m : Nat) => V.int (m : Int)
theorem setV_app (a b : List Nat) : setV (a ++ b) = setV a ++ setV b := List.map_append
theorem setV_at {ms : List Nat} {i m : Nat} (h : ms[i]? = some m) : (setV ms)[i]? = some (V.int (m : Int)) := by
  unfold setV
  rw [List.getElem?_map, h]
  rfl
theorem setV_len (ms : List Nat) : (setV ms).length = ms.length := List.length_map _
theorem setV_range (n : Nat) : rgV 0 (n : Int) = setV (List.range' 0 n) := by
  unfold setV
  have e : ((n : Int) - 0).toNat = n := by omega
  unfold rgV
  rw [e, List.range_eq_range']
  refine List.map_congr_left fun i _ => ?_
  rw [Int.zero_add]
theorem seq_at {k n : Nat} (h : k < n) : seqIndex? (k : Int) n = some k := by
  unfold seqIndex?
  simp only [show ¬ ((k : Int) < 0) by omega, if_false]
  rw [if_pos]
  · rw [Int.toNat_natCast]
  · rw [Bool.and_eq_true]
    exact ⟨decide_eq_true (by omega), decide_eq_true (by omega)⟩
theorem SqL.is {K : PySem.W.Frag} {H : Hp} {a : Addr} {xs ys : List V} (h : SqL K H a xs) (e : xs = ys) : SqL K H a ys := e ▸ h
theorem setV_erase : ∀ (l : List Nat) (k : Nat), (setV l).eraseIdx k = setV (l.eraseIdx k)
  | [], _ => rfl
  | _ :: _, 0 => rfl
  | a :: r, k + 1 => congrArg (V.int (a : Int) :: ·) (setV_erase r k)
theorem setV_ints (ms : List Nat) : setV ms = (ms.map fun (m : Nat) => (m : Int)).map V.int := by
  unfold setV
  rw [List.map_map]
  rfl
theorem ints_back {ns : List Int} {ms : List Nat} (h : ns.Perm (ms.map fun (m : Nat) => (m : Int))) : ∃ ks : List Nat, ns = (ks.map fun (m : Nat) => (m : Int)) ∧ ks.Perm ms := by
  have e : ∀ x ∈ ns, ((x.toNat : Nat) : Int) = x := fun x hx => by
    obtain ⟨m, _, rfl⟩ := List.mem_map.mp (h.mem_iff.mp hx)
    simp
  refine ⟨ns.map Int.toNat, ?_, ?_⟩
  · rw [List.map_map]
    conv => lhs; rw [← List.map_id ns]
    exact List.map_congr_left fun x hx => (e x hx).symm
  · have h2 := h.map Int.toNat
    rw [List.map_map] at h2
    have e2 : (ms.map (Int.toNat ∘ fun (m : Nat) => (m : Int))) = ms := by
      conv => rhs; rw [← List.map_id ms]
      exact List.map_congr_left fun x _ => by simp
    rw [e2] at h2
    exact h2
theorem le_back {ks : List Nat} (h : (ks.map fun (m : Nat) => (m : Int)).Pairwise (· ≤ ·)) : ks.Pairwise (· ≤ ·) := by
  rw [List.pairwise_map] at h
  exact h.imp fun z => by omega
theorem lt_of_le {ks : List Nat} (h : ks.Pairwise (· ≤ ·)) (hn : ks.Nodup) : Asc ks := (h.and hn).imp fun ⟨a, b⟩ => by omega
theorem inV_ints (x : Int) : ∀ ns : List Int, inV (V.int x) (ns.map V.int) = decide (x ∈ ns)
  | [] => rfl
  | y :: r => by
    show ((y == x) || inV (V.int x) (r.map V.int)) = _
    rw [inV_ints x r]
    by_cases h : y = x
    · subst h
      rw [beq_self_eq_true, decide_eq_true List.mem_cons_self]
      rfl
    · rw [show (y == x) = false from beq_eq_false_iff_ne.mpr h, Bool.false_or]
      by_cases g : x ∈ r
      · rw [decide_eq_true g, decide_eq_true (List.mem_cons_of_mem _ g)]
      · rw [decide_eq_false g, decide_eq_false fun z => ?_]
        rcases List.mem_cons.mp z with z | z
        · exact h z.symm
        · exact g z
theorem flat_ints : ∀ ns : List Int, (ns.map V.int).all flatV = true
  | [] => rfl
  | _ :: r => flat_ints r
theorem setV_flat (ms : List Nat) : (setV ms).all flatV = true := by
  rw [setV_ints]
  exact flat_ints _
theorem inV_setV (x : Nat) (ms : List Nat) : inV (.int (x : Int)) (setV ms) = decide (x ∈ ms) := by
  rw [setV_ints, inV_ints]
  refine decide_eq_decide.mpr ⟨fun h => ?_, fun h => List.mem_map.mpr ⟨x, h, rfl⟩⟩
  obtain ⟨y, hy, e⟩ := List.mem_map.mp h
  have : y = x := by omega
  rw [← this]
  exact hy
theorem setV_mem {ms : List Nat} {v : V} (h : v ∈ setV ms) : ∃ m, m ∈ ms ∧ v = .int (m : Int) := by
  obtain ⟨m, hm, e⟩ := List.mem_map.mp h
  exact ⟨m, hm, e.symm⟩
theorem setV_get {ms : List Nat} {i : Nat} {v : V} (h : (setV ms)[i]? = some v) : ∃ m, ms[i]? = some m ∧ v = .int (m : Int) := by
  unfold setV at h
  rw [List.getElem?_map] at h
  cases e : ms[i]? with
  | none =>
    rw [e] at h
    cases h
  | some m =>
    rw [e] at h
    exact ⟨m, rfl, (Option.some.inj h).symm⟩
theorem range'_snoc (n : Nat) : List.range' 0 (n + 1) = List.range' 0 n ++ [n] := by
  rw [← List.range_eq_range', ← List.range_eq_range', List.range_succ]
theorem fr_step (f : Nat → Bool) (n : Nat) : setV ((List.range' 0 (n + 1)).filter f) = setV ((List.range' 0 n).filter f) ++ if f n = true then [V.int (n : Int)] else [] := by
  rw [range'_snoc, List.filter_append, setV_app]
  congr 1
  cases h : f n with
  | true => rw [List.filter_cons_of_pos h]; rfl
  | false => rw [List.filter_cons_of_neg (by rw [h]; decide)]; rfl
/-- what an error of the class CN with the field f leaves behind -/
def Raised (f : Str) (CN : Addr) (v : V) (H : Hp) (E : XK) : Prop := ∀ H' d, Same H H' → H' d = some (.xd [(f, v)]) → H d = none → E (.ref CN) (some d) H'
theorem Raised.on {f : Str} {CN : Addr} {v : V} {H H1 : Hp} {E : XK} (s : Same H H1) (h : Raised f CN v H E) : Raised f CN v H1 E := fun H' d s2 e n => h H' d (s.trans s2) e (s.free n)
theorem cut_set (ms : List Nat) (lo hi : Option Int) : ∃ ks : List Nat, cutV (setV ms) lo hi = setV ks ∧ (∀ x ∈ ks, x ∈ ms) ∧ ks.length ≤ ms.length ∧ ks.Sublist ms := by
  unfold cutV setV
  rw [← List.map_drop, ← List.map_take]
  refine ⟨_, rfl, fun x hx => List.mem_of_mem_drop (List.mem_of_mem_take hx), ?_, (List.take_sublist _ _).trans (List.drop_sublist _ _)⟩
  rw [List.length_take, List.length_drop]
  omega
def natOf : V → Nat
  | .int i => i.toNat
  | _ => 0
theorem perm_setV {ys : List V} {ms : List Nat} (h : ys.Perm (setV ms)) : ∃ ks : List Nat, ys = setV ks ∧ ks.Perm ms := by
  have e : ∀ y ∈ ys, V.int ((natOf y : Nat) : Int) = y := fun y hy => by
    obtain ⟨m, _, rfl⟩ := setV_mem (h.mem_iff.mp hy)
    show V.int (((m : Int).toNat : Nat) : Int) = _
    rw [Int.toNat_natCast]
  refine ⟨ys.map natOf, ?_, ?_⟩
  · unfold setV
    rw [List.map_map]
    conv => lhs; rw [← List.map_id ys]
    exact List.map_congr_left fun y hy => (e y hy).symm
  · have h2 := h.map natOf
    unfold setV at h2
    rw [List.map_map] at h2
    have e2 : (ms.map (natOf ∘ fun (m : Nat) => V.int (m : Int))) = ms := by
      conv => rhs; rw [← List.map_id ms]
      refine List.map_congr_left fun x _ => ?_
      show (x : Int).toNat = x
      rw [Int.toNat_natCast]
    rw [e2] at h2
    exact h2
theorem dp_set {K : PySem.W.Frag} {H : Hp} : ∀ ms : List Nat, DpAll K H (setV ms) (natD ms)
  | [] => .nil
  | m :: r => .cons (.int (m : Int)) (dp_set r)
theorem but_free {p q : Addr} {H H' : Hp} (s : But p H H') (h : H' q = none) (n : q ≠ p) : H q = none := by
  cases e : H q with
  | none => rfl
  | some o =>
    rw [s _ _ n e] at h
    cases h
theorem but_new {p q : Addr} {H H1 : Hp} {o : HO} (s : But p H H1) (h : H q = none) : But p H (L2.upd H1 q o) := fun b x n e => by
  rw [upd_ne (ne_of_none e h)]
  exact s b x n e
theorem erase_perm {α : Type} : ∀ (l : List α) (k : Nat) (x : α), l[k]? = some x → (x :: l.eraseIdx k).Perm l
  | [], _, _, h => by cases h
  | a :: r, 0, x, h => by
    obtain rfl : a = x := Option.some.inj h
    exact List.Perm.refl _
  | a :: r, k + 1, x, h => (List.Perm.swap a x _).trans ((erase_perm r k x h).cons a)
theorem same_hide {p : Addr} {H H' : Hp} (s : Same H H') (n : H p = none) : Same H (hide p H') := fun b o e => by
  rw [hide_ne (ne_of_none e n)]
  exact s b o e
theorem cut_take (fl : List Nat) (w : Nat) : cutV (setV fl) none (some (w : Int)) = setV (fl.take w) := by
  unfold cutV
  have e0 : HT.sIx (setV fl).length 0 none = 0 := rfl
  have e1 : HT.sIx (setV fl).length (setV fl).length (some (w : Int)) = min w fl.length := by
    rw [setV_len]
    exact HT.sIx_nat _ _ _
  rw [e0, e1, List.drop_zero, Nat.sub_zero]
  unfold setV
  rw [← List.map_take]
  congr 1
  rw [List.take_eq_take_iff]
  omega
theorem SqT_updL {K : PySem.W.Frag} {H : Hp} {a D : Addr} {xs ys : List V} {o : HO} (h : SqT K H a xs) (hD : H D = some (.lst ys)) : SqT K (upd H D o) a xs := by
  rcases h with (h | ⟨o, h⟩) | h
  · exact .inl (.inl (by rw [upd_ne (fun c => by rw [c, hD] at h; cases h)]; exact h))
  · exact .inl (.inr ⟨o, by rw [upd_ne (fun c => by rw [c, hD] at h; cases h)]; exact h⟩)
  · exact .inr h
/-- a pair of a tuple of servers and a number -/
def PairAt (H0 H : Hp) (u : Addr) (ms : List Nat) (r : Nat) : Prop := H0 u = none ∧ ∃ t, H0 t = none ∧ H u = some (.tup [.ref t, .int (r : Int)]) ∧ H t = some (.tup (setV ms))
theorem PairAt.back {H0 H1 H : Hp} {u : Addr} {ms : List Nat} {r : Nat} (s : Same H0 H1) (h : PairAt H1 H u ms r) : PairAt H0 H u ms r := by
  obtain ⟨a, t, b, c⟩ := h
  exact ⟨s.free a, t, s.free b, c⟩
theorem erase_setV : ∀ (l : List Nat) (k : Nat), (setV l).eraseIdx k = setV (l.eraseIdx k)
  | [], _ => rfl
  | _ :: _, 0 => rfl
  | a :: r, k + 1 => congrArg (V.int (a : Int) :: ·) (erase_setV r k)
/-! ### reach_of -/
def spReachOf : Sp := fun vs H Q _ => ∃ n f k : Nat, vs = [.int n, .int f, .int k] ∧ Q (.int (min n (f + k) : Nat)) H
section
variable {P : Program} {w : World} {K : PySem.W.Frag} {mg : Str → Option Value} {base : Heap}
theorem ok_reachof (T : Txt K mg) {j : Nat} : FnOk P w K mg base CX0 (j + 1) T.fReachOf T.fdReachOf ["n", "failures", "factor"] spReachOf := by
  refine T.FReachOf.ok scReachOf (fun vs H Q E h => ?_) (fun cdv A outer s H vs Q E hr h => ?_)
  · obtain ⟨n, f, k, rfl, _⟩ := h
    rfl
  · obtain ⟨n, f, k, rfl, q⟩ := h
    refine ⟨_, pss_one (ps_ret (pe_callB (call_min2 rfl) (by rfl) T.n_min (by decide +kernel) (pa_cons (pv 0) (pa_cons (pe_op op_add (pv 1) (pv 2)) pa_nil)))), ?_⟩
    refine ⟨_, rfl, _, rfl, _, rfl, _, _, rfl, rfl, _, _, rfl, ?_⟩
    have e : (if ((f : Int) + (k : Int)) < (n : Int) then ((f : Int) + (k : Int)) else (n : Int)) = ((min n (f + k) : Nat) : Int) := by
      by_cases c : (f : Int) + (k : Int) < (n : Int)
      · rw [if_pos c]
        omega
      · rw [if_neg c]
        omega
    dsimp only
    rw [e]
    exact q
end
/-! ### any value, seen as whole numbers, tuples and the rest -/
inductive TD where
  | int (i : Int) | tup (ts : List TD) | oth (t : String)
mutual
inductive VT (K : PySem.W.Frag) (H : Hp) : V → TD → Prop
  | int (i : Int) : VT K H (.int i) (.int i)
  | tup {a : Addr} {xs : List V} {ts : List TD} (h : SqT K H a xs) (t : VTs K H xs ts) : VT K H (.ref a) (.tup ts)
  | oth {v : V} {t : String} (h : TyX K H v (.type t)) (m : t ∈ tyNames) (n1 : (t == "int") = false) (n2 : (t == "tuple") = false) : VT K H v (.oth t)
inductive VTs (K : PySem.W.Frag) (H : Hp) : List V → List TD → Prop
  | nil : VTs K H [] []
  | cons {v : V} {t : TD} {vs : List V} {ts : List TD} (h : VT K H v t) (r : VTs K H vs ts) : VTs K H (v :: vs) (t :: ts)
end
theorem tyx_sameA {K : PySem.W.Frag} {H H' : Hp} {v : V} {t : Value} (e : Same H H') (h : TyX K H v t) : TyX K H' v t := by
  cases h with
  | base h =>
    cases h with
    | non => exact .base .non
    | bl x => exact .base (.bl x)
    | int i => exact .base (.int i)
    | str x => exact .base (.str x)
    | flt x => exact .base (.flt x)
    | lst z => exact .base (.lst (e _ _ z))
    | frz z => exact .base (.frz (e _ _ z))
    | tup z => exact .base (.tup (e _ _ z))
    | dK z => exact .base (.dK (e _ _ z))
    | dT z => exact .base (.dT (e _ _ z))
    | ins z a1 a2 a3 a4 a5 => exact .base (.ins (e _ _ z) a1 a2 a3 a4 a5)
  | byt b => exact .byt b
  | set z => exact .set (e _ _ z)
  | kList a b => exact .kList a b
  | kTuple a b => exact .kTuple a b
  | kDict a b => exact .kDict a b
  | fTuple z => exact .fTuple (e _ _ z)
  | fDict z => exact .fDict (e _ _ z)
def tyT : TD → String
  | .int _ => "int"
  | .tup _ => "tuple"
  | .oth t => t
theorem VTs.len {K : PySem.W.Frag} {H : Hp} : ∀ {vs : List V} {ts : List TD}, VTs K H vs ts → vs.length = ts.length
  | _, _, .nil => rfl
  | _, _, .cons _ r => congrArg (· + 1) r.len
theorem VTs.at {K : PySem.W.Frag} {H : Hp} : ∀ {vs : List V} {ts : List TD} {i : Nat} {v : V}, VTs K H vs ts → vs[i]? = some v → ∃ t, ts[i]? = some t ∧ VT K H v t
  | _, _, 0, _, .cons h _, e => ⟨_, rfl, by cases e; exact h⟩
  | _, _, i + 1, _, .cons _ r, e => r.at (i := i) e
theorem VT.ty {K : PySem.W.Frag} {H : Hp} {v : V} {t : TD} (h : VT K H v t) : TyX K H v (.type (tyT t)) ∧ tyT t ∈ tyNames := by
  cases h with
  | int i => exact ⟨.base (.int i), by show "int" ∈ tyNames; decide⟩
  | tup h t =>
    refine ⟨?_, by show "tuple" ∈ tyNames; decide⟩
    rcases h with (h | ⟨o, h⟩) | ⟨o, its, n, h1, h2, _⟩
    · exact .base (.tup h)
    · exact .fTuple h
    · exact .kTuple h1 h2
  | oth h m _ _ => exact ⟨h, m⟩
/-- a list of d servers, each once -/
def lchk (n : Int) : List Int → List TD → Bool
  | _, [] => true
  | seen, .int i :: r => decide (0 ≤ i) && (decide (i < n) && (!decide (i ∈ seen) && lchk n (i :: seen) r))
  | _, _ :: _ => false
def listT (n : Int) (d : Nat) : TD → Bool
  | .tup ts => decide (ts.length = d) && lchk n [] ts
  | _ => false
def tabT (n : Int) (d : Nat) : TD → Bool
  | .tup ts => !ts.isEmpty && ts.all (listT n d)
  | _ => false
theorem lchk_no {n : Int} {seen : List Int} {t : TD} {r : List TD} (h : ∀ i, t ≠ .int i) : lchk n seen (t :: r) = false := by
  cases t with
  | int i => exact absurd rfl (h i)
  | tup _ => rfl
  | oth _ => rfl
theorem dropT {ds : List TD} {i : Nat} {d : TD} (h : ds[i]? = some d) : ds.drop i = d :: ds.drop (i + 1) := by
  obtain ⟨hl, e⟩ := List.getElem?_eq_some_iff.mp h
  rw [List.drop_eq_getElem_cons hl, e]
mutual
theorem VT.same {K : PySem.W.Frag} {H H' : Hp} (s : Same H H') : ∀ {v : V} {t : TD}, VT K H v t → VT K H' v t
  | _, _, .int i => .int i
  | _, _, .tup h t => .tup (Same.seqT s h) (VTs.same s t)
  | _, _, .oth h m n1 n2 => .oth (tyx_sameA s h) m n1 n2
theorem VTs.same {K : PySem.W.Frag} {H H' : Hp} (s : Same H H') : ∀ {vs : List V} {ts : List TD}, VTs K H vs ts → VTs K H' vs ts
  | _, _, .nil => .nil
  | _, _, .cons h r => .cons (VT.same s h) (VTs.same s r)
end
/-! ### is_set of any value -/
def chkT (n : Int) : Int → List TD → Bool
  | _, [] => true
  | least, .int i :: r => decide (least ≤ i) && (decide (i < n) && chkT n (i + 1) r)
  | _, _ :: _ => false
def setT (n : Int) : TD → Bool
  | .tup ts => chkT n 0 ts
  | _ => false
def ti (L : List Nat) : List TD := L.map fun (x : Nat) => TD.int (x : Int)
theorem chkT_iff {n : Nat} : ∀ {ts : List TD} {lo : Nat}, chkT (n : Int) (lo : Int) ts = true ↔ ∃ L, ts = ti L ∧ Asc L ∧ (∀ y ∈ L, lo ≤ y) ∧ ∀ y ∈ L, y < n
  | [], lo => ⟨fun _ => ⟨[], rfl, List.Pairwise.nil, by simp, by simp⟩, fun _ => rfl⟩
  | .tup _ :: _, lo => ⟨fun h => (by cases h), fun ⟨L, e, _⟩ => (by cases L <;> cases e)⟩
  | .oth _ :: _, lo => ⟨fun h => (by cases h), fun ⟨L, e, _⟩ => (by cases L <;> cases e)⟩
  | .int i :: r, lo => by
    show (decide ((lo : Int) ≤ i) && (decide (i < (n : Int)) && chkT (n : Int) (i + 1) r)) = true ↔ _
    rw [Bool.and_eq_true, Bool.and_eq_true, decide_eq_true_iff, decide_eq_true_iff]
    constructor
    · rintro ⟨h1, h2, h3⟩
      obtain ⟨m, rfl⟩ := Int.eq_ofNat_of_zero_le (show 0 ≤ i by omega)
      rw [show ((m : Int) + 1) = ((m + 1 : Nat) : Int) by omega] at h3
      obtain ⟨L, e, a, b, c⟩ := chkT_iff.mp h3
      refine ⟨m :: L, by rw [e]; rfl, List.pairwise_cons.mpr ⟨fun y hy => b y hy, a⟩, fun y hy => ?_, fun y hy => ?_⟩
      · rcases List.mem_cons.mp hy with rfl | hy
        · omega
        · have := b y hy
          omega
      · rcases List.mem_cons.mp hy with rfl | hy
        · omega
        · exact c y hy
    · rintro ⟨L, e, a, b, c⟩
      cases L with
      | nil => cases e
      | cons m L =>
        injection e with e1 e2
        injection e1 with e1
        subst e1
        obtain ⟨a1, a2⟩ := List.pairwise_cons.mp a
        have b1 := b m List.mem_cons_self
        have c1 := c m List.mem_cons_self
        refine ⟨by omega, by omega, ?_⟩
        rw [show ((m : Int) + 1) = ((m + 1 : Nat) : Int) by omega]
        exact chkT_iff.mpr ⟨L, e2, a2, fun y hy => a1 y hy, fun y hy => c y (List.mem_cons_of_mem _ hy)⟩
theorem setT_iff {n : Nat} {t : TD} : setT (n : Int) t = true ↔ ∃ L, t = .tup (ti L) ∧ Asc L ∧ ∀ y ∈ L, y < n := by
  cases t with
  | int i => exact ⟨fun h => (by cases h), fun ⟨L, e, _⟩ => (by cases e)⟩
  | oth i => exact ⟨fun h => (by cases h), fun ⟨L, e, _⟩ => (by cases e)⟩
  | tup ts =>
    show chkT (n : Int) ((0 : Nat) : Int) ts = true ↔ _
    rw [chkT_iff]
    exact ⟨fun ⟨L, e, a, _, c⟩ => ⟨L, by rw [e], a, c⟩, fun ⟨L, e, a, c⟩ => ⟨L, by injection e, a, fun y _ => Nat.zero_le y, c⟩⟩
theorem vts_ti {K : PySem.W.Frag} {H : Hp} : ∀ {L : List Nat} {xs : List V}, VTs K H xs (ti L) → xs = setV L
  | [], _, .nil => rfl
  | x :: L, _, .cons h r => by
    cases h
    rw [vts_ti (L := L) r]
    rfl
theorem chkT_no {n least : Int} {t : TD} {r : List TD} (h : ∀ i, t ≠ .int i) : chkT n least (t :: r) = false := by
  cases t with
  | int i => exact absurd rfl (h i)
  | tup _ => rfl
  | oth _ => rfl
def spSet22 (K : PySem.W.Frag) : Sp := fun vs H Q _ => ∃ (n : Int) (v : V) (t : TD), vs = [.int n, v] ∧ VT K H v t ∧ Q (.bl (setT n t)) H
section
variable {P : Program} {w : World} {K : PySem.W.Frag} {mg : Str → Option Value} {base : Heap}
theorem ok_set22 (T : Txt K mg) {j : Nat} : FnOk P w K mg base CX0 (j + 2) T.fSet22 T.fdSet22 ["n", "thing"] (spSet22 K) := by
  refine T.FSet22.ok scSet22 (fun vs H Q E h => ?_) (fun cdv A outer s H vs Q E hr h => ?_)
  · obtain ⟨n, v, t, rfl, _⟩ := h
    rfl
  · obtain ⟨n, v, t, rfl, hv, q⟩ := h
    refine ⟨_, pss_cons (ps_if (pt_not (pt_val (pe_callB (call_isiK1 K) (by rfl) T.n_isinstance (by decide +kernel) (pa_cons (pv 1) (pa_cons (pe_bltn (v := .ty "tuple") (by rfl) T.n_tuple (by decide +kernel) rfl) pa_nil))))) (pss_one (ps_ret pe_bl)) pss_nil) (pss_cons (ps_set (i := 2) scSet22.nd rfl (.inl rfl) pe_int) (pss_cons (ps_for PassesOwn.never rfl (pi_tup (pv 1)) (pg_name (i := 3) scSet22.nd rfl (.inl rfl)) (pss_cons (ps_if (PW.pt (pw_or (pt_not (pt_val (pe_call (ok_plain T) hr (by rfl) T.gPlain T.FPlain.kp T.bPlain .nil pass0 (pa_cons (pv 3) pa_nil)))) (pw_or (pt_cmpR op_lt (pv 3) (pv 2) (nomark _)) (pw_or1 (pt_cmpR op_ge (pv 3) (pv 0) (nomark _)))))) (pss_one (ps_ret pe_bl)) pss_nil) (pss_one (ps_set (i := 2) scSet22.nd rfl (.inl rfl) (pe_op op_add (pv 3) pe_int))))) (pss_one (ps_ret pe_bl)))), ?_⟩
    obtain ⟨ty, tm⟩ := hv.ty
    refine ⟨v, rfl, v, .ty "tuple", _, _, _, rfl, .ty _, ty, kit_tuple tm, _, rfl, ?_⟩
    cases hv with
    | int i => exact iteT q
    | oth h m n1 n2 =>
      rename_i t0
      rw [show (tyT (TD.oth t0) == "tuple") = false from n2]
      exact iteT q
    | tup h r =>
      rename_i a xs ts
      refine iteF ?_
      have q : Q (V.bl (chkT n 0 ts)) H := q
      refine ⟨.ref a, rfl, a, rfl, ⟨_, h⟩, for_tup (K := K) (a := a) (xs := xs) (fun i σ H' => ∃ (least : Int) (u : Option V), σ = [some (.int n), some (.ref a), some (.int least), u] ∧ H' = H ∧ chkT n 0 ts = chkT n least (ts.drop i)) ⟨0, none, rfl, rfl, rfl⟩ (fun i σ H' _ ⟨_, _, _, e, _⟩ => e ▸ h) ?_ ?_⟩
      · rintro i x σ H' hi ⟨least, u, rfl, rfl, ec⟩
        obtain ⟨t, ht, hT⟩ := r.at hi
        rw [dropT ht] at ec
        obtain ⟨ty1, tm1⟩ := hT.ty
        refine ⟨x, rfl, x, tyT t, rfl, ty1, tm1, _, rfl, ?_⟩
        cases hT with
        | tup h1 r1 =>
          rw [ec] at q
          exact iteT q
        | oth h m n1 n2 =>
          rename_i t0
          rw [show (tyT (TD.oth t0) == "int") = false from n1]
          rw [ec] at q
          exact iteT q
        | int z =>
          rw [show chkT n least (.int z :: ts.drop (i + 1)) = (decide (least ≤ z) && (decide (z < n) && chkT n (z + 1) (ts.drop (i + 1)))) from rfl] at ec
          refine iteF ?_
          refine ⟨_, rfl, _, rfl, _, _, rfl, rfl, _, rfl, ite2 (fun h1 => ?_) (fun h1 => ?_)⟩
          · have h2 : z < least := of_decide_eq_true h1
            rw [decide_eq_false (show ¬ least ≤ z by omega)] at ec
            rw [ec] at q
            exact q
          · have h2 : ¬ z < least := fun y => h1 (decide_eq_true y)
            rw [decide_eq_true (show least ≤ z by omega), Bool.true_and] at ec
            refine ⟨_, rfl, _, rfl, _, _, rfl, rfl, _, rfl, ite2 (fun h3 => ?_) (fun h3 => ?_)⟩
            · have h4 : n ≤ z := of_decide_eq_true h3
              rw [decide_eq_false (show ¬ z < n by omega)] at ec
              rw [ec] at q
              exact q
            · have h4 : ¬ n ≤ z := fun y => h3 (decide_eq_true y)
              rw [decide_eq_true (show z < n by omega), Bool.true_and] at ec
              exact ⟨_, rfl, _, _, rfl, rfl, z + 1, _, rfl, rfl, ec⟩
      · rintro σ H' ⟨least, u, rfl, rfl, ec⟩
        rw [r.len, List.drop_length] at ec
        rw [ec] at q
        exact q
end
/-! ### TooShort's __init__ -/
section
variable {P : Program} {w : World} {K : PySem.W.Frag} {mg : Str → Option Value} {base : Heap}
theorem ok_toos (T : Txt K mg) {j : Nat} : FnOk P w K mg base CX0 (j + 1) T.fTooS T.fdTooS ["self", "order"] (spErr K T.cTooS "order") := by
  refine T.FTooS.ok scTooS (fun vs H Q E h => ?_) (fun cdv A outer s H vs Q E hr h => ?_)
  · obtain ⟨a, v, rfl, _⟩ := h
    rfl
  · obtain ⟨a, v, rfl, ha, q⟩ := h
    refine ⟨_, pss_cons (ps_expr (pe_baseInit (by rfl) T.gcBase T.btBase.sp T.btBase.ty T.btBase.rd T.btBase.fc (pa_cons (pv 0) (pa_cons pe_str pa_nil)))) (pss_one (ps_ost (pv 0) (pv 1))), ?_⟩
    refine ⟨.ref a, rfl, a, T.cTooS, _, rfl, (by show 1 ≤ 1000; decide), T.eTooS.ox, ha, ?_⟩
    refine ⟨v, rfl, .ref a, rfl, a, T.cTooS, rfl, T.eTooS.ox, T.eTooS.no, .inl ⟨ha, fun dx nd ne => q dx nd ne⟩⟩
end
/-! ### holders -/
def inL (ls os : List Nat) : List Nat := os.filter fun x => decide (x ∈ ls)
def holdL (ls os : List Nat) (w : Nat) : List Nat := (inL ls os).take w
theorem inL_step {ls os : List Nat} {i x : Nat} (h : os[i]? = some x) : inL ls (os.take (i + 1)) = inL ls (os.take i) ++ if x ∈ ls then [x] else [] := by
  unfold inL
  rw [List.take_add_one, h, List.filter_append]
  congr 1
  show List.filter _ [x] = _
  by_cases c : x ∈ ls
  · rw [List.filter_cons_of_pos (by simpa using c), if_pos c]
    rfl
  · rw [List.filter_cons_of_neg (by simpa using c), if_neg c]
    rfl
theorem hold_step {ls os : List Nat} {w i x : Nat} (h : os[i]? = some x) : holdL ls (os.take (i + 1)) w = if (holdL ls (os.take i) w).length < w ∧ x ∈ ls then holdL ls (os.take i) w ++ [x] else holdL ls (os.take i) w := by
  unfold holdL
  rw [inL_step h, List.take_append, List.length_take]
  by_cases c : x ∈ ls
  · rw [if_pos c]
    by_cases c2 : (inL ls (os.take i)).length < w
    · rw [if_pos ⟨by omega, c⟩, List.take_of_length_le (l := [x]) (by show 1 ≤ _; omega)]
    · rw [if_neg (by omega), show w - (inL ls (os.take i)).length = 0 by omega, List.take_zero, List.append_nil]
  · rw [if_neg c, if_neg (fun z => c z.2), List.take_nil, List.append_nil]
theorem hold_len (ls os : List Nat) (w : Nat) : (holdL ls os w).length = min w (inL ls os).length := by
  unfold holdL
  rw [List.length_take]
theorem inL_mem {ls os : List Nat} {x : Nat} (h : x ∈ inL ls os) : x ∈ os ∧ x ∈ ls := by
  have := List.mem_filter.mp h
  exact ⟨this.1, of_decide_eq_true this.2⟩
theorem hold_mem {ls os : List Nat} {w x : Nat} (h : x ∈ holdL ls os w) : x ∈ os ∧ x ∈ ls := inL_mem (List.mem_of_mem_take h)
theorem hold_full {ls os : List Nat} {w i : Nat} (h : w ≤ (holdL ls (os.take i) w).length) : holdL ls os w = holdL ls (os.take i) w := by
  have e : inL ls os = inL ls (os.take i) ++ inL ls (os.drop i) := by
    unfold inL
    rw [← List.filter_append, List.take_append_drop]
  rw [hold_len] at h
  unfold holdL
  rw [e, List.take_append_of_le_length (by omega)]
/-! ### holders -/
def spHold (K : PySem.W.Frag) (CS : Addr) : Sp := fun vs H Q E => ∃ (a b : Addr) (os ls : List Nat) (f : Nat), vs = [.ref a, .ref b, .int f] ∧ SqT K H a (setV os) ∧ SqT K H b (setV ls) ∧ os.length ≤ 60 ∧ ls.length ≤ 60 ∧
  (min f ls.length ≤ (inL ls os).length → ∀ H' t, Same H H' → H t = none → H' t = some (.tup (setV (holdL ls os (min f ls.length)))) → Q (.ref t) H') ∧
  ((inL ls os).length < min f ls.length → Raised "order" CS (.ref a) H E)
section
variable {P : Program} {w : World} {K : PySem.W.Frag} {mg : Str → Option Value} {base : Heap}
theorem ok_hold (T : Txt K mg) {j : Nat} : FnOk P w K mg base (L2.CX P w) (j + 3) T.fHold T.fdHold ["order", "live", "factor"] (spHold K T.cTooS) := by
  refine T.FHold.okX scHold (fun vs H Q E h => ?_) (fun cdv A outer s H vs Q E hr h => ?_)
  · obtain ⟨a, b, os, ls, f, rfl, _⟩ := h
    rfl
  · obtain ⟨a, b, os, ls, f, rfl, hA, hB, la, lb, q1, q2⟩ := h
    refine ⟨_, pss_cons (ps_set (i := 3) scHold.nd rfl (.inl rfl) (pe_callB (call_min2 rfl) (by rfl) T.n_min (by decide +kernel) (pa_cons (pv 2) (pa_cons (pe_callB (call_lenK K) (by rfl) T.n_len PySem.boot_len (pa_cons (pv 1) pa_nil)) pa_nil)))) (pss_cons (ps_set (i := 4) scHold.nd rfl (.inl rfl) (pe_lst pa_nil)) (C8.pss_cut (ps_for (passes_of rfl) rfl (pi_tup (pv 0)) (pg_name (i := 5) scHold.nd rfl (.inl rfl)) (pss_cons (ps_if (pt_cmpR op_ge (pe_callB (call_lenK K) (by rfl) T.n_len PySem.boot_len (pa_cons (pv 4) pa_nil)) (pv 3) (nomark _)) (pss_one ps_break) pss_nil) (pss_one (ps_if (pt_cmpR (op_inK K) (pv 5) (pv 1) (by rfl)) (pss_one (ps_expr (pe_bm PySem.F.plainAttrs_list PySem.F.slot_list_append PySem.F.type_list_append mt_append (pv 4) (pa_cons (pv 5) pa_nil)))) pss_nil)))) (pss_cons (ps_if (pt_cmpR op_lt (pe_callB (call_lenK K) (by rfl) T.n_len PySem.boot_len (pa_cons (pv 4) pa_nil)) (pv 3) (nomark _)) (pss_one (ps_raise rfl (takes_of rfl rfl rfl rfl) (pmk_oex T.eTooS.ox T.eTooS.iC T.eTooS.tI (ok_toos T) hr T.bTooS .nil pass0 (by rfl) T.gcTooS (pa_cons (pv 0) pa_nil)))) pss_nil) (pss_one (ps_ret (pe_callTy (call_tupleK K) (by rfl) T.n_tuple (by decide +kernel) (pa_cons (pv 4) pa_nil))))))), ?_⟩
    have em : (if ((setV ls).length : Int) < (f : Int) then ((setV ls).length : Int) else (f : Int)) = ((min f ls.length : Nat) : Int) := by
      rw [setV_len]
      by_cases c : ls.length < f
      · rw [if_pos (by omega), Nat.min_eq_right (by omega)]
      · rw [if_neg (by omega), Nat.min_eq_left (by omega)]
    refine ⟨_, rfl, .ref b, rfl, b, _, rfl, .inr hB, _, _, rfl, ?_⟩
    dsimp only [gName]
    rw [em]
    generalize min f ls.length = wn at q1 q2
    refine ⟨Nat.zero_le _, fun pf nf => ?_⟩
    refine ⟨fun σ H2 => ∃ v5, σ = [some (.ref a), some (.ref b), some (.int f), some (.int wn), some (.ref pf), v5] ∧ Same H H2 ∧ H2 pf = some (.lst (setV (holdL ls os wn))), ?_, ?_⟩
    · refine ⟨.ref a, rfl, a, rfl, ⟨_, Same.seqT (same_new nf) hA⟩, for_tup (K := K) (a := a) (xs := setV os) (fun i σ H2 => ∃ v5, σ = [some (.ref a), some (.ref b), some (.int f), some (.int wn), some (.ref pf), v5] ∧ Same H H2 ∧ H2 pf = some (.lst (setV (holdL ls (os.take i) wn)))) ⟨none, rfl, same_new nf, ?_⟩ (fun i σ H2 _ ⟨_, _, s2, _⟩ => Same.seqT s2 hA) ?_ ?_⟩
      · rw [upd_same]
        unfold holdL inL
        simp [setV]
      · rintro i x σ H2 hz ⟨v5, rfl, s2, hF⟩
        obtain ⟨m, hm, rfl⟩ := setV_get hz
        have hl2 := hold_len ls (os.take i) wn
        have hl3 : (inL ls (os.take i)).length ≤ 60 := by
          have := List.length_filter_le (fun x => decide (x ∈ ls)) (os.take i)
          have h2 : (os.take i).length ≤ 60 := by
            rw [List.length_take]
            omega
          exact Nat.le_trans this h2
        have st := hold_step (ls := ls) (w := wn) hm
        refine ⟨.ref pf, rfl, pf, _, rfl, .inl (SqL.of hF), _, rfl, _, _, rfl, rfl, _, rfl, ite2 (fun h1 => ?_) (fun h1 => ?_)⟩
        · have h2 : wn ≤ (holdL ls (os.take i) wn).length := by
            have h3 : (wn : Int) ≤ ((setV (holdL ls (os.take i) wn)).length : Int) := of_decide_eq_true h1
            rw [setV_len] at h3
            omega
          exact ⟨_, rfl, s2, by rw [hold_full h2]; exact hF⟩
        · have h2 : (holdL ls (os.take i) wn).length < wn := by
            have h3 : ¬ (wn : Int) ≤ ((setV (holdL ls (os.take i) wn)).length : Int) := fun z => h1 (decide_eq_true z)
            rw [setV_len] at h3
            omega
          refine ⟨_, rfl, .ref b, rfl, b, _, rfl, .inr (Same.seqT s2 hB), rfl, setV_flat _, _, rfl, ?_⟩
          rw [inV_setV]
          refine ite2 (fun h3 => ?_) (fun h3 => ?_)
          · have h4 : m ∈ ls := of_decide_eq_true (by simpa using h3)
            rw [if_pos ⟨h2, h4⟩] at st
            refine ⟨.ref pf, rfl, .inl ⟨rfl, _, SqL.of hF⟩, _, rfl, pf, _, _, rfl, rfl, hF, ?_, _, rfl, keep_upd s2 nf, ?_⟩
            · rw [setV_len]
              exact small1000 (by omega)
            · rw [upd_same, st, setV_app]
              rfl
          · have h4 : ¬ m ∈ ls := fun z => h3 (by simpa using z)
            rw [if_neg (fun z => h4 z.2)] at st
            exact ⟨_, rfl, s2, by rw [st]; exact hF⟩
      · rintro σ H2 ⟨v5, rfl, s2, hF⟩
        rw [setV_len, List.take_length] at hF
        exact ⟨_, rfl, s2, hF⟩
    · rintro σ H2 ⟨v5, rfl, s2, hF⟩
      have hl2 := hold_len ls os wn
      refine ⟨.ref pf, rfl, pf, _, rfl, .inl (SqL.of hF), _, rfl, _, _, rfl, rfl, _, rfl, ite2 (fun h1 => ?_) (fun h1 => ?_)⟩
      · have h2 : (holdL ls os wn).length < wn := by
          have h3 : ((setV (holdL ls os wn)).length : Int) < (wn : Int) := of_decide_eq_true h1
          rw [setV_len] at h3
          omega
        refine ⟨.ref a, rfl, (by show 1 ≤ 1000; decide), fun e ne => ⟨e, .ref a, rfl, upd_same, fun dx nd nx => ?_⟩⟩
        obtain ⟨e1, e2, e3, e4, e5⟩ := err_end (f := "order") (v := .ref a) ne nd nx
        exact ⟨rfl, dx, _, e1, e2, e3, q2 (by omega) _ dx (s2.trans e4) e5 (s2.free e3)⟩
      · have h2 : ¬ (holdL ls os wn).length < wn := fun z => h1 (decide_eq_true (by rw [setV_len]; omega))
        refine ⟨.ref pf, rfl, pf, _, rfl, .inl ⟨SqL.of hF, fun t nt => ?_⟩⟩
        exact q1 (by omega) _ t (s2.trans (same_new nt)) (s2.free nt) upd_same
end
/-! ### tuples of servers as keys -/
def nkT (ms : List Nat) : NestedKey := .tup (ms.map fun (m : Nat) => .num (m : Int))
theorem nk_all_set {K : PySem.W.Frag} {H : Hp} : ∀ ms : List Nat, NkAll K H (ms.map fun (m : Nat) => NestedKey.num (m : Int)) (setV ms)
  | [] => .nil
  | m :: r => .cons (.num _) (nk_all_set r)
theorem nkT_at {K : PySem.W.Frag} {H : Hp} {t : Addr} {ms : List Nat} (h : SqT K H t (setV ms)) : NkAt K H (nkT ms) (.ref t) := .tup h (nk_all_set ms)
theorem nkT_depth (ms : List Nat) : (nkT ms).depth ≤ 8 := by
  have e : ∀ l : List Nat, NestedKey.depthAll (l.map fun (m : Nat) => NestedKey.num (m : Int)) = 0 := by
    intro l
    induction l with
    | nil => rfl
    | cons a r ih =>
      rw [List.map_cons]
      simp only [NestedKey.depthAll, NestedKey.depth]
      rw [ih]
      rfl
  unfold nkT
  simp only [NestedKey.depth]
  rw [e]
  decide
theorem nkT_inj {a b : List Nat} (h : nkT a = nkT b) : a = b := by
  unfold nkT at h
  injection h with h
  induction a generalizing b with
  | nil =>
    cases b with
    | nil => rfl
    | cons y s => cases h
  | cons x r ih =>
    cases b with
    | nil => cases h
    | cons y s =>
      rw [List.map_cons, List.map_cons] at h
      injection h with h1 h2
      injection h1 with h1
      rw [ih h2, show x = y by omega]
/-- how often a set comes among the keys -/
theorem nkT_count (ks : List (List Nat)) (c : List Nat) : (ks.map nkT).count (nkT c) = ks.count c := by
  induction ks with
  | nil => rfl
  | cons k r ih =>
    rw [List.map_cons, List.count_cons, List.count_cons, ih]
    congr 1
    by_cases e : k = c
    · rw [e, if_pos (beq_self_eq_true _), if_pos (beq_self_eq_true _)]
    · rw [if_neg (fun z => e (nkT_inj (beq_iff_eq.mp z))), if_neg (fun z => e (beq_iff_eq.mp z))]
theorem tally_get (ks : List (List Nat)) (c : List Nat) : (valV (tallyN (ks.map nkT)) (nkT c)).getD (.int 0) = .int (ks.count c : Nat) := by
  rw [tally_val _ _ rfl, nkT_count]
  by_cases e : ks.count c = 0
  · rw [if_pos e, e]
    rfl
  · rw [if_neg e]
    rfl
theorem tally_len (ks : List NestedKey) : (tallyN ks).length ≤ ks.length := by
  unfold tallyN
  have g : ∀ (ks : List NestedKey) (acc : List (NestedKey × V)), (ks.foldl (fun acc k => putK acc k (.int (cntV (valV acc k) + 1))) acc).length ≤ acc.length + ks.length := by
    intro ks
    induction ks with
    | nil => intro acc; exact Nat.le_refl _
    | cons k r ih =>
      intro acc
      rw [List.foldl_cons]
      have h1 := ih (putK acc k (.int (cntV (valV acc k) + 1)))
      have h2 := length_putK acc k (.int (cntV (valV acc k) + 1))
      rw [List.length_cons]
      omega
  have := g ks []
  rw [List.length_nil] at this
  omega
/-- one more -/
theorem tally_one (ks : List (List Nat)) (c : List Nat) : putK (tallyN (ks.map nkT)) (nkT c) (.int ((ks.count c : Nat) + 1)) = tallyN ((ks ++ [c]).map nkT) := by
  rw [List.map_append]
  show _ = tallyN (ks.map nkT ++ [nkT c])
  rw [tally_snoc]
  congr 2
  congr 1
  rw [tally_val _ _ rfl, nkT_count]
  by_cases e : ks.count c = 0
  · rw [if_pos e, e]
    rfl
  · rw [if_neg e]
    rfl
/-! ### lists of tuples of servers -/
def RowsL (K : PySem.W.Frag) (H : Hp) (ts : List V) (rows : List (List Nat)) : Prop := PySem.Paired (fun v ms => ∃ t, v = V.ref t ∧ SqT K H t (setV ms)) ts rows
theorem RowsL.same {K : PySem.W.Frag} {H H' : Hp} {ts : List V} {rows : List (List Nat)} (s : Same H H') (h : RowsL K H ts rows) : RowsL K H' ts rows := PySem.Paired.mono (fun v ms ⟨t, e, z⟩ => ⟨t, e, Same.seqT s z⟩) h
theorem RowsL.app {K : PySem.W.Frag} {H : Hp} {xs ys : List V} {L M : List (List Nat)} (h : RowsL K H xs L) (g : RowsL K H ys M) : RowsL K H (xs ++ ys) (L ++ M) := by
  unfold RowsL at *
  induction h with
  | nil => exact g
  | cons a _ ih => exact .cons a ih
theorem RowsL.len {K : PySem.W.Frag} {H : Hp} {ts : List V} {rows : List (List Nat)} (h : RowsL K H ts rows) : ts.length = rows.length := by
  unfold RowsL at h
  induction h with
  | nil => rfl
  | cons _ _ ih => exact congrArg (· + 1) ih
theorem RowsL.at {K : PySem.W.Frag} {H : Hp} {ts : List V} {rows : List (List Nat)} (h : RowsL K H ts rows) : ∀ {i : Nat} {v : V}, ts[i]? = some v → ∃ ms, rows[i]? = some ms ∧ ∃ t, v = V.ref t ∧ SqT K H t (setV ms) := by
  unfold RowsL at h
  induction h with
  | nil =>
    intro i v z
    cases z
  | cons a _ ih =>
    intro i v z
    cases i with
    | zero =>
      obtain rfl := Option.some.inj z
      exact ⟨_, rfl, a⟩
    | succ i => exact ih z
theorem RowsL.mem {K : PySem.W.Frag} {H : Hp} {ts : List V} {rows : List (List Nat)} (h : RowsL K H ts rows) {v : V} (hv : v ∈ ts) : ∃ ms, ms ∈ rows ∧ ∃ t, v = V.ref t ∧ SqT K H t (setV ms) := by
  obtain ⟨i, hi⟩ := List.getElem?_of_mem hv
  obtain ⟨ms, h1, h2⟩ := h.at hi
  exact ⟨ms, List.mem_of_getElem? h1, h2⟩
def tupD (ms : List Nat) : PyData := .tuple (natD ms)
theorem natD_ints (ms : List Nat) : natD ms = (intL ms).map PyData.int := by
  unfold natD
  rw [List.map_map]
  rfl
theorem dp_tup {K : PySem.W.Frag} {H : Hp} {t : Addr} {ms : List Nat} (h : SqT K H t (setV ms)) : Dp K H (.ref t) (tupD ms) := .tup h (dp_set ms)
theorem RowsL.dp {K : PySem.W.Frag} {H : Hp} {ts : List V} {rows : List (List Nat)} (h : RowsL K H ts rows) : DpAll K H ts (rows.map tupD) := by
  unfold RowsL at h
  induction h with
  | nil => exact .nil
  | cons a _ ih =>
    obtain ⟨t, rfl, ht⟩ := a
    exact .cons (dp_tup ht) ih
theorem RowsL.pairs {K : PySem.W.Frag} {H : Hp} {ts : List V} {rows : List (List Nat)} (h : RowsL K H ts rows) : ∃ bs : List (V × PyData), bs.map (·.1) = ts ∧ bs.map (·.2) = rows.map tupD ∧ ∀ b ∈ bs, Dp K H b.1 b.2 := by
  unfold RowsL at h
  induction h with
  | nil => exact ⟨[], rfl, rfl, fun _ hb => absurd hb List.not_mem_nil⟩
  | @cons v ms _ _ a _ ih =>
    obtain ⟨t, rfl, ht⟩ := a
    obtain ⟨bs, e1, e2, e3⟩ := ih
    refine ⟨(.ref t, tupD ms) :: bs, by rw [List.map_cons, e1], by rw [List.map_cons, e2]; rfl, fun b hb => ?_⟩
    rcases List.mem_cons.mp hb with rfl | hb
    · exact dp_tup ht
    · exact e3 b hb
theorem alike_tup (xs ys : List Nat) : PySem.W.alike (tupD xs) (tupD ys) = true := by
  unfold tupD
  rw [natD_ints, natD_ints]
  exact PySem.W.alike_ints _ _
theorem depth_tup (ms : List Nat) : (tupD ms).depth ≤ 20 := by
  unfold tupD
  rw [natD_ints]
  have : (PyData.tuple ((intL ms).map PyData.int)).depth = PyData.depthAll ((intL ms).map PyData.int) + 1 := rfl
  rw [this, PySem.W.depth_ints]
  decide
theorem dLe_tup {u v : V} {xs ys : List Nat} (h : LexLe xs ys) : dLe (u, tupD xs) (v, tupD ys) = true := by
  unfold tupD
  rw [natD_ints, natD_ints, dLe_ints, decide_eq_false h]
  rfl
theorem asc_pairs : ∀ {bs : List (V × PyData)} {rows : List (List Nat)}, bs.map (·.2) = rows.map tupD → rows.Pairwise LexLe → bs.Pairwise fun a b => dLe a b = true
  | [], _, _, _ => List.Pairwise.nil
  | _ :: _, [], e, _ => by cases e
  | (u, d) :: bs, ms :: rows, e, h => by
    obtain ⟨rfl, e2⟩ := List.cons.inj e
    obtain ⟨h1, h2⟩ := List.pairwise_cons.mp h
    refine List.pairwise_cons.mpr ⟨fun b hb => ?_, asc_pairs e2 h2⟩
    have hb2 : b.2 ∈ rows.map tupD := by
      rw [← e2]
      exact List.mem_map.mpr ⟨b, hb, rfl⟩
    obtain ⟨m2, hm2, eb⟩ := List.mem_map.mp hb2
    obtain ⟨bu, bd⟩ := b
    obtain rfl : tupD m2 = bd := eb
    exact dLe_tup (h1 m2 hm2)
/-- sorted of ascending rows -/
theorem sort_rows {K : PySem.W.Frag} {H : Hp} {a : Addr} {ts : List V} {rows : List (List Nat)} {Q : VK} (hL : SqL K H a ts) (r : RowsL K H ts rows) (asc : rows.Pairwise LexLe) (ne : ∀ ms ∈ rows, ms ≠ []) (q : ∀ p, H p = none → Q (.ref p) (upd H p (.lst ts))) : rSortD K [.ref a] H Q := by
  obtain ⟨bs, e1, e2, e3⟩ := r.pairs
  refine ⟨a, bs, rfl, by rw [e1]; exact hL, e3, ?_, ?_, fun b hb => ?_, fun p np => ?_⟩
  · rw [e2]
    intro d hd d' hd'
    obtain ⟨x, _, rfl⟩ := List.mem_map.mp hd
    obtain ⟨y, _, rfl⟩ := List.mem_map.mp hd'
    exact alike_tup x y
  · rw [e2]
    refine .inl fun d hd => ?_
    obtain ⟨ms, hm, rfl⟩ := List.mem_map.mp hd
    cases ms with
    | nil => exact absurd rfl (ne [] hm)
    | cons m r => exact ⟨_, _, rfl⟩
  · have hb2 : b.2 ∈ rows.map tupD := by
      rw [← e2]
      exact List.mem_map.mpr ⟨b, hb, rfl⟩
    obtain ⟨ms, _, e⟩ := List.mem_map.mp hb2
    rw [← e]
    exact depth_tup ms
  · rw [dsort_id (asc_pairs e2 asc), e1]
    exact q p np
theorem sh_rows {d : Nat} : ∀ {rows : List (List Nat)}, (∀ r ∈ rows, r.length ≤ d ∧ ∀ x ∈ r, x < 60) → ShAll 1 ((7 * d + 1) * rows.length) (rows.map tupD)
  | [], _ => ShAll.nil.mono (by decide) (Nat.zero_le _)
  | r :: rows, h => by
    obtain ⟨h1, h2⟩ := h r List.mem_cons_self
    have a := sh_nat (b := 6) (by decide) (by decide) (ms := r) fun x hx => by
      have := h2 x hx
      omega
    have b := Sh.tup a
    have m1 : (6 + 1) * r.length ≤ 7 * d := Nat.mul_le_mul_left 7 h1
    have c := ShAll.cons (b.mono (Nat.le_refl _) m1) (sh_rows fun r' hr => h r' (List.mem_cons_of_mem _ hr))
    refine c.mono (Nat.le_refl _) ?_
    show 7 * d + 1 + (7 * d + 1) * rows.length ≤ (7 * d + 1) * (rows.length + 1)
    rw [Nat.mul_succ]
    omega
theorem hide_upd {D : Addr} {H5 H6 : Hp} {o : HO} (s : Same H5 H6) : Same (hide D H5) (hide D (upd H6 D o)) := fun b x e => by
  by_cases h : b = D
  · unfold hide at e
    rw [if_pos h] at e
    cases e
  · rw [hide_ne h] at e ⊢
    rw [upd_ne h]
    exact s b x e
/-- one more row behind a list that is being made -/
theorem RowsL.grow {K : PySem.W.Frag} {D t : Addr} {H5 H6 : Hp} {ts : List V} {rows : List (List Nat)} {ms : List Nat} {o : HO} (s : Same H5 H6) (h : RowsL K (hide D H5) ts rows) (nt : t ≠ D) (ht : H6 t = some (.tup (setV ms))) : RowsL K (hide D (upd H6 D o)) (ts ++ [V.ref t]) (rows ++ [ms]) :=
  RowsL.app (h.same (hide_upd s)) (.cons ⟨t, rfl, SqT.of (by rw [hide_ne nt, upd_ne nt]; exact ht)⟩ .nil)
theorem RowsL.show {K : PySem.W.Frag} {D : Addr} {H : Hp} {ts : List V} {rows : List (List Nat)} (h : RowsL K (hide D H) ts rows) : RowsL K H ts rows := h.same (hide_same D H)
theorem range_rows {α : Type} (f : Nat → α) (z : Nat) : (List.range (z + 1)).map f = (List.range z).map f ++ [f z] := by
  rw [List.range_succ, List.map_append]
  rfl
/-! ### tables: tuples of tuples of servers -/
theorem paired_app {α β : Type} {R : α → β → Prop} {xs ys : List α} {L M : List β} (h : PySem.Paired R xs L) (g : PySem.Paired R ys M) : PySem.Paired R (xs ++ ys) (L ++ M) := by
  induction h with
  | nil => exact g
  | cons a _ ih => exact .cons a ih
/-- a tuple of tuples of servers -/
def TabAt (K : PySem.W.Frag) (H : Hp) (a : Addr) (rows : List (List Nat)) : Prop := ∃ ts : List V, SqT K H a ts ∧ PySem.Paired (fun v ms => ∃ t, v = V.ref t ∧ SqT K H t (setV ms)) ts rows
def stdRows (n d c : Nat) : List (List Nat) := (List.range c).map fun k => (path n d c k).1
theorem TabAt.same {K : PySem.W.Frag} {H H' : Hp} {a : Addr} {rows : List (List Nat)} (s : Same H H') (h : TabAt K H a rows) : TabAt K H' a rows := by
  obtain ⟨ts, h1, h2⟩ := h
  exact ⟨ts, Same.seqT s h1, PySem.Paired.mono (fun v ms ⟨t, e, z⟩ => ⟨t, e, Same.seqT s z⟩) h2⟩
/-! ### all sets of a size among ascending servers -/
/-- pairs of a tuple of servers and a number -/
theorem RowsL.updD {K : PySem.W.Frag} {H : Hp} {D : Addr} {ts ys : List V} {rows : List (List Nat)} {o : HO} (h : RowsL K H ts rows) (hD : H D = some (.lst ys)) : RowsL K (upd H D o) ts rows := PySem.Paired.mono (fun v ms ⟨t, e, z⟩ => ⟨t, e, SqT_updL z hD⟩) h
def BegL (K : PySem.W.Frag) (H : Hp) (us : List V) (bs : List (List Nat × Nat)) : Prop := PySem.Paired (fun v (b : List Nat × Nat) => ∃ u t, v = V.ref u ∧ SqT K H u [.ref t, .int (b.2 : Int)] ∧ SqT K H t (setV b.1)) us bs
theorem BegL.same {K : PySem.W.Frag} {H H' : Hp} {us : List V} {bs : List (List Nat × Nat)} (s : Same H H') (h : BegL K H us bs) : BegL K H' us bs := PySem.Paired.mono (fun v b ⟨u, t, e, z1, z2⟩ => ⟨u, t, e, Same.seqT s z1, Same.seqT s z2⟩) h
theorem BegL.updL {K : PySem.W.Frag} {H : Hp} {D : Addr} {us ys : List V} {bs : List (List Nat × Nat)} {o : HO} (h : BegL K H us bs) (hD : H D = some (.lst ys)) : BegL K (upd H D o) us bs := PySem.Paired.mono (fun v b ⟨u, t, e, z1, z2⟩ => ⟨u, t, e, SqT_updL z1 hD, SqT_updL z2 hD⟩) h
theorem BegL.app {K : PySem.W.Frag} {H : Hp} {us vs : List V} {bs cs : List (List Nat × Nat)} (h : BegL K H us bs) (k : BegL K H vs cs) : BegL K H (us ++ vs) (bs ++ cs) := paired_app h k
theorem BegL.len {K : PySem.W.Frag} {H : Hp} {us : List V} {bs : List (List Nat × Nat)} (h : BegL K H us bs) : us.length = bs.length := PySem.Paired.length h
theorem paired_get {α β : Type} {R : α → β → Prop} {xs : List α} {ys : List β} (h : PySem.Paired R xs ys) : ∀ {i : Nat} {x : α}, xs[i]? = some x → ∃ y, ys[i]? = some y ∧ R x y := by
  induction h with
  | nil =>
    intro i x z
    cases z
  | cons a _ ih =>
    intro i x z
    cases i with
    | zero =>
      obtain rfl := Option.some.inj z
      exact ⟨_, rfl, a⟩
    | succ i => exact ih z
theorem rgc_down (k : Nat) (h : k < 2 ^ 62) : RgC (k : Int) 0 (-1) k := by
  have := RgC.neg (i := (k : Int)) (j := 0) (by omega) (by omega) (by decide) (by decide)
  rw [Int.sub_zero, Int.toNat_natCast] at this
  exact this
/-! ### which sets hold how many -/
def keyL (ls : List Nat) (f : Nat) (r : List Nat) : List Nat := srt (holdL ls r f)
/-- how many rows have this set of first live servers -/
def ldC (ls : List Nat) (f : Nat) (rows : List (List Nat)) (c : List Nat) : Nat := (rows.map (keyL ls f)).count c
/-! ### held_by_sets -/
def spHelds (P : Program) (w : World) (K : PySem.W.Frag) (CS : Addr) : Sp := fun vs H Q E => ∃ (a b : Addr) (ts : List V) (rows : List (List Nat)) (ls : List Nat) (f : Nat), vs = [.ref a, .ref b, .int f] ∧ SqT K H a ts ∧ RowsL K H ts rows ∧ SqT K H b (setV ls) ∧ rows.length ≤ 20000 ∧ (∀ r ∈ rows, r.length ≤ 60) ∧ ls.length ≤ 60 ∧ f ≤ ls.length ∧
  ((∀ r ∈ rows, f ≤ (inL ls r).length) → ∀ H' d, Same H H' → H d = none → DAt P w K H' d (tallyN ((rows.map (keyL ls f)).map nkT)) → Q (.ref d) H') ∧
  (∀ (i : Nat) (r : List Nat) (t : Addr), rows[i]? = some r → ts[i]? = some (.ref t) → (∀ x ∈ rows.take i, f ≤ (inL ls x).length) → ¬ f ≤ (inL ls r).length → Raised "order" CS (.ref t) H E)
section
variable {P : Program} {w : World} {K : PySem.W.Frag} {mg : Str → Option Value} {base : Heap}
theorem ok_helds (T : Txt K mg) {j : Nat} : FnOk P w K mg base (L2.CX P w) (j + 4) T.fHelds T.fdHelds ["table", "live", "factor"] (spHelds P w K T.cTooS) := by
  refine T.FHelds.okX scHelds (fun vs H Q E h => ?_) (fun cdv A outer s H vs Q E hr h => ?_)
  · obtain ⟨a, b, ts, rows, ls, f, rfl, _⟩ := h
    rfl
  · obtain ⟨a, b, ts, rows, ls, f, rfl, hA, R0, hB, hl, hrl, hll, hf, q1, q2⟩ := h
    have hu9 : (A.deeper (envOfC "held_by_sets" (defScope sHelds) s.heap.objs.size T.fHelds cdv)).units + 9 < cLine := by
      have := hr.un
      omega
    refine ⟨_, pss_cons (ps_set (i := 3) scHelds.nd rfl (.inl rfl) (pe_dnewN (P := P) (w := w))) (pss_cons (ps_for (passes_of rfl) rfl (pi_tup (pv 0)) (pg_name (i := 4) scHelds.nd rfl (.inl rfl)) (pss_cons (ps_set (i := 5) scHelds.nd rfl (.inl rfl) (pe_callTy (call_tupleK K) (by rfl) T.n_tuple (by decide +kernel) (pa_cons (pe_callB (cr_sortTI K) (by rfl) T.n_sorted (by decide +kernel) (pa_cons (pe_call (ok_hold T) hr (by rfl) T.gHold T.FHold.kp T.bHold .nil (passes_call (takes_of rfl rfl rfl rfl) (fun _ _ _ _ h => h)) (pa_cons (pv 4) (pa_cons (pv 1) (pa_cons (pv 2) pa_nil)))) pa_nil)) pa_nil))) (pss_one (ps_asg (pe_op op_add (pe_bmN (P := P) (w := w) PySem.F.slot_dict_get PySem.F.type_dict_get (mt_getDN (P := P) (w := w) K hu9) (pv 3) (pa_cons (pv 5) (pa_cons pe_int pa_nil))) pe_int) (pg_sub (pv 3) (pv 5) (set_dN (P := P) (w := w) K hu9)))))) (pss_one (ps_ret (pv 3)))), ?_⟩
    intro D nD
    refine ⟨.ref a, rfl, a, rfl, ⟨_, Same.seqT (same_new nD) hA⟩, for_tup (K := K) (a := a) (xs := ts) (fun i σ H3 => ∃ v4 v5, σ = [some (.ref a), some (.ref b), some (.int f), some (.ref D), v4, v5] ∧ Same H H3 ∧ DAt P w K H3 D (tallyN (((rows.take i).map (keyL ls f)).map nkT)) ∧ ∀ x ∈ rows.take i, f ≤ (inL ls x).length) ⟨none, none, rfl, same_new nD, ⟨[], upd_same, fun x hx => absurd hx List.not_mem_nil, rfl⟩, fun x hx => absurd hx List.not_mem_nil⟩ (fun i σ H3 _ ⟨_, _, _, s3, _⟩ => Same.seqT s3 hA) ?_ ?_⟩
    · rintro i v σ H3 hz ⟨v4, v5, rfl, s3, hD3, ok3⟩
      obtain ⟨r, hr2, t, rfl, hT⟩ := (R0.same s3).at hz
      have hrm := List.mem_of_getElem? hr2
      have em : min f ls.length = f := Nat.min_eq_left hf
      refine ⟨_, rfl, .ref b, rfl, _, rfl, t, b, r, ls, f, rfl, hT, Same.seqT s3 hB, hrl r hrm, hll, fun hle H4 th s4 nth hth => ?_, fun hlt => (q2 i r t hr2 hz ok3 (by omega)).on s3⟩
      rw [em] at hle hth
      have hhl : (holdL ls r f).length ≤ 60 := by
        rw [hold_len]
        omega
      refine ⟨th, intL (holdL ls r f), rfl, .inr (SqT.of (by rw [← setV_ints]; exact hth)), by rw [List.length_map]; omega, fun ns' q0 pm srtd nq0 => ?_⟩
      obtain ⟨ks, rfl, pk⟩ := ints_back pm
      rw [← setV_ints]
      obtain rfl : ks = keyL ls f r := srt_of pk (le_back srtd)
      refine ⟨q0, _, rfl, .inl ⟨SqL.of upd_same, fun tq ntq => ?_⟩⟩
      have s5 := (same_new (o := .lst (setV (keyL ls f r))) nq0).trans (same_new (o := .tup (setV (keyL ls f r))) ntq)
      have htq : (upd (upd H4 q0 (.lst (setV (keyL ls f r)))) tq (.tup (setV (keyL ls f r)))) tq = some (.tup (setV (keyL ls f r))) := upd_same
      have hD5 := hD3.same (s4.trans s5)
      have s35 := (s3.trans s4).trans s5
      dsimp only [gName]
      generalize upd (upd H4 q0 (.lst (setV (keyL ls f r)))) tq (.tup (setV (keyL ls f r))) = H5 at s5 htq hD5 s35
      have hk := nkT_at (SqT.of (K := K) htq)
      have dl := tally_len (((rows.take i).map (keyL ls f)).map nkT)
      rw [List.length_map, List.length_map, List.length_take] at dl
      have htg := tally_get ((rows.take i).map (keyL ls f)) (keyL ls f r)
      obtain ⟨xs5, e5, _⟩ := id hD5
      refine ⟨.ref D, rfl, ⟨D, xs5, rfl, e5⟩, .ref tq, rfl, D, tq, .int 0, _, nkT (keyL ls f r), rfl, rfl, hD5, hk, nkT_depth _, ?_⟩
      rw [htg]
      refine ⟨_, _, rfl, rfl, .ref D, rfl, .ref tq, rfl, D, tq, _, nkT (keyL ls f r), rfl, rfl, hD5, hk, nkT_depth _, by rw [sizeLine_eq]; omega, fun u hu => ?_⟩
      rw [tally_one] at hu
      refine ⟨_, _, rfl, keep_upd s35 nD, ?_, fun x hx => ?_⟩
      · rw [take_snoc hr2, List.map_append]
        exact hu
      · rw [take_snoc hr2] at hx
        rcases List.mem_append.mp hx with hx | hx
        · exact ok3 x hx
        · rw [List.mem_singleton.mp hx]
          exact hle
    · rintro σ H3 ⟨v4, v5, rfl, s3, hD3, ok3⟩
      rw [R0.len, List.take_length] at hD3 ok3
      exact ⟨.ref D, rfl, q1 ok3 _ D s3 nD hD3⟩
end
/-! ### check_reached -/
theorem cut_takeR (xs : List V) (j : Nat) : cutV xs none (some (j : Int)) = xs.take j := by
  unfold cutV
  rw [HT.sIx_none, show HT.sIx xs.length xs.length (some (j : Int)) = min j xs.length from HT.sIx_nat xs.length xs.length j]
  show ((xs.drop 0).take (min j xs.length - 0)) = xs.take j
  rw [List.drop_zero, Nat.sub_zero, ← List.take_eq_take_min]
def spChkR (K : PySem.W.Frag) (CS : Addr) : Sp := fun vs H Q E => ∃ (n f k : Nat) (a : Addr) (ts : List V) (rows : List (List Nat)), vs = [.int n, .ref a, .int f, .int k] ∧ SqT K H a ts ∧ RowsL K H ts rows ∧
  ((∀ r, rows.head? = some r → min n (f + k) ≤ r.length) → ∀ H', Same H H' → Q .non H') ∧
  (∀ (r : List Nat) (t : Addr), rows.head? = some r → ts.head? = some (.ref t) → r.length < min n (f + k) → Raised "order" CS (.ref t) H E)
section
variable {P : Program} {w : World} {K : PySem.W.Frag} {mg : Str → Option Value} {base : Heap}
theorem ok_chkr (T : Txt K mg) {j : Nat} : FnOk P w K mg base (L2.CX P w) (j + 3) T.fChkR T.fdChkR ["n", "table", "failures", "factor"] (spChkR K T.cTooS) := by
  refine T.FChkR.okX scChkR (fun vs H Q E h => ?_) (fun cdv A outer s H vs Q E hr h => ?_)
  · obtain ⟨n, f, k, a, ts, rows, rfl, _⟩ := h
    rfl
  · obtain ⟨n, f, k, a, ts, rows, rfl, hA, R0, q1, q2⟩ := h
    refine ⟨_, pss_one (ps_for (passes_of rfl) rfl (pi_tup (pe_slice (sl_tupS K) (pv 1) po_none (po_some pe_int))) (pg_name (i := 4) scChkR.nd rfl (.inl rfl)) (pss_one (ps_if (pt_cmpR op_lt (pe_callB (call_lenK K) (by rfl) T.n_len PySem.boot_len (pa_cons (pv 4) pa_nil)) (pe_call (ok_reachof T) hr (by rfl) T.gReachOf T.FReachOf.kp T.bReachOf .nil pass0 (pa_cons (pv 0) (pa_cons (pv 2) (pa_cons (pv 3) pa_nil)))) (nomark _)) (pss_one (ps_raise rfl (takes_of rfl rfl rfl rfl) (pmk_oex T.eTooS.ox T.eTooS.iC T.eTooS.tI (ok_toos T) hr T.bTooS .nil pass0 (by rfl) T.gcTooS (pa_cons (pv 4) pa_nil)))) pss_nil))), ?_⟩
    refine ⟨.ref a, rfl, _, rfl, a, _, rfl, hA, fun p H1 s1 hp => ?_⟩
    rw [show (1 : Int) = ((1 : Nat) : Int) from rfl, cut_takeR] at hp
    refine ⟨p, rfl, ⟨_, hp⟩, for_tup (K := K) (a := p) (xs := ts.take 1) (fun i σ H2 => ∃ v4, σ = [some (.int n), some (.ref a), some (.int f), some (.int k), v4] ∧ Same H1 H2 ∧ (i = 1 → ∀ r, rows.head? = some r → min n (f + k) ≤ r.length)) ⟨none, rfl, Same.refl _, fun z => absurd z (by decide)⟩ (fun i σ H2 _ ⟨_, _, s2, _⟩ => Same.seqT s2 hp) ?_ ?_⟩
    · rintro i v σ H2 hz ⟨v4, rfl, s2, ok⟩
      rw [List.getElem?_take] at hz
      split at hz
      · rename_i hi
        obtain rfl : i = 0 := by omega
        have s02 := s1.trans s2
        obtain ⟨r, hr0, t, rfl, ht⟩ := (R0.same s02).at hz
        have e1 : rows.head? = some r := by rw [List.head?_eq_getElem?]; exact hr0
        have e2 : ts.head? = some (.ref t) := by rw [List.head?_eq_getElem?]; exact hz
        refine ⟨.ref t, rfl, t, _, rfl, .inr ht, _, rfl, _, rfl, _, rfl, n, f, k, rfl, _, _, rfl, rfl, _, rfl, ite2 (fun h1 => ?_) (fun h1 => ?_)⟩
        · have h2 : r.length < min n (f + k) := by
            have h3 : ((setV r).length : Int) < ((min n (f + k) : Nat) : Int) := of_decide_eq_true h1
            rw [setV_len] at h3
            omega
          refine ⟨.ref t, rfl, (by show 1 ≤ 1000; decide), fun e ne => ⟨e, .ref t, rfl, upd_same, fun dx nd nx => ?_⟩⟩
          obtain ⟨x1, x2, x3, x4, x5⟩ := err_end (f := "order") (v := .ref t) ne nd nx
          exact ⟨rfl, dx, _, x1, x2, x3, q2 r t e1 e2 h2 _ dx (s02.trans x4) x5 (s02.free x3)⟩
        · refine ⟨_, rfl, s2, fun _ r' hr' => ?_⟩
          rw [e1] at hr'
          obtain rfl := Option.some.inj hr'
          have h3 : ¬ ((setV r).length : Int) < ((min n (f + k) : Nat) : Int) := fun z => h1 (decide_eq_true z)
          rw [setV_len] at h3
          omega
      · cases hz
    · rintro σ H2 ⟨v4, rfl, s2, ok⟩
      refine q1 (fun r hr => ?_) _ (s1.trans s2)
      refine ok ?_ r hr
      have : rows ≠ [] := fun e => by
        rw [e] at hr
        cases hr
      have h1 := List.length_pos_iff.mpr this
      rw [List.length_take, R0.len]
      omega
end
/-! ### is_claim of any value -/
theorem ti_inj : ∀ {A B : List Nat}, ti A = ti B → A = B
  | [], [], _ => rfl
  | [], _ :: _, e => by cases e
  | _ :: _, [], e => by cases e
  | a :: A, b :: B, e => by
    injection e with e1 e2
    injection e1 with e1
    rw [ti_inj e2, show a = b by omega]
/-- what is asked of the three sets -/
def Cl22 (n f k : Nat) (L A B : List Nat) : Prop := (∀ y ∈ A, y ∈ L) ∧ (∀ y ∈ B, y ∈ L) ∧ A.length = B.length ∧ 1 ≤ A.length ∧ A.length ≤ k ∧ n ≤ L.length + f
def Set22 (n : Nat) (L : List Nat) : Prop := Asc L ∧ ∀ y ∈ L, y < n
def three (L A B : List Nat) : TD := .tup [.tup (ti L), .tup (ti A), .tup (ti B)]
def Wit22 (n f k : Nat) (t : TD) : Prop := ∃ L A B, t = three L A B ∧ Set22 n L ∧ Set22 n A ∧ Set22 n B ∧ Cl22 n f k L A B
theorem three_inj {L A B L' A' B' : List Nat} (h : three L A B = three L' A' B') : L = L' ∧ A = A' ∧ B = B' := by
  unfold three at h
  injection h with h
  injection h with h1 h
  injection h with h2 h
  injection h with h3 _
  injection h1 with h1
  injection h2 with h2
  injection h3 with h3
  exact ⟨ti_inj h1, ti_inj h2, ti_inj h3⟩
theorem wit_three {n f k : Nat} {L A B : List Nat} (h1 : Set22 n L) (h2 : Set22 n A) (h3 : Set22 n B) : Wit22 n f k (three L A B) ↔ Cl22 n f k L A B := by
  constructor
  · rintro ⟨L', A', B', e, _, _, _, h⟩
    obtain ⟨rfl, rfl, rfl⟩ := three_inj e
    exact h
  · exact fun h => ⟨L, A, B, rfl, h1, h2, h3, h⟩
theorem set22_len {n : Nat} {L : List Nat} (h : Set22 n L) : L.length ≤ n := by
  have := live_dead h.1 h.2
  omega
def spClaim22 (K : PySem.W.Frag) : Sp := fun vs H Q _ => ∃ (n f k : Nat) (v : V) (t : TD), vs = [.int n, .int f, .int k, v] ∧ VT K H v t ∧ n ≤ 60 ∧ f < n ∧ ∀ H' b, Same H H' → (b = true ↔ Wit22 n f k t) → Q (.bl b) H'
section
variable {P : Program} {w : World} {K : PySem.W.Frag} {mg : Str → Option Value} {base : Heap}
theorem ok_claim22 (T : Txt K mg) {j : Nat} : FnOk P w K mg base CX0 (j + 3) T.fClaim22 T.fdClaim22 ["n", "failures", "factor", "thing"] (spClaim22 K) := by
  refine T.FClaim22.ok scClaim22 (fun vs H Q E h => ?_) (fun cdv A0 outer s H vs Q E hr h => ?_)
  · obtain ⟨n, f, k, v, t, rfl, _⟩ := h
    rfl
  · obtain ⟨n, f, k, v, t, rfl, hv, hn, hfn, q⟩ := h
    refine ⟨_, pss_cons (ps_if (PW.pt (pw_or (pt_not (pt_val (pe_callB (call_isiK1 K) (by rfl) T.n_isinstance (by decide +kernel) (pa_cons (pv 3) (pa_cons (pe_bltn (v := .ty "tuple") (by rfl) T.n_tuple (by decide +kernel) rfl) pa_nil))))) (pw_or1 (pt_cmpR op_ne (pe_callB (call_lenK K) (by rfl) T.n_len PySem.boot_len (pa_cons (pv 3) pa_nil)) pe_int (nomark _))))) (pss_one (ps_ret pe_bl)) pss_nil) (pss_cons (ps_for PassesOwn.never rfl (pi_tup (pv 3)) (pg_name (i := 4) scClaim22.nd rfl (.inl rfl)) (pss_one (ps_if (pt_not (pt_val (pe_call (ok_set22 T) hr (by rfl) T.gSet22 T.FSet22.kp T.bSet22 .nil pass0 (pa_cons (pv 0) (pa_cons (pv 4) pa_nil))))) (pss_one (ps_ret pe_bl)) pss_nil))) (pss_cons (ps_asg (pv 3) (pg_tup rfl (pgs_cons (pg_name (i := 5) scClaim22.nd rfl (.inl rfl)) (pgs_cons (pg_name (i := 6) scClaim22.nd rfl (.inl rfl)) (pgs_cons (pg_name (i := 7) scClaim22.nd rfl (.inl rfl)) pgs_nil))))) (pss_cons (ps_if (PW.pt (pw_or (pt_cmpR op_lt (pe_callB (call_lenK K) (by rfl) T.n_len PySem.boot_len (pa_cons (pv 5) pa_nil)) (pe_op op_sub (pv 0) (pv 1)) (nomark _)) (pw_or1 (pt_cmpR op_gt (pe_callB (call_lenSet (w := w)) (by rfl) T.n_len PySem.boot_len (pa_cons (pe_op (op_setSubW (w := w)) (pe_callTy (cr_setTn (K := K) (w := w) rfl) (by rfl) T.n_set (by decide +kernel) (pa_cons (pe_op (op_catS K) (pv 6) (pv 7)) pa_nil)) (pe_callTy (cr_setTn (K := K) (w := w) rfl) (by rfl) T.n_set (by decide +kernel) (pa_cons (pv 5) pa_nil))) pa_nil)) pe_int (nomark _))))) (pss_one (ps_ret pe_bl)) pss_nil) (pss_one (ps_ret (pe_and (pe_cmpR op_eq (pe_callB (call_lenK K) (by rfl) T.n_len PySem.boot_len (pa_cons (pv 6) pa_nil)) (pe_callB (call_lenK K) (by rfl) T.n_len PySem.boot_len (pa_cons (pv 7) pa_nil)) (nomark _)) (pe_one (pe_chain op_le op_le pe_int (pe_callB (call_lenK K) (by rfl) T.n_len PySem.boot_len (pa_cons (pv 6) pa_nil)) (pe_callB (call_min2 rfl) (by rfl) T.n_min (by decide +kernel) (pa_cons (pv 2) (pa_cons (pe_callB (call_lenK K) (by rfl) T.n_len PySem.boot_len (pa_cons (pv 5) pa_nil)) pa_nil))))))))))), ?_⟩
    obtain ⟨ty, tm⟩ := hv.ty
    have no : (∀ L A B, t ≠ three L A B) → ∀ H', Same H H' → Q (.bl false) H' := fun h H' s => q H' false s ⟨fun e => (by cases e), fun ⟨L, A, B, e, _⟩ => absurd e (h L A B)⟩
    refine ⟨v, rfl, v, .ty "tuple", _, _, _, rfl, .ty _, ty, kit_tuple tm, _, rfl, ?_⟩
    cases hv with
    | int i => exact iteT (no (fun L A B e => by cases e) H (Same.refl H))
    | oth h m n1 n2 =>
      rename_i t0
      rw [show (tyT (TD.oth t0) == "tuple") = false from n2]
      exact iteT (no (fun L A B e => by cases e) H (Same.refl H))
    | tup ht r =>
    rename_i a xs ts
    refine iteF ?_
    refine ⟨.ref a, rfl, a, _, rfl, .inr ht, rfl, _, rfl, ?_⟩
    have rl := r.len
    refine ite2 (fun c => ?_) (fun c => ?_)
    · refine no (fun L A B e => ?_) H (Same.refl H)
      injection e with e
      subst e
      rw [rl] at c
      simp at c
    have hl : xs.length = 3 := by
      refine Classical.byContradiction fun ne => c ?_
      rw [decide_eq_false (fun e => ne (by injection e with e; omega))]
      rfl
    refine ⟨.ref a, rfl, a, rfl, ⟨_, ht⟩, ?_⟩
    refine for_tup (K := K) (a := a) (xs := xs) (fun i σ H2 => ∃ v4, σ = [some (.int (n : Int)), some (.int (f : Int)), some (.int (k : Int)), some (.ref a), v4, none, none, none] ∧ H2 = H ∧ ∀ t ∈ ts.take i, setT n t = true) ⟨none, rfl, rfl, by simp⟩ (fun i σ H2 _ ⟨_, _, e, _⟩ => e ▸ ht) ?_ ?_
    · rintro i v σ H2 hv ⟨v4, rfl, rfl, al⟩
      obtain ⟨t, htt, hT⟩ := r.at hv
      dsimp only [gName]
      refine ⟨_, rfl, v, rfl, n, v, t, rfl, hT, ?_⟩
      refine ⟨_, rfl, ?_⟩
      cases hb : setT (n : Int) t with
      | false =>
        refine iteT (q H2 false (Same.refl _) ⟨fun e => (by cases e), fun ⟨L, A, B, e, z1, z2, z3, _⟩ => ?_⟩)
        unfold three at e
        injection e with e
        subst e
        have tm := List.mem_of_getElem? htt
        have z : setT (n : Int) t = true := by
          simp only [List.mem_cons, List.not_mem_nil, or_false] at tm
          rcases tm with rfl | rfl | rfl
          · exact setT_iff.mpr ⟨_, rfl, z1⟩
          · exact setT_iff.mpr ⟨_, rfl, z2⟩
          · exact setT_iff.mpr ⟨_, rfl, z3⟩
        rw [hb] at z
        cases z
      | true =>
        refine iteF ⟨_, rfl, rfl, fun u hu => ?_⟩
        rw [take_snoc htt] at hu
        rcases List.mem_append.mp hu with h | h
        · exact al u h
        · rw [List.mem_singleton.mp h]
          exact hb
    rintro σ H2 ⟨v4, rfl, rfl, al⟩
    rw [rl, List.take_length] at al
    obtain ⟨t0, t1, t2, rfl⟩ : ∃ t0 t1 t2, ts = [t0, t1, t2] := by
      rw [rl] at hl
      match ts, hl with
      | [t0, t1, t2], _ => exact ⟨_, _, _, rfl⟩
    obtain ⟨L, rfl, sL⟩ := setT_iff.mp (al t0 (by simp))
    obtain ⟨A, rfl, sA⟩ := setT_iff.mp (al t1 (by simp))
    obtain ⟨B, rfl, sB⟩ := setT_iff.mp (al t2 (by simp))
    obtain ⟨l, x, y, rfl, hL, hX, hY⟩ : ∃ l x y, xs = [V.ref l, V.ref x, V.ref y] ∧ SqT K H2 l (setV L) ∧ SqT K H2 x (setV A) ∧ SqT K H2 y (setV B) := by
      cases r with
      | cons h1 r =>
      cases r with
      | cons h2 r =>
      cases r with
      | cons h3 r =>
      cases r
      cases h1 with
      | tup a1 b1 =>
      cases h2 with
      | tup a2 b2 =>
      cases h3 with
      | tup a3 b3 =>
      rw [vts_ti b1] at a1
      rw [vts_ti b2] at a2
      rw [vts_ti b3] at a3
      exact ⟨_, _, _, rfl, a1, a2, a3⟩
    have qf : ∀ H' b, Same H2 H' → (b = true ↔ Cl22 n f k L A B) → Q (.bl b) H' := fun H' b s e => q H' b s (e.trans (wit_three sL sA sB).symm)
    clear q no al r ty tm
    have l1 := set22_len sL
    have l2 := set22_len sA
    have l3 := set22_len sB
    have qn : ¬ Cl22 n f k L A B → ∀ H', Same H2 H' → Q (.bl false) H' := fun z H' s => qf H' false s ⟨fun e => (by cases e), fun e => absurd e z⟩
    refine ⟨.ref a, rfl, a, _, rfl, ht, rfl, ?_⟩
    dsimp only [gCons, gName, gNil]
    refine ⟨_, _, rfl, _, _, rfl, _, _, rfl, rfl, ?_⟩
    refine ⟨.ref l, rfl, l, _, rfl, .inr hL, _, rfl, _, rfl, _, _, rfl, rfl, _, _, rfl, rfl, _, rfl, ?_⟩
    rw [setV_len]
    refine ite2 (fun c => iteT (qn (fun z => ?_) H2 (Same.refl _))) (fun c => ?_)
    · have := of_decide_eq_true c
      have := z.2.2.2.2.2
      omega
    have c1 : n ≤ L.length + f := by
      have : ¬ ((L.length : Int) < (n : Int) - (f : Int)) := fun z => c (decide_eq_true z)
      omega
    refine ⟨.ref x, rfl, .ref y, rfl, x, y, _, _, rfl, rfl, hX, hY, by rw [setV_len, setV_len, sizeLine_eq]; omega, fun p H3 s3 hp => ?_⟩
    rw [← setV_app, setV_ints] at hp
    refine ⟨p, _, rfl, hp, by rw [List.length_map, List.length_append]; omega, fun p1 m1 np1 d1 => ?_⟩
    have s4 := same_new (o := SetO w p1 (fun j => decide (j ∈ (A ++ B).map fun (m : Nat) => (m : Int))) m1) np1
    have hL4 := Same.seqT (s3.trans s4) hL
    rw [setV_ints] at hL4
    refine ⟨.ref l, rfl, l, _, rfl, hL4, by rw [List.length_map]; omega, fun p2 m2 np2 d2 => ?_⟩
    have s5 := same_new (o := SetO w p2 (fun j => decide (j ∈ L.map fun (m : Nat) => (m : Int))) m2) np2
    have e2 := d2.le
    have e1 := d1.le
    rw [List.length_map] at e1 e2
    rw [List.length_append] at e1
    have e3 : m1 ≤ n := by
      obtain ⟨ks, nd, mem, rfl⟩ := id d1
      have := sub_len (ns := (List.range n).map fun (m : Nat) => (m : Int)) nd fun k hk => by
        obtain ⟨m, hm, rfl⟩ := List.mem_map.mp ((mem k).mp hk)
        refine List.mem_map.mpr ⟨m, List.mem_range.mpr ?_, rfl⟩
        rcases List.mem_append.mp hm with h | h
        · exact sA.2 m h
        · exact sB.2 m h
      rw [List.length_map, List.length_range] at this
      exact this
    have e4 : m2 = L.length := by
      have := d2.nodup (List.pairwise_map.mpr ((asc_nodup sL.1).imp fun z e => z (by omega)))
      rw [List.length_map] at this
      exact this
    refine ⟨p1, p2, _, _, m1, m2, rfl, rfl, s5 _ _ upd_same, upd_same, by omega, by omega, fun k hk => ?_, fun r m nr hks => ?_⟩
    · obtain ⟨mm, hm, rfl⟩ := List.mem_map.mp (of_decide_eq_true hk)
      have : mm < n := (List.mem_append.mp hm).elim (sA.2 mm) (sB.2 mm)
      omega
    have s36 := ((s3.trans s4).trans s5).trans (same_new (o := SetO w r (fun k => decide (k ∈ (A ++ B).map fun (m : Nat) => (m : Int)) && !decide (k ∈ L.map fun (m : Nat) => (m : Int))) m) nr)
    refine ⟨r, _, _, rfl, upd_same, _, _, rfl, rfl, _, rfl, ?_⟩
    obtain ⟨ks, _, mem, lks⟩ := hks
    have mem2 : ∀ y : Nat, (y ∈ A ∨ y ∈ B) → y ∉ L → (y : Int) ∈ ks := fun y h1 h2 => (mem y).mpr (by
      rw [Bool.and_eq_true]
      refine ⟨decide_eq_true (List.mem_map.mpr ⟨y, List.mem_append.mpr h1, rfl⟩), ?_⟩
      rw [decide_eq_false (fun z => ?_)]
      · rfl
      obtain ⟨u, hu, e⟩ := List.mem_map.mp z
      exact h2 (by rw [show y = u by omega]; exact hu))
    generalize upd _ r _ = H6 at s36 ⊢
    refine ite2 (fun c => ?_) (fun c => ?_)
    · refine qn (fun z => ?_) H6 s36
      have c := of_decide_eq_true c
      cases ks with
      | nil => 
        rw [← lks] at c
        simp at c
      | cons k0 ks =>
        have h1 := (mem k0).mp List.mem_cons_self
        rw [Bool.and_eq_true] at h1
        obtain ⟨h1, h2⟩ := h1
        obtain ⟨mm, hm, rfl⟩ := List.mem_map.mp (of_decide_eq_true h1)
        have hmL : mm ∈ L := by
          rcases List.mem_append.mp hm with h | h
          · exact z.1 mm h
          · exact z.2.1 mm h
        rw [decide_eq_true (List.mem_map.mpr ⟨mm, hmL, rfl⟩)] at h2
        cases h2
    have ks0 : ks = [] := by
      cases ks with
      | nil => rfl
      | cons k0 ks =>
        refine absurd (decide_eq_true ?_) c
        rw [← lks, List.length_cons]
        omega
    subst ks0
    have inA : ∀ y ∈ A, y ∈ L := fun y hy => Classical.byContradiction fun z => absurd (mem2 y (.inl hy) z) List.not_mem_nil
    have inB : ∀ y ∈ B, y ∈ L := fun y hy => Classical.byContradiction fun z => absurd (mem2 y (.inr hy) z) List.not_mem_nil
    have hX6 := Same.seqT s36 hX
    have hY6 := Same.seqT s36 hY
    have hL6 := Same.seqT s36 hL
    dsimp only [tNext]
    refine ⟨.ref x, rfl, x, _, rfl, .inr hX6, .ref y, rfl, y, _, rfl, .inr hY6, rfl, ?_⟩
    rw [setV_len, setV_len]
    refine ⟨_, rfl, ite2 (fun c => ?_) (fun c => ?_)⟩
    · have c2 : A.length = B.length := by
        have := of_decide_eq_true c
        injection this with this
        omega
      refine ⟨.ref x, rfl, x, _, rfl, .inr hX6, _, _, rfl, rfl, _, rfl, ?_⟩
      rw [setV_len]
      refine ite2 (fun c3 => ?_) (fun c3 => ?_)
      · have c3 := of_decide_eq_true c3
        refine ⟨_, rfl, .ref l, rfl, l, _, rfl, .inr hL6, _, _, rfl, _, _, rfl, rfl, ?_⟩
        dsimp only
        rw [setV_len]
        refine qf H6 _ s36 ?_
        rw [decide_eq_true_iff]
        constructor
        · intro z
          refine ⟨inA, inB, c2, by omega, ?_, c1⟩
          split at z <;> omega
        · rintro ⟨_, _, _, h4, h5, _⟩
          have lAL : A.length ≤ L.length := by
            have := sub_len (ns := L.map fun (m : Nat) => (m : Int)) (ks := A.map fun (m : Nat) => (m : Int)) (List.pairwise_map.mpr ((asc_nodup sA.1).imp fun z e => z (by omega))) fun k hk => by
              obtain ⟨m, hm, rfl⟩ := List.mem_map.mp hk
              exact List.mem_map.mpr ⟨m, inA m hm, rfl⟩
            rw [List.length_map, List.length_map] at this
            exact this
          split <;> omega
      · refine qn (fun z => c3 (decide_eq_true ?_)) H6 s36
        have := z.2.2.2.1
        omega
    · refine qn (fun z => c ?_) H6 s36
      rw [z.2.2.1]
      exact decide_eq_true rfl
end
/-! ### values that may be odd (with dicts of any of them), in a heap of their own -/
/-- fit to be shown, dicts or not -/
def Szd (k wt : Nat) (d : PyData) : Prop := d.depth ≤ k ∧ d.showable = true ∧ d.leavesShort 200 = true ∧ d.weight ≤ wt
def ShT1 : TD → Prop
  | .tup ts => ts.length ≤ 1000
  | _ => True
def ShT : TD → Prop
  | .tup ts => ts.length ≤ 1000 ∧ ∀ u ∈ ts, ShT1 u
  | _ => True
theorem ShT.one {t : TD} (h : ShT t) : ShT1 t := by
  cases t with
  | tup ts => exact h.1
  | _ => trivial
theorem short_ints {ts : List TD} {r : List Nat} (e : ts = r.map fun (x : Nat) => TD.int (x : Int)) : ∀ u ∈ ts, ShT1 u := fun u hu => by
  rw [e] at hu
  obtain ⟨x, _, rfl⟩ := List.mem_map.mp hu
  trivial
def Val (K : PySem.W.Frag) (G : Hp) (k wt : Nat) (v : V) : Prop := (∃ t, VT K G v t ∧ ShT t) ∧ ∃ d, (Dp K G v d ∧ Sh k wt d) ∨ (∃ a, v = .ref a ∧ De K G v d ∧ Szd k wt d)
theorem Szd.fits {k wt : Nat} {d : PyData} (h : Szd k wt d) (h1 : wt ≤ 80000) : d.shown.length ≤ sizeLine := by
  have h2 := PyData.shown_le 200 (by decide) d h.2.2.1
  have h3 := h.2.2.2
  have h4 : (200 + 2) * d.weight ≤ 202 * 80000 := Nat.mul_le_mul (by omega) (by omega)
  have h5 : sizeLine = 16777216 := by decide
  omega
theorem Val.show {K : PySem.W.Frag} {G : Hp} {k wt : Nat} {v : V} (h : Val K G k wt v) (hk : k ≤ 60) (hw : wt ≤ 80000) : ∃ d, ShowE K G v d := by
  obtain ⟨_, d, h | ⟨a, e, h1, h2⟩⟩ := h
  · exact ⟨d, .inl ⟨h.1, h.2.mono hk hw⟩⟩
  · exact ⟨d, .inr ⟨a, e, h1, h2.2.1, Nat.le_trans h2.1 hk, h2.fits hw⟩⟩
theorem dp_sameV {K : PySem.W.Frag} {G G' : Hp} (s : Same G G') {v : V} {d : PyData} (h : Dp K G v d) : Dp K G' v d := Dp.mono (fun b o e => s b o e) h
theorem de_sameV {K : PySem.W.Frag} {G G' : Hp} (s : Same G G') {v : V} {d : PyData} (h : De K G v d) : De K G' v d := De.mono (fun b o e _ => s b o e) h
theorem Val.same {K : PySem.W.Frag} {G G' : Hp} {k wt : Nat} {v : V} (s : Same G G') (h : Val K G k wt v) : Val K G' k wt v := by
  obtain ⟨⟨t, ht, hl⟩, d, h⟩ := h
  refine ⟨⟨t, VT.same s ht, hl⟩, d, ?_⟩
  rcases h with h | ⟨a, e, h1, h2⟩
  · exact .inl ⟨dp_sameV s h.1, h.2⟩
  · exact .inr ⟨a, e, de_sameV s h1, h2⟩
theorem showd_same {K : PySem.W.Frag} {G G' : Hp} {v : V} {d : PyData} (s : Same G G') (h : ShowE K G v d) : ShowE K G' v d := by
  rcases h with h | ⟨a, e, h1, h2⟩
  · exact .inl ⟨dp_sameV s h.1, h.2⟩
  · exact .inr ⟨a, e, de_sameV s h1, h2⟩
/-- from G in H to G' in H': p alone changes, what is new may be told of -/
def Grow (p : Addr) (G H G' H' : Hp) : Prop := Same G G' ∧ Same G' H' ∧ G' p = none ∧ (∀ b, G b = none → H b ≠ none → G' b = none) ∧ But p H H'
def growH (G H H' : Hp) : Hp := fun b => match G b with
  | some o => some o
  | none => match H b with
    | some _ => none
    | none => H' b
theorem grow_mk {p : Addr} {G H Hf H' : Hp} (s : Same G H) (gp : G p = none) (hp : H p ≠ none) (sf : Same H Hf) (b : But p Hf H') : Grow p G H (growH G H Hf) H' ∧ ∀ x o, Hf x = some o → H x = none → growH G H Hf x = some o := by
  have e1 : Same G (growH G H Hf) := fun x o e => by
    show (match G x with | some o => some o | none => _) = some o
    rw [e]
  have e2 : Same (growH G H Hf) Hf := fun x o e => by
    unfold growH at e
    cases g : G x with
    | some u =>
      rw [g] at e
      cases e
      exact sf _ _ (s _ _ g)
    | none =>
      rw [g] at e
      cases h : H x with
      | some u => rw [h] at e; cases e
      | none => rw [h] at e; exact e
  have e3 : ∀ x, G x = none → H x ≠ none → growH G H Hf x = none := fun x g h => by
    unfold growH
    rw [g]
    cases h2 : H x with
    | some u => rfl
    | none => exact absurd h2 h
  have e4 := e3 p gp hp
  refine ⟨⟨e1, fun x o e => b x o (fun z => by rw [z, e4] at e; cases e) (e2 x o e), e4, e3, fun x o n e => b x o n (sf x o e)⟩, fun x o e n => ?_⟩
  have g : G x = none := by
    cases g : G x with
    | none => rfl
    | some u => rw [s _ _ g] at n; cases n
  unfold growH
  rw [g, n]
  exact e
theorem Grow.trans {p : Addr} {G H G1 H1 G2 H2 : Hp} (a : Grow p G H G1 H1) (b : Grow p G1 H1 G2 H2) : Grow p G H G2 H2 := by
  obtain ⟨a1, a2, a3, a4, a5⟩ := a
  obtain ⟨b1, b2, b3, b4, b5⟩ := b
  refine ⟨a1.trans b1, b2, b3, fun x g h => ?_, a5.trans b5⟩
  by_cases e : x = p
  · rw [e]; exact b3
  · refine b4 x (a4 x g h) fun z => ?_
    cases h2 : H x with
    | none => exact h h2
    | some u =>
      rw [a5 x u e h2] at z
      cases z
theorem Grow.refl {p : Addr} {G H : Hp} (s : Same G H) (gp : G p = none) : Grow p G H G H := ⟨Same.refl _, s, gp, fun x g _ => g, But.refl p H⟩
/-- single values -/
theorem val_int {K : PySem.W.Frag} {G : Hp} {i : Int} (h : i.natAbs < 2 ^ 70) : Val K G 2 1000 (.int i) := ⟨⟨.int i, .int i, trivial⟩, .int i, .inl ⟨.int i, (Sh.int (by decide) (by decide) h).mono (by decide) (by decide)⟩⟩
theorem val_non {K : PySem.W.Frag} {G : Hp} : Val K G 2 1000 .non := ⟨⟨.oth "NoneType", .oth (.base .non) (by decide) (by decide) (by decide), trivial⟩, .none, .inl ⟨.non, Sh.none.mono (by decide) (by decide)⟩⟩
theorem val_bl {K : PySem.W.Frag} {G : Hp} (b : Bool) : Val K G 2 1000 (.bl b) := ⟨⟨.oth "bool", .oth (.base (.bl b)) (by decide) (by decide) (by decide), trivial⟩, .bool b, .inl ⟨.bl b, (Sh.bool b).mono (by decide) (by decide)⟩⟩
theorem sh_zero13 : Sh 0 100 (.str "0") := ⟨by decide +kernel, by decide +kernel, by decide +kernel, by decide +kernel, by decide +kernel⟩
theorem val_zero {K : PySem.W.Frag} {G : Hp} : Val K G 2 1000 (.str "0") := ⟨⟨.oth "str", .oth (.base (.str "0")) (by decide) (by decide) (by decide), trivial⟩, .str "0", .inl ⟨.str "0", sh_zero13.mono (by decide) (by decide)⟩⟩
theorem vts_setV {K : PySem.W.Frag} {G : Hp} : ∀ r : List Nat, VTs K G (setV r) (r.map fun (x : Nat) => TD.int (x : Int))
  | [] => .nil
  | x :: r => .cons (.int _) (vts_setV r)
theorem sh_rowV {r : List Nat} (hl : r.length ≤ 62) (h : ∀ x ∈ r, x < 60) : ShAll 0 434 (natD r) := by
  have h1 := sh_nat (b := 6) (by decide) (by decide) (ms := r) fun x hx => by
    have := h x hx
    omega
  exact h1.mono (by decide) (by omega)
theorem val_row {K : PySem.W.Frag} {G : Hp} {t : Addr} {r : List Nat} (ht : SqT K G t (setV r)) (hl : r.length ≤ 62) (h : ∀ x ∈ r, x < 60) : Val K G 2 1000 (.ref t) := ⟨⟨_, .tup ht (vts_setV r), (by rw [List.length_map]; omega : _ ≤ 1000), short_ints rfl⟩, _, .inl ⟨.tup ht (dp_set r), (Sh.tup (sh_rowV hl h)).mono (by decide) (by decide)⟩⟩
theorem val_listV {K : PySem.W.Frag} {G : Hp} {t : Addr} {r : List Nat} (ht : G t = some (.lst (setV r))) (hl : r.length ≤ 62) (h : ∀ x ∈ r, x < 60) : Val K G 2 1000 (.ref t) := ⟨⟨.oth "list", .oth (.base (.lst ht)) (by decide) (by decide) (by decide), trivial⟩, _, .inl ⟨.lst (SqL.of ht) (dp_set r), (Sh.lst (sh_rowV hl h)).mono (by decide) (by decide)⟩⟩
theorem szd_empty : Szd 2 1000 (.dict []) := ⟨by decide +kernel, by decide +kernel, by decide +kernel, by decide +kernel⟩
theorem val_dic0 {K : PySem.W.Frag} {G : Hp} {t : Addr} (ht : G t = some (.dK [])) : Val K G 2 1000 (.ref t) := ⟨⟨.oth "dict", .oth (.base (.dK ht)) (by decide) (by decide) (by decide), trivial⟩, _, .inr ⟨t, rfl, .dic ht, szd_empty⟩⟩
/-! ### the first live servers of a row -/
def spFirst (K : PySem.W.Frag) : Sp := fun vs H Q _ => ∃ (a b : Addr) (os ls : List Nat) (f : Nat), vs = [.ref a, .ref b, .int f] ∧ SqT K H a (setV os) ∧ SqT K H b (setV ls) ∧ os.length ≤ 60 ∧
  ∀ H' t, Same H H' → H t = none → H' t = some (.tup (setV (holdL ls os f))) → Q (.ref t) H'
section
variable {P : Program} {w : World} {K : PySem.W.Frag} {mg : Str → Option Value} {base : Heap}
theorem ok_first (T : Txt K mg) {j : Nat} : FnOk P w K mg base CX0 (j + 1) T.fFirst T.fdFirst ["_law_row", "_law_live", "_law_many"] (spFirst K) := by
  refine T.FFirst.ok scFirst (fun vs H Q E h => ?_) (fun cdv A outer s H vs Q E hr h => ?_)
  · obtain ⟨a, b, os, ls, f, rfl, _⟩ := h
    rfl
  · obtain ⟨a, b, os, ls, f, rfl, hA, hB, ho, q⟩ := h
    refine ⟨_, pss_one (ps_ret (pe_callTy (call_tupleK K) (by rfl) T.n_tuple (by decide +kernel) (pa_cons (pe_slice sl_list (pe_lc (own := [("_law_server", 3)]) (g := (gName 3)) rfl scFirst.nd (pi_tup (pv 0)) (blkOk_by (own := [("_law_server", 3)]) (N := NFirst) (sc := defScope sFirst) (by decide +kernel)) (fun _ _ _ _ _ => (pg_name (i := 3) scFirst.nd rfl (.inl rfl))) (fun _ _ _ _ _ => pts_one (pt_cmpR (op_inK K) (pv 3) (pv 1) (by rfl))) (fun _ _ _ _ _ => (pv 3))) po_none (po_some (pv 2))) pa_nil))), ?_⟩
    refine ⟨.ref a, rfl, a, rfl, ⟨_, hA⟩, fun D nD => ?_⟩
    refine lc_tup (a := a) (xs := setV os) (fun z H3 => Same H H3 ∧ H3 D = some (.lst (setV (inL ls (os.take z))))) ⟨same_new nD, upd_same⟩ (fun _ H3 _ h3 => Same.seqT h3.1 hA) ?_ ?_
    · rintro z v H3 hz ⟨s3, hD⟩
      obtain ⟨m, hm, rfl⟩ := setV_get hz
      refine ⟨rfl, _, rfl, .ref b, rfl, b, _, rfl, .inr (Same.seqT s3 hB), rfl, setV_flat _, _, rfl, ?_⟩
      rw [inV_setV]
      have st := inL_step (ls := ls) hm
      refine ite2 (fun h => ?_) (fun h => ?_)
      · have h4 : m ∈ ls := of_decide_eq_true (by simpa using h)
        rw [if_pos h4] at st
        refine ⟨_, rfl, _, hD, ?_, keep_upd s3 nD, ?_⟩
        · rw [setV_len]
          have := List.length_filter_le (fun x => decide (x ∈ ls)) (os.take z)
          have h2 : (os.take z).length ≤ 60 := by
            rw [List.length_take]
            omega
          exact small1000 (Nat.le_trans this (by omega))
        · rw [upd_same, st, setV_app]
          rfl
      · have h4 : ¬ m ∈ ls := fun z => h (by simpa using z)
        rw [if_neg h4, List.append_nil] at st
        exact ⟨s3, by rw [st]; exact hD⟩
    · rintro H3 ⟨s3, hD⟩
      rw [setV_len, List.take_length] at hD
      refine ⟨_, rfl, _, rfl, D, _, rfl, SqL.of hD, fun p2 n2 => ?_⟩
      rw [cut_take]
      refine ⟨p2, _, rfl, .inl ⟨SqL.of upd_same, fun t nt => ?_⟩⟩
      have s4 := s3.trans (same_new (o := .lst (setV ((inL ls os).take f))) n2)
      exact q _ t (s4.trans (same_new nt)) (s4.free nt) upd_same
end
/-! ### the sets that hold, as the law counts them -/
def spHeldW (P : Program) (w : World) (K : PySem.W.Frag) : Sp := fun vs H Q _ => ∃ (a b : Addr) (ts : List V) (rows : List (List Nat)) (ls : List Nat) (f : Nat), vs = [.ref a, .ref b, .int f] ∧ SqT K H a ts ∧ RowsL K H ts rows ∧ SqT K H b (setV ls) ∧ rows.length ≤ 20000 ∧ (∀ r ∈ rows, r.length ≤ 60) ∧
  ∀ H' d, Same H H' → H d = none → DAt P w K H' d (tallyN ((rows.map (keyL ls f)).map nkT)) → Q (.ref d) H'
section
variable {P : Program} {w : World} {K : PySem.W.Frag} {mg : Str → Option Value} {base : Heap}
theorem ok_heldw (T : Txt K mg) {j : Nat} : FnOk P w K mg base CX0 (j + 2) T.fHeldW T.fdHeldW ["_law_rows_here", "_law_live", "_law_many"] (spHeldW P w K) := by
  refine T.FHeldW.ok scHeldW (fun vs H Q E h => ?_) (fun cdv A outer s H vs Q E hr h => ?_)
  · obtain ⟨a, b, ts, rows, ls, f, rfl, _⟩ := h
    rfl
  · obtain ⟨a, b, ts, rows, ls, f, rfl, hA, R0, hB, hl, hrl, q⟩ := h
    have hu9 : (A.deeper (envOfC "_law_held" (defScope sHeldW) s.heap.objs.size T.fHeldW cdv)).units + 9 < cLine := by
      have := hr.un
      omega
    refine ⟨_, pss_cons (ps_set (i := 3) scHeldW.nd rfl (.inl rfl) (pe_dnewN (P := P) (w := w))) (pss_cons (ps_for PassesOwn.never rfl (pi_tup (pv 0)) (pg_name (i := 4) scHeldW.nd rfl (.inl rfl)) (pss_cons (ps_set (i := 5) scHeldW.nd rfl (.inl rfl) (pe_callTy (call_tupleK K) (by rfl) T.n_tuple (by decide +kernel) (pa_cons (pe_callB (cr_sortTI K) (by rfl) T.n_sorted (by decide +kernel) (pa_cons (pe_call (ok_first T) hr (by rfl) T.gFirst T.FFirst.kp T.bFirst .nil pass0 (pa_cons (pv 4) (pa_cons (pv 1) (pa_cons (pv 2) pa_nil)))) pa_nil)) pa_nil))) (pss_one (ps_asg (pe_op op_add (pe_bmN (P := P) (w := w) PySem.F.slot_dict_get PySem.F.type_dict_get (mt_getDN (P := P) (w := w) K hu9) (pv 3) (pa_cons (pv 5) (pa_cons pe_int pa_nil))) pe_int) (pg_sub (pv 3) (pv 5) (set_dN (P := P) (w := w) K hu9)))))) (pss_one (ps_ret (pv 3)))), ?_⟩
    intro D nD
    refine ⟨.ref a, rfl, a, rfl, ⟨_, Same.seqT (same_new nD) hA⟩, for_tup (K := K) (a := a) (xs := ts) (fun i σ H3 => ∃ v4 v5, σ = [some (.ref a), some (.ref b), some (.int f), some (.ref D), v4, v5] ∧ Same H H3 ∧ DAt P w K H3 D (tallyN (((rows.take i).map (keyL ls f)).map nkT))) ⟨none, none, rfl, same_new nD, ⟨[], upd_same, fun x hx => absurd hx List.not_mem_nil, rfl⟩⟩ (fun i σ H3 _ ⟨_, _, _, s3, _⟩ => Same.seqT s3 hA) ?_ ?_⟩
    · rintro i v σ H3 hz ⟨v4, v5, rfl, s3, hD3⟩
      obtain ⟨r, hr2, t, rfl, hT⟩ := (R0.same s3).at hz
      have hrm := List.mem_of_getElem? hr2
      refine ⟨_, rfl, .ref b, rfl, _, rfl, t, b, r, ls, f, rfl, hT, Same.seqT s3 hB, hrl r hrm, fun H4 th s4 nth hth => ?_⟩
      have hhl : (holdL ls r f).length ≤ 60 := by
        rw [hold_len]
        have h1 := List.length_filter_le (fun x => decide (x ∈ ls)) r
        have h2 := hrl r hrm
        have h3 : (inL ls r).length ≤ r.length := h1
        omega
      refine ⟨th, intL (holdL ls r f), rfl, .inr (SqT.of (by rw [← setV_ints]; exact hth)), by rw [List.length_map]; omega, fun ns' q0 pm srtd nq0 => ?_⟩
      obtain ⟨ks, rfl, pk⟩ := ints_back pm
      rw [← setV_ints]
      obtain rfl : ks = keyL ls f r := srt_of pk (le_back srtd)
      refine ⟨q0, _, rfl, .inl ⟨SqL.of upd_same, fun tq ntq => ?_⟩⟩
      have s5 := (same_new (o := .lst (setV (keyL ls f r))) nq0).trans (same_new (o := .tup (setV (keyL ls f r))) ntq)
      have htq : (upd (upd H4 q0 (.lst (setV (keyL ls f r)))) tq (.tup (setV (keyL ls f r)))) tq = some (.tup (setV (keyL ls f r))) := upd_same
      have hD5 := hD3.same (s4.trans s5)
      have s35 := (s3.trans s4).trans s5
      dsimp only [gName]
      generalize upd (upd H4 q0 (.lst (setV (keyL ls f r)))) tq (.tup (setV (keyL ls f r))) = H5 at s5 htq hD5 s35
      have hk := nkT_at (SqT.of (K := K) htq)
      have dl := tally_len (((rows.take i).map (keyL ls f)).map nkT)
      rw [List.length_map, List.length_map, List.length_take] at dl
      have htg := tally_get ((rows.take i).map (keyL ls f)) (keyL ls f r)
      obtain ⟨xs5, e5, _⟩ := id hD5
      refine ⟨.ref D, rfl, ⟨D, xs5, rfl, e5⟩, .ref tq, rfl, D, tq, .int 0, _, nkT (keyL ls f r), rfl, rfl, hD5, hk, nkT_depth _, ?_⟩
      rw [htg]
      refine ⟨_, _, rfl, rfl, .ref D, rfl, .ref tq, rfl, D, tq, _, nkT (keyL ls f r), rfl, rfl, hD5, hk, nkT_depth _, by rw [sizeLine_eq]; omega, fun u hu => ?_⟩
      rw [tally_one] at hu
      refine ⟨_, _, rfl, keep_upd s35 nD, ?_⟩
      rw [take_snoc hr2, List.map_append]
      exact hu
    · rintro σ H3 ⟨v4, v5, rfl, s3, hD3⟩
      rw [R0.len, List.take_length] at hD3
      exact ⟨.ref D, rfl, q _ D s3 nD hD3⟩
end
/-! ### the loads by the shares -/
theorem ldC_held (ls : List Nat) (f : Nat) (rows : List (List Nat)) (c : List Nat) : ldC ls f rows c = heldN ls f rows c := by
  unfold ldC heldN
  induction rows with
  | nil => rfl
  | cons r rows ih =>
    rw [List.map_cons, List.count_cons, List.countP_cons, ih]
    congr 1
    by_cases e : keyL ls f r = c
    · rw [if_pos (beq_iff_eq.mpr e), if_pos (decide_eq_true (show srt ((lvL ls r).take f) = c from e))]
    · rw [if_neg (fun z => e (beq_iff_eq.mp z)), if_neg (show ¬ decide (srt ((lvL ls r).take f) = c) = true from fun z => e (of_decide_eq_true z))]
theorem eqv_list (a b : List Nat) : PyData.eqv (.list (natD a)) (.list (natD b)) = decide (a = b) := by
  simp only [PyData.eqv]
  exact eqv_nats a b
theorem sh_nats {ms : List Nat} (hl : ms.length ≤ 1000) (h : ∀ x ∈ ms, x < 2 ^ 30) : Sh 60 80000 (.list (natD ms)) := (Sh.lst (sh_nat (b := 30) (by decide) (by decide) h)).mono (by decide) (by omega)
theorem dp_list {K : PySem.W.Frag} {H : Hp} {t : Addr} {ms : List Nat} (h : H t = some (.lst (setV ms))) : Dp K H (.ref t) (.list (natD ms)) := .lst (SqL.of h) (dp_set ms)
/-! ### whole numbers among any values -/
def isIntT : TD → Bool
  | .int _ => true
  | _ => false
theorem all_ints {K : PySem.W.Frag} {H : Hp} : ∀ {xs : List V} {ts : List TD}, VTs K H xs ts → ts.all isIntT = true → ∃ ns : List Int, xs = ns.map V.int ∧ ts = ns.map TD.int
  | _, _, .nil, _ => ⟨[], rfl, rfl⟩
  | _, _, .cons (.int i) r, h => by
    obtain ⟨ns, e1, e2⟩ := all_ints r h
    exact ⟨i :: ns, by rw [e1]; rfl, by rw [e2]; rfl⟩
  | _, _, .cons (.tup _ _) _, h => by cases h
  | _, _, .cons (.oth _ _ _ _) _, h => by cases h
/-! ### _law_is_witness of any value -/
theorem dp_setV {K : PySem.W.Frag} {H : Hp} {a : Addr} {ms : List Nat} (h : SqT K H a (setV ms)) : Dp K H (.ref a) (.tuple (natD ms)) := by
  refine .tup h ?_
  clear h
  induction ms with
  | nil => exact .nil
  | cons m r ih => exact .cons (.int _) ih
theorem tyN_inW (d : PyData) : tyN d ∈ tyNames := by
  cases d with
  | none => exact (by decide : "NoneType" ∈ tyNames)
  | bool _ => exact (by decide : "bool" ∈ tyNames)
  | int _ => exact (by decide : "int" ∈ tyNames)
  | str _ => exact (by decide : "str" ∈ tyNames)
  | list _ => exact (by decide : "list" ∈ tyNames)
  | tuple _ => exact (by decide : "tuple" ∈ tyNames)
  | dict _ => exact (by decide : "dict" ∈ tyNames)
theorem canW : ∀ ms : List Nat, PyData.canLayAll0 (natD ms) = true
  | [] => rfl
  | m :: r => by
    show (PyData.canLay0 (.int (m : Int)) && PyData.canLayAll0 (natD r)) = true
    rw [canW r]
    rfl
theorem depthW : ∀ ms : List Nat, PyData.depthAll (natD ms) = 0
  | [] => rfl
  | m :: r => by
    show max (PyData.depth (.int (m : Int))) (PyData.depthAll (natD r)) = 0
    rw [depthW r]
    rfl
theorem shW_nat (M : List Nat) : SeqAt.shaped (.tuple (natD M)) = true := by
  unfold SeqAt.shaped
  rw [Bool.and_eq_true]
  refine ⟨canW _, decide_eq_true ?_⟩
  show PyData.depthAll (natD M) + 1 ≤ 64
  rw [depthW]
  decide
theorem shW_natL (M : List Nat) : SeqAt.shaped (.list (natD M)) = true := by
  unfold SeqAt.shaped
  rw [Bool.and_eq_true]
  refine ⟨canW _, decide_eq_true ?_⟩
  show PyData.depthAll (natD M) + 1 ≤ 64
  rw [depthW]
  decide
def WitH (n f k : Nat) (rows : List (List Nat)) (t : TD) : Prop := ∃ L A B, t = three L A B ∧ Set22 n L ∧ Set22 n A ∧ Set22 n B ∧ Cl22 n f k L A B ∧ heldN L A.length rows A < heldN L A.length rows B
def MemOk (n : Nat) (t : TD) : Prop := ∃ M, t = .tup (ti M) ∧ Set22 n M ∧ M ≠ []
theorem WitH.mem {n f k : Nat} {rows : List (List Nat)} {ts : List TD} (h : WitH n f k rows (.tup ts)) : ∀ u ∈ ts, MemOk n u := by
  obtain ⟨L, A, B, e, s1, s2, s3, c, _⟩ := h
  obtain ⟨c1, c2, c3, c4, c5, c6⟩ := c
  unfold three at e
  injection e with e
  subst e
  have hA : A ≠ [] := fun z => by rw [z] at c4; exact absurd c4 (by decide)
  have hB : B ≠ [] := fun z => by rw [c3, z] at c4; exact absurd c4 (by decide)
  have hL : L ≠ [] := fun z => by
    cases A with
    | nil => exact hA rfl
    | cons x A =>
      have := c1 x List.mem_cons_self
      rw [z] at this
      cases this
  intro u hu
  simp only [List.mem_cons, List.not_mem_nil, or_false] at hu
  rcases hu with rfl | rfl | rfl
  · exact ⟨L, rfl, s1, hL⟩
  · exact ⟨A, rfl, s2, hA⟩
  · exact ⟨B, rfl, s3, hB⟩
theorem WitH.len {n f k : Nat} {rows : List (List Nat)} {ts : List TD} (h : WitH n f k rows (.tup ts)) : ts.length = 3 := by
  obtain ⟨L, A, B, e, _⟩ := h
  unfold three at e
  injection e with e
  subst e
  rfl
def spIsW22 (P : Program) (w : World) (K : PySem.W.Frag) : Sp := fun vs H Q _ => ∃ (n f k : Nat) (a : Addr) (ts : List V) (rows : List (List Nat)) (v : V) (t : TD), vs = [.int n, .ref a, .int f, .int k, v] ∧ SqT K H a ts ∧ RowsL K H ts rows ∧ rows.length ≤ 20000 ∧ (∀ r ∈ rows, r.length ≤ 60) ∧ VT K H v t ∧ ShT t ∧ n ≤ 60 ∧ ∀ H' b, Same H H' → (b = true ↔ WitH n f k rows t) → Q (.bl b) H'
section
variable {P : Program} {w : World} {K : PySem.W.Frag} {mg : Str → Option Value} {base : Heap}
theorem ok_isw22 (T : Txt K mg) {j : Nat} : FnOk P w K mg base CX0 (j + 4) T.fIsW22 T.fdIsW22 ["_law_n", "_law_rows_here", "_law_failures", "_law_factor", "_law_value"] (spIsW22 P w K) := by
  refine T.FIsW22.ok scIsW22 (fun vs H Q E h => ?_) (fun cdv A0 outer s H vs Q E hr h => ?_)
  · obtain ⟨n, f, k, a, ts, rows, v, t, rfl, _⟩ := h
    rfl
  · obtain ⟨n, f, k, a, tbs, rows, v, t, rfl, hA, R0, hl, hrl, hv, hsh, hn, q⟩ := h
    have hu64 : (A0.deeper (envOfC "_law_is_witness" (defScope sIsW22) s.heap.objs.size T.fIsW22 cdv)).units + 64 < cLine := by
      have := hr.un
      omega
    have hu9 : (A0.deeper (envOfC "_law_is_witness" (defScope sIsW22) s.heap.objs.size T.fIsW22 cdv)).units + 9 < cLine := by
      have := hr.un
      omega
    have hu0 : (A0.deeper (envOfC "_law_is_witness" (defScope sIsW22) s.heap.objs.size T.fIsW22 cdv)).units < cLine := by omega
    refine ⟨_, pss_cons (ps_if (PW.pt (pw_or (pt_not (pt_val (pe_callB (call_isiK1 K) (by rfl) T.n_isinstance (by decide +kernel) (pa_cons (pv 4) (pa_cons (pe_bltn (v := .ty "tuple") (by rfl) T.n_tuple (by decide +kernel) rfl) pa_nil))))) (pw_or1 (pt_cmpR op_ne (pe_callB (call_lenK K) (by rfl) T.n_len PySem.boot_len (pa_cons (pv 4) pa_nil)) pe_int (nomark _))))) (pss_one (ps_ret pe_bl)) pss_nil) (pss_cons (ps_for PassesOwn.never rfl (pi_tup (pv 4)) (pg_name (i := 5) scIsW22.nd rfl (.inl rfl)) (pss_cons (ps_if (PW.pt (pw_or (pt_not (pt_val (pe_callB (call_isiK1 K) (by rfl) T.n_isinstance (by decide +kernel) (pa_cons (pv 5) (pa_cons (pe_bltn (v := .ty "tuple") (by rfl) T.n_tuple (by decide +kernel) rfl) pa_nil))))) (pw_or1 (pt_cmpR (op_eqNil K hu0) (pv 5) (pe_tup pa_nil) (nomark _))))) (pss_one (ps_ret pe_bl)) pss_nil) (pss_cons (ps_if (pt_not (pt_val (pe_callB (cr_allK K) (by rfl) T.n_all (by decide +kernel) (pa_cons (pe_lc (own := [("_law_entry", 6)]) (g := (gName 6)) (tt := tYes) rfl scIsW22.nd (pi_tup (pv 5)) (blkOk_by (own := [("_law_entry", 6)]) (N := NIsW22) (sc := defScope sIsW22) (by decide +kernel)) (fun _ _ _ _ _ => (pg_name (i := 6) scIsW22.nd rfl (.inl rfl))) (fun _ _ _ _ _ => pts_nil) (fun _ _ _ _ _ => (pe_and (pe_callB (call_isiK1 K) (by rfl) T.n_isinstance (by decide +kernel) (pa_cons (pv 6) (pa_cons (pe_bltn (v := .ty "int") (by rfl) T.n_int (by decide +kernel) rfl) pa_nil))) (pe_one (pe_not (pe_callB (call_isiK1 K) (by rfl) T.n_isinstance (by decide +kernel) (pa_cons (pv 6) (pa_cons (pe_bltn (v := .ty "bool") (by rfl) T.n_bool (by decide +kernel) rfl) pa_nil)))))))) pa_nil)))) (pss_one (ps_ret pe_bl)) pss_nil) (pss_one (ps_if (PW.pt (pw_or (pt_cmpR op_lt (pe_callB (cr_minT K rfl hu64) (by rfl) T.n_min (by decide +kernel) (pa_cons (pv 5) pa_nil)) pe_int (nomark _)) (pw_or (pt_cmpR op_ge (pe_callB (cr_maxT K rfl hu64) (by rfl) T.n_max (by decide +kernel) (pa_cons (pv 5) pa_nil)) (pv 0) (nomark _)) (pw_or1 (pt_cmpR (op_neDK K hu64) (pe_callTy (call_listK K) (by rfl) T.n_list (by decide +kernel) (pa_cons (pv 5) pa_nil)) (pe_callB (cr_sortedSetK w rfl) (by rfl) T.n_sorted (by decide +kernel) (pa_cons (pe_callTy (cr_setTn (K := K) (w := w) rfl) (by rfl) T.n_set (by decide +kernel) (pa_cons (pv 5) pa_nil)) pa_nil)) (nomark _)))))) (pss_one (ps_ret pe_bl)) pss_nil))))) (pss_cons (ps_asg (pv 4) (pg_tup rfl (pgs_cons (pg_name (i := 7) scIsW22.nd rfl (.inr rfl)) (pgs_cons (pg_name (i := 8) scIsW22.nd rfl (.inl rfl)) (pgs_cons (pg_name (i := 9) scIsW22.nd rfl (.inl rfl)) pgs_nil))))) (pss_cons (ps_if (PW.pt (pw_or (pt_cmpR op_lt (pe_callB (call_lenK K) (by rfl) T.n_len PySem.boot_len (pa_cons (pv 7) pa_nil)) (pe_op op_sub (pv 0) (pv 2)) (nomark _)) (pw_or (pt_cmpR op_ne (pe_callB (call_lenK K) (by rfl) T.n_len PySem.boot_len (pa_cons (pv 8) pa_nil)) (pe_callB (call_lenK K) (by rfl) T.n_len PySem.boot_len (pa_cons (pv 9) pa_nil)) (nomark _)) (pw_or1 (pt_cmpR op_gt (pe_callB (call_lenK K) (by rfl) T.n_len PySem.boot_len (pa_cons (pv 8) pa_nil)) (pv 3) (nomark _)))))) (pss_one (ps_ret pe_bl)) pss_nil) (pss_cons (ps_if (pt_cmpR (op_neDK K hu64) (pe_lc (own := [("_law_server", 10)]) (g := (gName 10)) rfl scIsW22.nd (pi_tup (pe_op (op_catS K) (pv 8) (pv 9))) (blkOk_by (own := [("_law_server", 10)]) (N := NIsW22) (sc := defScope sIsW22) (by decide +kernel)) (fun _ _ _ _ _ => (pg_name (i := 10) scIsW22.nd rfl (.inl rfl))) (fun _ _ _ _ _ => pts_one (pt_cmpR (op_notInK K) (pv 10) (pv 7) (by rfl))) (fun _ _ _ _ _ => (pv 10))) (pe_lst pa_nil) (nomark _)) (pss_one (ps_ret pe_bl)) pss_nil) (pss_cons (ps_set (i := 11) scIsW22.nd rfl (.inl rfl) (pe_call (ok_heldw T) hr (by rfl) T.gHeldW T.FHeldW.kp T.bHeldW .nil pass0 (pa_cons (pv 1) (pa_cons (pv 7) (pa_cons (pe_callB (call_lenK K) (by rfl) T.n_len PySem.boot_len (pa_cons (pv 8) pa_nil)) pa_nil))))) (pss_one (ps_ret (pe_cmpR op_lt (pe_bmN (P := P) (w := w) PySem.F.slot_dict_get PySem.F.type_dict_get (mt_getDN (P := P) (w := w) K hu9) (pv 11) (pa_cons (pv 8) (pa_cons pe_int pa_nil))) (pe_bmN (P := P) (w := w) PySem.F.slot_dict_get PySem.F.type_dict_get (mt_getDN (P := P) (w := w) K hu9) (pv 11) (pa_cons (pv 9) (pa_cons pe_int pa_nil))) (nomark _))))))))), ?_⟩
    obtain ⟨ty, tm⟩ := hv.ty
    have no : ¬ WitH n f k rows t → ∀ H', Same H H' → Q (.bl false) H' := fun h H' s => q H' false s ⟨fun e => (by cases e), fun z => absurd z h⟩
    refine ⟨v, rfl, v, .ty "tuple", _, _, _, rfl, .ty _, ty, kit_tuple tm, _, rfl, ?_⟩
    cases hv with
    | int i => exact iteT (no (fun ⟨L, A, B, e, _⟩ => by cases e) H (Same.refl H))
    | oth h m n1 n2 =>
      rename_i t0
      rw [show (tyT (TD.oth t0) == "tuple") = false from n2]
      exact iteT (no (fun ⟨L, A, B, e, _⟩ => by cases e) H (Same.refl H))
    | tup ht r =>
    rename_i cv xs ts
    refine iteF ?_
    refine ⟨.ref cv, rfl, cv, _, rfl, .inr ht, rfl, _, rfl, ?_⟩
    have rl := r.len
    refine ite2 (fun c => ?_) (fun c => ?_)
    · refine no (fun z => ?_) H (Same.refl H)
      have := z.len
      rw [rl, this] at c
      cases c
    have hl3 : xs.length = 3 := by
      refine Classical.byContradiction fun ne => c ?_
      rw [decide_eq_false (fun e => ne (by injection e with e; omega))]
      rfl
    have shs : ∀ u ∈ ts, ShT1 u := hsh.2
    refine ⟨.ref cv, rfl, cv, rfl, ⟨_, ht⟩, ?_⟩
    refine for_tup (K := K) (a := cv) (xs := xs) (fun i σ H2 => ∃ v5 v6, σ = [some (.int (n : Int)), some (.ref a), some (.int (f : Int)), some (.int (k : Int)), some (.ref cv), v5, v6, none, none, none, none, none] ∧ Same H H2 ∧ ∀ u ∈ ts.take i, MemOk n u) ⟨none, none, rfl, Same.refl H, by simp⟩ (fun i σ H2 _ ⟨_, _, _, s2, _⟩ => Same.seqT s2 ht) ?_ ?_
    · rintro i v σ H2 hv ⟨v5, v6, rfl, s2, al⟩
      obtain ⟨t, htt, hT0⟩ := r.at hv
      have htm := List.mem_of_getElem? htt
      have nom : ¬ MemOk n t → ∀ H', Same H2 H' → Q (.bl false) H' := fun h H' s => no (fun z => h (z.mem t htm)) H' (s2.trans s)
      have hT := VT.same s2 hT0
      obtain ⟨ty1, tm1⟩ := hT.ty
      have sh1 := shs t htm
      dsimp only [gName]
      refine ⟨v, rfl, v, .ty "tuple", _, _, _, rfl, .ty _, ty1, kit_tuple tm1, _, rfl, ?_⟩
      cases hT with
      | int i => exact iteT (nom (fun ⟨M, e, _⟩ => by cases e) H2 (Same.refl _))
      | oth h m n1 n2 =>
        rename_i t0
        rw [show (tyT (TD.oth t0) == "tuple") = false from n2]
        exact iteT (nom (fun ⟨M, e, _⟩ => by cases e) H2 (Same.refl _))
      | tup hz rz =>
      rename_i z ms us
      refine iteF ?_
      refine ⟨.ref z, rfl, by show 0 ≤ sizeLine; decide, fun e0 ne0 => ?_⟩
      have s3 := same_new (o := .tup []) ne0
      have hz3 := Same.seqT s3 hz
      have rz3 := VTs.same s3 rz
      have f3 : (upd H2 e0 (.tup [])) e0 = some (.tup []) := upd_same
      show rEqNil _ _ _ (upd H2 e0 (.tup [])) _
      generalize upd H2 e0 (.tup []) = H3 at s3 hz3 f3 rz3 ⊢
      have zl := rz.len
      refine ⟨z, e0, ms, rfl, rfl, hz3, SqT.of f3, _, rfl, ite2 (fun c => ?_) (fun c => ?_)⟩
      · refine nom (fun ⟨M, e, _, ne⟩ => ?_) H3 s3
        injection e with e
        subst e
        have c0 : ms.length = 0 := beq_iff_eq.mp c
        rw [zl] at c0
        unfold ti at c0
        rw [List.length_map] at c0
        exact ne (List.length_eq_zero_iff.mp c0)
      have pos : 0 < ms.length := by
        have : ¬ ms.length = 0 := fun e => c (beq_iff_eq.mpr e)
        omega
      have sh1 : us.length ≤ 1000 := sh1
      refine ⟨.ref z, rfl, z, rfl, ⟨_, hz3⟩, fun D nD => ?_⟩
      refine lc_tup (K := K) (a := z) (xs := ms) (fun y H4 => Same H3 H4 ∧ H4 D = some (.lst (((us.take y).map isIntT).map V.bl))) ⟨same_new nD, upd_same⟩ (fun _ H4 _ h4 => Same.seqT h4.1 hz3) ?_ ?_
      · rintro y x H4 hy ⟨s4, hD⟩
        obtain ⟨t, ht, hx⟩ := rz3.at hy
        have hx4 := VT.same s4 hx
        obtain ⟨ty2, tm2⟩ := hx4.ty
        have small : (((us.take y).map isIntT).map V.bl).length < sizeLine := by
          rw [List.length_map, List.length_map, List.length_take]
          exact small1000 (by omega)
        have fin : ∀ b, b = isIntT t → (upd H4 D (.lst (((us.take y).map isIntT).map V.bl ++ [V.bl b]))) D = some (.lst (((us.take (y + 1)).map isIntT).map V.bl)) := fun b e => by
          rw [upd_same, take_snoc ht, List.map_append, List.map_append, e]
          rfl
        cases hx4 with
        | int i =>
          refine ⟨rfl, _, rfl, .int i, .ty "int", _, _, _, rfl, .ty _, ty2, kit_int tm2, _, rfl, iteT ?_⟩
          refine ⟨_, rfl, .int i, .ty "bool", _, _, _, rfl, .ty _, ty2, kit_bool tm2, _, rfl, _, hD, small, keep_upd s4 nD, fin _ rfl⟩
        | tup h2 r2 =>
          refine ⟨rfl, _, rfl, _, .ty "int", _, _, _, rfl, .ty _, ty2, kit_int tm2, _, rfl, iteF ?_⟩
          refine ⟨_, hD, small, keep_upd s4 nD, fin _ rfl⟩
        | oth h2 m2 n1 n2 =>
          rename_i t2
          have n1 : (t2 == "int") = false := n1
          refine ⟨rfl, _, rfl, _, .ty "int", _, _, _, rfl, .ty _, ty2, kit_int tm2, _, rfl, ?_⟩
          by_cases hb : (t2 == "bool") = true
          · rw [show (tyT (TD.oth t2) == "int" || tyT (TD.oth t2) == "bool") = true by show (t2 == "int" || t2 == "bool") = true; rw [hb, Bool.or_true]]
            refine iteT ?_
            refine ⟨_, rfl, _, .ty "bool", _, _, _, rfl, .ty _, ty2, kit_bool tm2, _, rfl, _, hD, small, keep_upd s4 nD, ?_⟩
            rw [show (tyT (TD.oth t2) == "bool") = true from hb]
            exact fin false rfl
          · have hb : (t2 == "bool") = false := by
              cases h : (t2 == "bool") with
              | true => exact absurd h hb
              | false => rfl
            rw [show (tyT (TD.oth t2) == "int" || tyT (TD.oth t2) == "bool") = false by show (t2 == "int" || t2 == "bool") = false; rw [hb, n1]; rfl]
            refine iteF ?_
            exact ⟨_, hD, small, keep_upd s4 nD, fin false rfl⟩
      rintro H4 ⟨s4, hD⟩
      rw [zl, List.take_length] at hD
      refine ⟨D, _, rfl, SqL.of hD, _, rfl, ?_⟩
      rw [show (us.map isIntT).all id = us.all isIntT by rw [List.all_map]; rfl]
      have s24 := s3.trans s4
      cases hb : us.all isIntT with
      | false =>
        refine iteT (nom (fun ⟨M, e, _⟩ => ?_) H4 s24)
        injection e with e
        subst e
        have : (ti M).all isIntT = true := List.all_eq_true.mpr fun x hx => by
          obtain ⟨m, _, rfl⟩ := List.mem_map.mp hx
          rfl
        rw [hb] at this
        cases this
      | true =>
      refine iteF ?_
      obtain ⟨ns, rfl, rfl⟩ := all_ints rz hb
      have tiM : ∀ {M : List Nat}, TD.tup (ns.map TD.int) = .tup (ti M) → ns = M.map fun (m : Nat) => (m : Int) := fun {M} e => by
        injection e with e
        have e2 : (ns.map TD.int) = (M.map fun (m : Nat) => (m : Int)).map TD.int := by rw [e, List.map_map]; rfl
        exact (List.map_inj_right (fun a b h => by injection h)).mp e2
      have hz4 := Same.seqT s4 hz3
      rw [List.length_map] at pos sh1
      refine ⟨.ref z, rfl, z, ns, rfl, hz4, pos, fun m1 hm1 hmin => ?_⟩
      refine ⟨_, _, rfl, rfl, _, rfl, ite2 (fun c1 => ?_) (fun c1 => ?_)⟩
      · refine nom (fun ⟨M, e, _⟩ => ?_) H4 s24
        rw [tiM e] at hm1
        obtain ⟨m, _, rfl⟩ := List.mem_map.mp hm1
        have := of_decide_eq_true c1
        omega
      have c1 : 0 ≤ m1 := by
        have : ¬ m1 < 0 := fun e => c1 (decide_eq_true e)
        omega
      refine ⟨.ref z, rfl, z, ns, rfl, hz4, pos, fun m2 hm2 hmax => ?_⟩
      refine ⟨_, rfl, _, _, rfl, rfl, _, rfl, ite2 (fun c2 => ?_) (fun c2 => ?_)⟩
      · refine nom (fun ⟨M, e, sM, _⟩ => ?_) H4 s24
        rw [tiM e] at hm2
        obtain ⟨m, hm, rfl⟩ := List.mem_map.mp hm2
        have := of_decide_eq_true c2
        have := sM.2 m hm
        omega
      have c2 : m2 < n := by
        have : ¬ (n : Int) ≤ m2 := fun e => c2 (decide_eq_true e)
        omega
      obtain ⟨M, rfl⟩ : ∃ M : List Nat, ns = M.map fun (m : Nat) => (m : Int) := ⟨ns.map Int.toNat, by
        rw [List.map_map]
        refine (List.map_id ns).symm.trans (List.map_congr_left fun x hx => ?_)
        have := hmin x hx
        show x = ((x.toNat : Nat) : Int)
        omega⟩
      have ltM : ∀ y ∈ M, y < n := fun y hy => by
        have := hmax _ (List.mem_map.mpr ⟨y, hy, rfl⟩)
        omega
      have zi := hz4
      rw [← setV_ints] at hz4
      rw [List.length_map] at pos sh1
      refine ⟨.ref z, rfl, z, _, rfl, .inr hz4, fun l1 nl1 => ?_⟩
      have s5 := same_new (o := .lst (setV M)) nl1
      refine ⟨.ref z, rfl, z, _, rfl, Same.seqT s5 zi, by rw [List.length_map]; omega, fun p1 c np1 hdiff => ?_⟩
      have s6 := same_new (o := SetO w p1 (fun j => decide (j ∈ M.map fun (m : Nat) => (m : Int))) c) np1
      refine ⟨p1, _, c, rfl, upd_same, ?_, fun ns' p2 hasc hmem hlen np2 => ?_⟩
      · obtain ⟨ks, nd, mem, rfl⟩ := id hdiff
        have := sub_len (ns := (List.range n).map fun (m : Nat) => (m : Int)) nd fun k hk => by
          obtain ⟨m, hm, rfl⟩ := List.mem_map.mp ((mem k).mp hk)
          exact List.mem_map.mpr ⟨m, List.mem_range.mpr (ltM m hm), rfl⟩
        rw [List.length_map, List.length_range] at this
        omega
      obtain ⟨M2, rfl⟩ : ∃ M2 : List Nat, ns' = M2.map fun (m : Nat) => (m : Int) := ⟨ns'.map Int.toNat, by
        rw [List.map_map]
        refine (List.map_id ns').symm.trans (List.map_congr_left fun x hx => ?_)
        have h := of_decide_eq_true ((hmem x).mp hx)
        obtain ⟨m, _, rfl⟩ := List.mem_map.mp h
        rfl⟩
      have a2 : Asc M2 := (List.pairwise_map.mp hasc).imp fun z => by omega
      have eqM : Asc M → M = M2 := fun aM => by
        have pp : M2.Perm M := (List.perm_ext_iff_of_nodup (asc_nodup a2) (asc_nodup aM)).mpr fun j => by
          have := hmem (j : Int)
          simp only [decide_eq_true_eq] at this
          constructor
          · intro h
            obtain ⟨m, hm, e⟩ := List.mem_map.mp (this.mp (List.mem_map.mpr ⟨j, h, rfl⟩))
            rw [show j = m by omega]
            exact hm
          · intro h
            obtain ⟨m, hm, e⟩ := List.mem_map.mp (this.mpr (List.mem_map.mpr ⟨j, h, rfl⟩))
            rw [show j = m by omega]
            exact hm
        rw [← srt_self a2, ← srt_self aM, srt_eq pp]
      have s7 := same_new (o := .lst ((M2.map fun (m : Nat) => (m : Int)).map V.int)) np2
      refine ⟨.list (natD M), .list (natD M2), .lst (SqL.of (s7 _ _ (s6 _ _ upd_same))) (dp_set _), .lst (SqL.of upd_same) (by rw [← setV_ints]; exact dp_set _), shW_natL M, shW_natL M2, _, rfl, ?_⟩
      rw [show PyData.eqv (.list (natD M)) (.list (natD M2)) = decide (M = M2) from eqv_nats M M2]
      have s47 := s24.trans ((s5.trans s6).trans s7)
      generalize upd _ p2 _ = H7 at s47 ⊢
      refine ite2 (fun c => ?_) (fun c => ?_)
      · refine nom (fun ⟨M', e, sM, _⟩ => ?_) H7 s47
        have := tiM e
        have e : M = M' := (List.map_inj_right (f := fun (m : Nat) => (m : Int)) (fun a b h => by omega)).mp this
        subst e
        rw [decide_eq_true (eqM sM.1)] at c
        cases c
      have e2 : M = M2 := by
        refine Classical.byContradiction fun ne => c ?_
        rw [decide_eq_false ne]
        rfl
      refine ⟨_, _, rfl, s2.trans s47, fun u hu => ?_⟩
      rw [take_snoc htt] at hu
      rcases List.mem_append.mp hu with h | h
      · exact al u h
      · rw [List.mem_singleton.mp h]
        refine ⟨M, by unfold ti; rw [List.map_map]; rfl, ⟨by rw [e2]; exact a2, ltM⟩, fun e => by rw [e] at pos; exact absurd pos (by decide)⟩
    rintro σ H2 ⟨v5, v6, rfl, s2, al⟩
    rw [rl, List.take_length] at al
    obtain ⟨t0, t1, t2, rfl⟩ : ∃ t0 t1 t2, ts = [t0, t1, t2] := by
      rw [rl] at hl3
      match ts, hl3 with
      | [t0, t1, t2], _ => exact ⟨_, _, _, rfl⟩
    obtain ⟨L, rfl, sL, nL⟩ := al t0 (by simp)
    obtain ⟨A, rfl, sA, nA⟩ := al t1 (by simp)
    obtain ⟨B, rfl, sB, nB⟩ := al t2 (by simp)
    obtain ⟨l, x, y, rfl, hL, hX, hY⟩ : ∃ l x y, xs = [V.ref l, V.ref x, V.ref y] ∧ SqT K H l (setV L) ∧ SqT K H x (setV A) ∧ SqT K H y (setV B) := by
      cases r with
      | cons h1 r =>
      cases r with
      | cons h2 r =>
      cases r with
      | cons h3 r =>
      cases r
      cases h1 with
      | tup a1 b1 =>
      cases h2 with
      | tup a2 b2 =>
      cases h3 with
      | tup a3 b3 =>
      rw [vts_ti b1] at a1
      rw [vts_ti b2] at a2
      rw [vts_ti b3] at a3
      exact ⟨_, _, _, rfl, a1, a2, a3⟩
    have qf : ∀ H' b, Same H2 H' → (b = true ↔ Cl22 n f k L A B ∧ heldN L A.length rows A < heldN L A.length rows B) → Q (.bl b) H' := fun H' b s e => q H' b (s2.trans s) (e.trans (by
      constructor
      · exact fun ⟨h1, h2⟩ => ⟨L, A, B, rfl, sL, sA, sB, h1, h2⟩
      · rintro ⟨L', A', B', e, _, _, _, h1, h2⟩
        obtain ⟨rfl, rfl, rfl⟩ := three_inj e
        exact ⟨h1, h2⟩))
    clear q no al r ty tm
    have l1 := set22_len sL
    have l2 := set22_len sA
    have l3 := set22_len sB
    have qn : ¬ Cl22 n f k L A B → ∀ H', Same H2 H' → Q (.bl false) H' := fun z H' s => qf H' false s ⟨fun e => (by cases e), fun e => absurd e.1 z⟩
    have ht := Same.seqT s2 ht
    have hL := Same.seqT s2 hL
    have hX := Same.seqT s2 hX
    have hY := Same.seqT s2 hY
    have hA := Same.seqT s2 hA
    have R0 := R0.same s2
    refine ⟨.ref cv, rfl, cv, _, rfl, ht, rfl, ?_⟩
    dsimp only [gCons, gName, gNil]
    refine ⟨_, _, rfl, _, _, rfl, _, _, rfl, rfl, ?_⟩
    refine ⟨.ref l, rfl, l, _, rfl, .inr hL, _, rfl, _, rfl, _, _, rfl, rfl, _, _, rfl, rfl, _, rfl, ?_⟩
    rw [setV_len]
    refine ite2 (fun c => iteT (qn (fun z => ?_) H2 (Same.refl _))) (fun c => ?_)
    · have := of_decide_eq_true c
      have := z.2.2.2.2.2
      omega
    have c1 : n ≤ L.length + f := by
      have : ¬ ((L.length : Int) < (n : Int) - (f : Int)) := fun z => c (decide_eq_true z)
      omega
    refine ⟨.ref x, rfl, x, _, rfl, .inr hX, .ref y, rfl, y, _, rfl, .inr hY, rfl, _, rfl, ?_⟩
    rw [setV_len, setV_len]
    refine ite2 (fun c => iteT (qn (fun z => ?_) H2 (Same.refl _))) (fun c => ?_)
    · rw [z.2.2.1, decide_eq_true rfl] at c
      cases c
    have c2 : A.length = B.length := Classical.byContradiction fun ne => c (by
      rw [decide_eq_false (fun e => ne (by injection e with e; omega))]
      rfl)
    refine ⟨.ref x, rfl, x, _, rfl, .inr hX, _, rfl, _, _, rfl, rfl, _, rfl, ?_⟩
    rw [setV_len]
    refine ite2 (fun c => qn (fun z => ?_) H2 (Same.refl _)) (fun c => ?_)
    · have := of_decide_eq_true c
      have := z.2.2.2.2.1
      omega
    have c3 : A.length ≤ k := by
      have : ¬ (k : Int) < (A.length : Int) := fun z => c (decide_eq_true z)
      omega
    refine ⟨.ref x, rfl, .ref y, rfl, x, y, _, _, rfl, rfl, hX, hY, by rw [setV_len, setV_len, sizeLine_eq]; omega, fun p H3 s3 hp => ⟨p, rfl, ⟨_, hp⟩, fun D nD => ?_⟩⟩
    rw [← setV_app] at hp
    have hL3 := Same.seqT s3 hL
    refine lc_tup (K := K) (a := p) (xs := setV (A ++ B)) (fun z H4 => Same H3 H4 ∧ H4 D = some (.lst (setV (((A ++ B).take z).filter fun m => !decide (m ∈ L))))) ⟨same_new nD, upd_same⟩ (fun _ H4 _ h4 => Same.seqT h4.1 hp) ?_ ?_
    · rintro z v H4 hz ⟨s4, hD4⟩
      obtain ⟨mm, hm, rfl⟩ := setV_get hz
      refine ⟨rfl, _, rfl, .ref l, rfl, l, _, rfl, .inr (Same.seqT s4 hL3), rfl, setV_flat _, _, rfl, ?_⟩
      rw [if_pos rfl, inV_setV, take_snoc hm, List.filter_append]
      refine ite2 (fun c => ?_) (fun c => ?_)
      · rw [show ([mm].filter fun m => !decide (m ∈ L)) = [mm] by
          rw [List.filter_cons_of_pos (by exact c)]
          rfl]
        refine ⟨_, rfl, _, hD4, ?_, keep_upd s4 nD, ?_⟩
        · rw [setV_len]
          refine small1000 ?_
          have := List.length_filter_le (fun m => !decide (m ∈ L)) ((A ++ B).take z)
          rw [List.length_take, List.length_append] at this
          omega
        · rw [upd_same, setV_app]
          rfl
      · rw [show ([mm].filter fun m => !decide (m ∈ L)) = [] by
          rw [List.filter_cons_of_neg (by exact c)]
          rfl, List.append_nil]
        exact ⟨s4, hD4⟩
    rintro H4 ⟨s4, hD4⟩
    rw [setV_len, List.take_length] at hD4
    generalize hX4 : ((A ++ B).filter fun m => !decide (m ∈ L)) = X at hD4
    refine ⟨by show 0 ≤ sizeLine; decide, fun e0 ne0 => ?_⟩
    have s5 := same_new (o := .lst []) ne0
    refine ⟨.list (natD X), .list (natD []), .lst (SqL.of (s5 _ _ hD4)) (dp_set _), .lst (SqL.of upd_same) .nil, shW_natL X, shW_natL [], _, rfl, ?_⟩
    rw [show PyData.eqv (.list (natD X)) (.list (natD [])) = decide (X = []) from eqv_nats X []]
    have s25 := (s3.trans s4).trans s5
    generalize upd H4 e0 (.lst []) = H5 at s5 s25 ⊢
    refine ite2 (fun c => ?_) (fun c => ?_)
    · refine qn (fun z => ?_) H5 s25
      rw [decide_eq_true (by
        rw [← hX4]
        refine List.filter_eq_nil_iff.mpr fun m hm => ?_
        have : m ∈ L := by
          rcases List.mem_append.mp hm with h | h
          · exact z.1 m h
          · exact z.2.1 m h
        simp [this])] at c
      cases c
    have X0 : X = [] := by
      refine Classical.byContradiction fun ne => c ?_
      rw [decide_eq_false ne]
      rfl
    have inAB : ∀ m ∈ A ++ B, m ∈ L := fun m hm => by
      have := List.filter_eq_nil_iff.mp (hX4.trans X0) m hm
      simpa using this
    have c4 : 1 ≤ A.length := List.length_pos_iff.mpr nA
    have cl : Cl22 n f k L A B := ⟨fun y hy => inAB y (List.mem_append_left _ hy), fun y hy => inAB y (List.mem_append_right _ hy), c2, c4, c3, c1⟩
    refine ⟨.ref a, rfl, .ref l, rfl, .ref x, rfl, x, _, rfl, .inr (Same.seqT s25 hX), a, l, tbs, rows, L, A.length, ?_, Same.seqT s25 hA, R0.same s25, Same.seqT s25 hL, hl, hrl, fun H6 d s6 nd hD6 => ?_⟩
    · rw [setV_len]
      rfl
    dsimp only [gName]
    have s06 := s25.trans s6
    obtain ⟨xs6, e6, _⟩ := id hD6
    refine ⟨.ref d, rfl, ⟨d, xs6, rfl, e6⟩, .ref x, rfl, d, x, .int 0, _, nkT A, rfl, rfl, hD6, nkT_at (Same.seqT s06 hX), nkT_depth _, ?_⟩
    rw [tally_get]
    refine ⟨.ref d, rfl, ⟨d, xs6, rfl, e6⟩, .ref y, rfl, d, y, .int 0, _, nkT B, rfl, rfl, hD6, nkT_at (Same.seqT s06 hY), nkT_depth _, ?_⟩
    rw [tally_get]
    have e1 : (rows.map (keyL L A.length)).count A = heldN L A.length rows A := ldC_held L A.length rows A
    have e2 : (rows.map (keyL L A.length)).count B = heldN L A.length rows B := ldC_held L A.length rows B
    rw [e1, e2]
    refine ⟨_, _, rfl, rfl, ?_⟩
    refine qf H6 _ s06 ?_
    rw [decide_eq_true_iff]
    exact ⟨fun h => ⟨cl, by omega⟩, fun h => by have := h.2; omega⟩
end
/-! ### rows of different servers -/
def Good (n d : Nat) (rows : List (List Nat)) : Prop := rows ≠ [] ∧ ∀ r ∈ rows, r.length = d ∧ r.Nodup ∧ ∀ x ∈ r, x < n
/-! ### shows_uneven of any value -/
theorem WitH.cl {n f k : Nat} {rows : List (List Nat)} {t : TD} (h : WitH n f k rows t) : Wit22 n f k t := by
  obtain ⟨L, A, B, e, s1, s2, s3, c, _⟩ := h
  exact ⟨L, A, B, e, s1, s2, s3, c⟩
theorem sub22 {A L : List Nat} (a : Asc A) (h : ∀ y ∈ A, y ∈ L) : A.length ≤ L.length := by
  have := sub_len (ns := L.map fun (m : Nat) => (m : Int)) (ks := A.map fun (m : Nat) => (m : Int)) (List.pairwise_map.mpr ((asc_nodup a).imp fun z e => z (by omega))) fun k hk => by
    obtain ⟨m, hm, rfl⟩ := List.mem_map.mp hk
    exact List.mem_map.mpr ⟨m, h m hm, rfl⟩
  rw [List.length_map, List.length_map] at this
  exact this
def spShows22 (K : PySem.W.Frag) : Sp := fun vs H Q _ => ∃ (n f k d : Nat) (a : Addr) (ts : List V) (rows : List (List Nat)) (v : V) (t : TD), vs = [.int n, .ref a, .int f, .int k, v] ∧ SqT K H a ts ∧ RowsL K H ts rows ∧ rows.length ≤ 20000 ∧ Good n d rows ∧ d ≤ n ∧ min n (f + k) ≤ d ∧ VT K H v t ∧ n ≤ 60 ∧ f < n ∧
  ∀ H' b, Same H H' → (b = true ↔ WitH n f k rows t) → Q (.bl b) H'
section
variable {P : Program} {w : World} {K : PySem.W.Frag} {mg : Str → Option Value} {base : Heap}
theorem ok_shows22 (T : Txt K mg) {j : Nat} : FnOk P w K mg base (L2.CX P w) (j + 5) T.fShows22 T.fdShows22 ["n", "table", "failures", "factor", "thing"] (spShows22 K) := by
  refine T.FShows22.okX scShows22 (fun vs H Q E h => ?_) (fun cdv A0 outer s H vs Q E hr h => ?_)
  · obtain ⟨n, f, k, d, a, ts, rows, v, t, rfl, _⟩ := h
    rfl
  · obtain ⟨n, f, k, d, a, ts, rows, v, t, rfl, hA, R0, hl, G0, hd, hc, hv, hn, hfn, q⟩ := h
    have hu9 : (A0.deeper (envOfC "shows_uneven" (defScope sShows22) s.heap.objs.size T.fShows22 cdv)).units + 9 < cLine := by
      have := hr.un
      omega
    refine ⟨_, pss_cons (ps_expr (pe_call (ok_chkr T) hr (by rfl) T.gChkR T.FChkR.kp T.bChkR .nil (passes_call (takes_of rfl rfl rfl rfl) (fun _ _ _ _ h => h)) (pa_cons (pv 0) (pa_cons (pv 1) (pa_cons (pv 2) (pa_cons (pv 3) pa_nil)))))) (pss_cons (ps_if (pt_not (pt_val (pe_call (ok_claim22 T) hr (by rfl) T.gClaim22 T.FClaim22.kp T.bClaim22 .nil pass0 (pa_cons (pv 0) (pa_cons (pv 2) (pa_cons (pv 3) (pa_cons (pv 4) pa_nil))))))) (pss_one (ps_ret pe_bl)) pss_nil) (pss_cons (ps_asg (pv 4) (pg_tup rfl (pgs_cons (pg_name (i := 5) scShows22.nd rfl (.inl rfl)) (pgs_cons (pg_name (i := 6) scShows22.nd rfl (.inl rfl)) (pgs_cons (pg_name (i := 7) scShows22.nd rfl (.inl rfl)) pgs_nil))))) (pss_cons (ps_set (i := 8) scShows22.nd rfl (.inl rfl) (pe_call (ok_helds T) hr (by rfl) T.gHelds T.FHelds.kp T.bHelds .nil (passes_call (takes_of rfl rfl rfl rfl) (fun _ _ _ _ h => h)) (pa_cons (pv 1) (pa_cons (pv 5) (pa_cons (pe_callB (call_lenK K) (by rfl) T.n_len PySem.boot_len (pa_cons (pv 6) pa_nil)) pa_nil))))) (pss_one (ps_ret (pe_cmpR op_lt (pe_bmN (P := P) (w := w) PySem.F.slot_dict_get PySem.F.type_dict_get (mt_getDN (P := P) (w := w) K hu9) (pv 8) (pa_cons (pv 6) (pa_cons pe_int pa_nil))) (pe_bmN (P := P) (w := w) PySem.F.slot_dict_get PySem.F.type_dict_get (mt_getDN (P := P) (w := w) K hu9) (pv 8) (pa_cons (pv 7) (pa_cons pe_int pa_nil))) (nomark _))))))), ?_⟩
    have hlen : ∀ r, rows.head? = some r → r.length = d := fun r hr => (G0.2 r (List.mem_of_mem_head? hr)).1
    refine ⟨_, rfl, .ref a, rfl, _, rfl, _, rfl, n, f, k, a, ts, rows, rfl, hA, R0, fun _ H1 s1 => ?_, fun r t h1 h2 h3 => absurd h3 (by rw [hlen r h1]; omega)⟩
    refine ⟨_, rfl, _, rfl, _, rfl, v, rfl, n, f, k, v, t, rfl, VT.same s1 hv, hn, hfn, fun H2 b s2 hb => ?_⟩
    have s12 := s1.trans s2
    refine ⟨_, rfl, ?_⟩
    cases b with
    | false => exact iteT (q H2 false s12 ⟨fun e => (by cases e), fun z => hb.mpr z.cl⟩)
    | true =>
    refine iteF ?_
    obtain ⟨L, A, B, rfl, sL, sA, sB, c1, c2, c3, c4, c5, c6⟩ := hb.mp rfl
    obtain ⟨tv, l, x, y, rfl, hT, hL, hX, hY⟩ : ∃ t l x y, v = .ref t ∧ SqT K H t [V.ref l, V.ref x, V.ref y] ∧ SqT K H l (setV L) ∧ SqT K H x (setV A) ∧ SqT K H y (setV B) := by
      cases hv with
      | tup hT r =>
      cases r with
      | cons h1 r =>
      cases r with
      | cons h2 r =>
      cases r with
      | cons h3 r =>
      cases r
      cases h1 with
      | tup a1 b1 =>
      cases h2 with
      | tup a2 b2 =>
      cases h3 with
      | tup a3 b3 =>
      rw [vts_ti b1] at a1
      rw [vts_ti b2] at a2
      rw [vts_ti b3] at a3
      exact ⟨_, _, _, _, rfl, hT, a1, a2, a3⟩
    have lA := sub22 sA.1 c1
    have wl := set22_len sL
    have hX2 := Same.seqT s12 hX
    have hY2 := Same.seqT s12 hY
    have hL2 := Same.seqT s12 hL
    refine ⟨.ref tv, rfl, tv, _, rfl, Same.seqT s12 hT, rfl, ?_⟩
    dsimp only [gCons, gName, gNil]
    refine ⟨_, _, rfl, _, _, rfl, _, _, rfl, rfl, ?_⟩
    refine ⟨.ref a, rfl, .ref l, rfl, .ref x, rfl, x, _, rfl, .inr hX2, a, l, ts, rows, L, A.length, ?_, Same.seqT s12 hA, R0.same s12, Same.seqT s12 hL, hl, (fun r hr => by have := (G0.2 r hr).1; omega), by omega, lA, fun _ H3 dd s3 nd hD => ?_, ?_⟩
    · rw [setV_len]
      rfl
    · dsimp only [gName]
      replace hD : DAt P w K H3 dd _ := hD
      have s13 := s12.trans s3
      obtain ⟨xs6, e6, _⟩ := id hD
      refine ⟨.ref dd, rfl, ⟨dd, xs6, rfl, e6⟩, .ref x, rfl, dd, x, .int 0, _, nkT A, rfl, rfl, hD, nkT_at (Same.seqT s13 hX), nkT_depth _, ?_⟩
      rw [tally_get]
      refine ⟨.ref dd, rfl, ⟨dd, xs6, rfl, e6⟩, .ref y, rfl, dd, y, .int 0, _, nkT B, rfl, rfl, hD, nkT_at (Same.seqT s13 hY), nkT_depth _, ?_⟩
      rw [tally_get]
      have e1 : (rows.map (keyL L A.length)).count A = heldN L A.length rows A := ldC_held L A.length rows A
      have e2 : (rows.map (keyL L A.length)).count B = heldN L A.length rows B := ldC_held L A.length rows B
      rw [e1, e2]
      refine ⟨_, _, rfl, rfl, ?_⟩
      refine q H3 _ s13 ?_
      rw [decide_eq_true_iff]
      constructor
      · exact fun h => ⟨L, A, B, rfl, sL, sA, sB, ⟨c1, c2, c3, c4, c5, c6⟩, by omega⟩
      · rintro ⟨L', A', B', e, _, _, _, _, h⟩
        obtain ⟨rfl, rfl, rfl⟩ := three_inj e
        omega
    · intro i r tt h1 h2 h3 h4
      exact absurd (enough G0.2 sL.1 sL.2 (q := A.length) (by omega) r (List.mem_of_getElem? h1)) h4
end
/-! ### the law's pot of drawn numbers -/
def PotAt (H : Hp) (p : Addr) (m : Nat) : Prop := ∃ a b c : Int, H p = some (.lst [.int a, .int b, .int c]) ∧ (0 ≤ a ∧ a < 10 ^ 300) ∧ (0 ≤ b ∧ b < 2305843009213693951) ∧ 0 ≤ c ∧ c ≤ (m : Int)
theorem PotAt.mono {H : Hp} {p : Addr} {m n : Nat} (h : PotAt H p m) (l : m ≤ n) : PotAt H p n := by
  obtain ⟨a, b, c, h1, h2, h3, h4, h5⟩ := h
  exact ⟨a, b, c, h1, h2, h3, h4, by omega⟩
theorem PotAt.same {H H' : Hp} {p : Addr} {m : Nat} (h : PotAt H p m) (s : Same H H') : PotAt H' p m := by
  obtain ⟨a, b, c, h1, h2⟩ := h
  exact ⟨a, b, c, s _ _ h1, h2⟩
theorem PotAt.ne {H : Hp} {p q : Addr} {m : Nat} (h : PotAt H p m) (n : H q = none) : p ≠ q := by
  obtain ⟨a, b, c, h1, _⟩ := h
  exact ne_of_none h1 n
def spPot (K : PySem.W.Frag) : Sp := fun vs H Q _ => ∃ (a : Addr) (ns : List Int) (i : Nat), vs = [.ref a, .int i] ∧ SqL K H a (ns.map V.int) ∧ i ≤ 100 ∧ ∀ H' p, Same H H' → H p = none → PotAt H' p 0 → Q (.ref p) H'
def spTake : Sp := fun vs H Q _ => ∃ (p : Addr) (m : Nat) (u : Int), vs = [.ref p, .int u] ∧ PotAt H p m ∧ m ≤ 1000000 ∧ 1 ≤ u ∧ u < 2 ^ 1000 ∧
  ∀ (r : Int) (H' : Hp), 0 ≤ r → r < u → PotAt H' p (m + 1) → But p H H' → Q (.int r) H'
theorem own_ok (x : Int) (c : Bool) : 0 ≤ x % ((10 : Int) ^ (60 : Int).toNat) ^ (5 : Int).toNat * (if c then 1 else 0) ∧ x % ((10 : Int) ^ (60 : Int).toNat) ^ (5 : Int).toNat * (if c then 1 else 0) < 10 ^ 300 := by
  have e : ((10 : Int) ^ (60 : Int).toNat) ^ (5 : Int).toNat = 10 ^ 300 := by decide +kernel
  rw [e]
  have h1 := Int.emod_nonneg x (show (10 : Int) ^ 300 ≠ 0 by decide +kernel)
  have h2 := Int.emod_lt_of_pos x (show (0 : Int) < 10 ^ 300 by decide +kernel)
  cases c with
  | true =>
    rw [if_pos rfl, Int.mul_one]
    exact ⟨h1, h2⟩
  | false =>
    rw [if_neg (by decide), Int.mul_zero]
    exact ⟨Int.le_refl _, by decide +kernel⟩
theorem big_pos : (0 : Int) < ((10 : Int) ^ (60 : Int).toNat) ^ (5 : Int).toNat := by decide +kernel
theorem bit_in (c : Bool) : -(2 ^ 64) < (if c then (1 : Int) else 0) ∧ (if c then (1 : Int) else 0) < 2 ^ 64 := by
  cases c <;> decide
theorem prime_at (i : Int) (h0 : 0 ≤ i) (h5 : i < 5) : ∃ v : Int, atI [V.int 2147483647, V.int 2147483629, V.int 2147483587, V.int 2147483579, V.int 2147483563] i = some (.int v) ∧ 0 < v ∧ v < 2 ^ 32 := by
  have h : i = 0 ∨ i = 1 ∨ i = 2 ∨ i = 3 ∨ i = 4 := by omega
  rcases h with rfl | rfl | rfl | rfl | rfl
  · exact ⟨2147483647, rfl, by decide, by decide⟩
  · exact ⟨2147483629, rfl, by decide, by decide⟩
  · exact ⟨2147483587, rfl, by decide, by decide⟩
  · exact ⟨2147483579, rfl, by decide, by decide⟩
  · exact ⟨2147483563, rfl, by decide, by decide⟩
section
variable {P : Program} {w : World} {K : PySem.W.Frag} {mg : Str → Option Value} {base : Heap}
theorem ok_pot (T : Txt K mg) {j : Nat} : FnOk P w K mg base CX0 (j + 1) T.fPot T.fdPot ["_law_script", "_law_k"] (spPot K) := by
  refine T.FPot.ok scPot (fun vs H Q E h => ?_) (fun cdv A outer s H vs Q E hr h => ?_)
  · obtain ⟨a, ns, i, rfl, _⟩ := h
    rfl
  · obtain ⟨a, ns, i, rfl, hS, hi, q⟩ := h
    refine ⟨_, pss_cons (ps_set (i := 2) scPot.nd rfl (.inl rfl) (pe_op op_add (pe_op op_mul pe_int (pv 1)) pe_int)) (C8.pss_cut (ps_if (pt_cmpR op_lt (pv 1) (pe_callB (call_lenK K) (by rfl) T.n_len PySem.boot_len (pa_cons (pv 0) pa_nil)) (nomark _)) (pss_one (ps_set (i := 2) scPot.nd rfl (.inl rfl) (pe_ix (ix_listK K) (pv 0) (pv 1) (fun _ _ => rfl)))) pss_nil) (pss_cons (ps_set (i := 3) scPot.nd rfl (.inl rfl) (pe_op op_mul (pe_op op_mod (pe_callB call_abs (by rfl) T.n_abs (by decide +kernel) (pa_cons (pv 2) pa_nil)) (pe_op op_powB (pe_op op_pow pe_int pe_int) pe_int)) (pe_callTy call_int1 (by rfl) T.n_int (by decide +kernel) (pa_cons (pe_cmpR op_ge (pe_callB call_abs (by rfl) T.n_abs (by decide +kernel) (pa_cons (pv 2) pa_nil)) (pe_op op_pow pe_int pe_int) (nomark _)) pa_nil)))) (pss_one (ps_ret (pe_lst (pa_cons (pv 3) (pa_cons (pe_op op_mod (pe_op op_add (pe_op op_add (pe_op op_mul (pe_op op_mod (pv 2) pe_int) pe_int) (pe_op op_mul (pe_op op_mul pe_int (pv 1)) (pv 1))) pe_int) pe_int) (pa_cons pe_int pa_nil)))))))), ?_⟩
    refine ⟨_, rfl, _, _, rfl, rfl, .inl ⟨by decide, by decide⟩, _, _, rfl, rfl, ?_⟩
    refine ⟨fun σ H2 => ∃ x : Int, σ = [some (.ref a), some (.int i), some (.int x), none] ∧ H2 = H, ?_, ?_⟩
    · refine ⟨_, rfl, .ref a, rfl, a, _, rfl, .inl hS, _, _, rfl, rfl, _, rfl, ite2 (fun h1 => ?_) (fun h1 => ?_)⟩
      · have hlt : i < ns.length := by
          have h2 := of_decide_eq_true h1
          rw [List.length_map] at h2
          omega
        exact ⟨.ref a, rfl, _, rfl, a, _, _, _, rfl, rfl, hS, atI_nat (v := V.int ns[i]) (by rw [List.getElem?_map, List.getElem?_eq_getElem hlt]; rfl), _, rfl, rfl⟩
      · exact ⟨_, rfl, rfl⟩
    · rintro σ H2 ⟨x, rfl, rfl⟩
      refine ⟨_, rfl, _, rfl, _, _, rfl, rfl, ⟨by decide, by decide, by decide⟩, _, _, rfl, rfl, ⟨by decide, by decide +kernel⟩, _, _, rfl, rfl, big_pos, _, rfl, _, rfl, _, _, rfl, rfl, ⟨by decide, by decide, by decide⟩, _, _, rfl, rfl, .inr ⟨_, rfl, _, _, rfl, rfl, .inr (bit_in _), ?_⟩⟩
      refine ⟨_, rfl, _, rfl, _, _, rfl, rfl, (show (0 : Int) < 2305843009213693951 by decide), _, _, rfl, rfl, .inr ⟨by decide, by decide⟩, _, rfl, _, _, rfl, rfl, .inl ⟨by decide, by decide⟩, _, rfl, _, _, rfl, rfl, .inr ⟨by omega, by omega⟩, _, _, rfl, rfl, _, _, rfl, rfl, _, _, rfl, rfl, (show (0 : Int) < 2305843009213693921 by decide), ?_⟩
      refine ⟨by show 3 ≤ sizeLine; decide, fun p np => ?_⟩
      refine q _ p (same_new np) np ⟨_, _, 0, upd_same, own_ok _ _, ⟨Int.emod_nonneg _ (by decide), Int.lt_trans (Int.emod_lt_of_pos _ (by decide)) (by decide)⟩, Int.le_refl _, Int.le_refl _⟩
theorem ok_take (T : Txt K mg) {j : Nat} : FnOk P w K mg base CX0 (j + 1) T.fTake T.fdTake ["_law_pot_here", "_law_size"] spTake := by
  refine T.FTake.ok scTake (fun vs H Q E h => ?_) (fun cdv A outer s H vs Q E hr h => ?_)
  · obtain ⟨p, m, u, rfl, _⟩ := h
    rfl
  · obtain ⟨p, m, u, rfl, ⟨a, b, c, hp, ha, hb, hc0, hcm⟩, hm, hu1, hu2, q⟩ := h
    refine ⟨_, pss_cons (ps_if (pt_cmpR op_gt (pe_ix (ix_listK K) (pv 0) pe_int (fun _ _ => rfl)) pe_int (nomark _)) (pss_cons (ps_set (i := 2) scTake.nd rfl (.inl rfl) (pe_op op_mod (pe_ix (ix_listK K) (pv 0) pe_int (fun _ _ => rfl)) (pv 1))) (pss_cons (ps_asg (pe_op op_fdivW (pe_ix (ix_listK K) (pv 0) pe_int (fun _ _ => rfl)) (pv 1)) (pg_sub (pv 0) pe_int set_list)) (pss_one (ps_ret (pv 2))))) pss_nil) (pss_cons (ps_asg (pe_op op_add (pe_ix (ix_listK K) (pv 0) pe_int (fun _ _ => rfl)) pe_int) (pg_sub (pv 0) pe_int set_list)) (pss_cons (ps_set (i := 3) scTake.nd rfl (.inl rfl) (pe_ix (ix_listK K) (pe_lst (pa_cons pe_int (pa_cons pe_int (pa_cons pe_int (pa_cons pe_int (pa_cons pe_int pa_nil)))))) (pe_op op_mod (pe_ix (ix_listK K) (pv 0) pe_int (fun _ _ => rfl)) pe_int) (fun _ _ => rfl))) (pss_cons (ps_set (i := 4) scTake.nd rfl (.inl rfl) (pe_op op_mod (pe_op op_pow (pe_op op_add (pe_op op_add (pe_ix (ix_listK K) (pv 0) pe_int (fun _ _ => rfl)) (pe_op op_mul (pe_op op_mul pe_int (pe_ix (ix_listK K) (pv 0) pe_int (fun _ _ => rfl))) (pe_ix (ix_listK K) (pv 0) pe_int (fun _ _ => rfl)))) pe_int) pe_int) (pv 3))) (pss_one (ps_ret (pe_op op_mod (pe_op op_fdiv (pe_op op_mod (pe_op op_mul (pv 4) (pe_op op_add (pe_op op_mod (pv 4) pe_int) (pe_op op_mul pe_int (pe_ix (ix_listK K) (pv 0) pe_int (fun _ _ => rfl))))) pe_int) pe_int) (pv 1))))))), ?_⟩
    refine ⟨.ref p, rfl, p, _, _, _, rfl, rfl, SqL.of hp, rfl, _, _, rfl, rfl, _, rfl, ite2 (fun h1 => ?_) (fun h1 => ?_)⟩
    · have h0 : 0 < a := of_decide_eq_true h1
      refine ⟨.ref p, rfl, p, _, _, _, rfl, rfl, SqL.of hp, rfl, _, rfl, _, _, rfl, rfl, by omega, ?_⟩
      refine ⟨.ref p, rfl, p, _, _, _, rfl, rfl, SqL.of hp, rfl, _, rfl, _, _, rfl, rfl, wide_div (b := 1000) (by omega) (by omega) (by decide) (by decide), ?_⟩
      refine ⟨.ref p, rfl, p, _, _, 0, rfl, rfl, hp, rfl, ?_⟩
      refine ⟨_, rfl, q _ _ (Int.emod_nonneg _ (by omega)) (Int.emod_lt_of_pos _ (by omega)) ⟨a / u, b, c, upd_same, ?_, hb, hc0, by omega⟩ (But.refl p H).upd⟩
      have h3 : a / u ≤ a := Int.ediv_le_self _ (by omega)
      exact ⟨Int.ediv_nonneg (by omega) (by omega), by omega⟩
    · refine ⟨.ref p, rfl, p, _, _, _, rfl, rfl, SqL.of hp, rfl, _, _, rfl, rfl, .ref p, rfl, p, _, _, 2, rfl, rfl, hp, rfl, ?_⟩
      have hp2 : (upd H p (.lst [V.int a, V.int b, V.int (c + 1)])) p = some (.lst [V.int a, V.int b, V.int (c + 1)]) := upd_same
      obtain ⟨v, ev, v0, v32⟩ := prime_at ((c + 1) % 5) (Int.emod_nonneg _ (by decide)) (Int.emod_lt_of_pos _ (by decide))
      refine ⟨by decide, fun l nl => ?_⟩
      have npl : p ≠ l := ne_of_none hp2 nl
      have hp3 : (upd (upd H p (.lst [V.int a, V.int b, V.int (c + 1)])) l (.lst [V.int 2147483647, V.int 2147483629, V.int 2147483587, V.int 2147483579, V.int 2147483563])) p = some (.lst [V.int a, V.int b, V.int (c + 1)]) := by
        rw [upd_ne npl]
        exact hp2
      refine ⟨.ref p, rfl, p, _, _, _, rfl, rfl, SqL.of hp3, rfl, _, _, rfl, rfl, (show (0 : Int) < 5 by decide), l, _, _, _, rfl, rfl, SqL.of upd_same, ev, ?_⟩
      refine ⟨.ref p, rfl, p, _, _, _, rfl, rfl, SqL.of hp3, rfl, .ref p, rfl, p, _, _, _, rfl, rfl, SqL.of hp3, rfl, _, _, rfl, rfl, .inl ⟨by decide, by decide⟩, .ref p, rfl, p, _, _, _, rfl, rfl, SqL.of hp3, rfl, _, _, rfl, rfl, .inr ⟨by omega, by omega⟩, _, _, rfl, rfl, _, _, rfl, rfl, _, _, rfl, rfl, ⟨by decide, by decide, ?_⟩, _, rfl, _, _, rfl, rfl, v0, ?_⟩
      · have h8 : 0 ≤ 104729 * (c + 1) * (c + 1) := Int.mul_nonneg (by omega) (by omega)
        have h9 : 104729 * (c + 1) * (c + 1) ≤ 104729 * 1000001 * 1000001 := Int.mul_le_mul (by omega) (by omega) (by omega) (by omega)
        have : (b + 104729 * (c + 1) * (c + 1) + 19).natAbs < 2 ^ 64 := by omega
        exact this
      · refine ⟨_, rfl, _, rfl, _, _, rfl, rfl, (show (0 : Int) < 10007 by decide), .ref p, rfl, p, _, _, _, rfl, rfl, SqL.of hp3, rfl, _, _, rfl, rfl, .inl ⟨by decide, by decide⟩, _, _, rfl, rfl, _, _, rfl, rfl, .inl ?_, _, _, rfl, rfl, (show (0 : Int) < 2305843009213693907 by decide), _, _, rfl, rfl, ⟨by decide, by decide⟩, _, rfl, _, _, rfl, rfl, by omega, ?_⟩
        · have h3 := Int.emod_nonneg ((b + 104729 * (c + 1) * (c + 1) + 19) ^ (3 : Int).toNat) (show v ≠ 0 by omega)
          have h4 := Int.emod_lt_of_pos ((b + 104729 * (c + 1) * (c + 1) + 19) ^ (3 : Int).toNat) v0
          exact ⟨by omega, by omega⟩
        · refine q _ _ (Int.emod_nonneg _ (by omega)) (Int.emod_lt_of_pos _ (by omega)) ⟨a, b, c + 1, hp3, ha, hb, by omega, by omega⟩ ?_
          exact (But.refl p H).upd.same (same_new nl)
end
/-! ### one of some -/
def spOf : Sp := fun vs H Q _ => ∃ (p : Addr) (m : Nat) (l : Addr) (xs : List V), vs = [.ref p, .ref l] ∧ PotAt H p m ∧ m ≤ 1000000 ∧ H l = some (.lst xs) ∧ l ≠ p ∧ 1 ≤ xs.length ∧ xs.length ≤ 1000 ∧
  ∀ (v : V) (H' : Hp), v ∈ xs → PotAt H' p (m + 1) → But p H H' → Q v H'
theorem pick_at {xs : List V} {r : Int} (h0 : 0 ≤ r) (hl : r < (xs.length : Int)) : ∃ v, v ∈ xs ∧ atI xs r = some v := by
  obtain ⟨k, rfl⟩ := Int.eq_ofNat_of_zero_le h0
  have hk : k < xs.length := by omega
  exact ⟨xs[k], List.getElem_mem hk, atI_nat (List.getElem?_eq_getElem hk)⟩
section
variable {P : Program} {w : World} {K : PySem.W.Frag} {mg : Str → Option Value} {base : Heap}
theorem ok_of (T : Txt K mg) {j : Nat} : FnOk P w K mg base CX0 (j + 2) T.fOf T.fdOf ["_law_pot_here", "_law_some"] spOf := by
  refine T.FOf.ok scOf (fun vs H Q E h => ?_) (fun cdv A outer s H vs Q E hr h => ?_)
  · obtain ⟨p, m, l, xs, rfl, _⟩ := h
    rfl
  · obtain ⟨p, m, l, xs, rfl, P0, hm, hl, hne, h1, h2, q⟩ := h
    refine ⟨_, pss_one (ps_ret (pe_ix ix_list (pv 1) (pe_call (ok_take T) hr (by rfl) T.gTake T.FTake.kp T.bTake .nil pass0 (pa_cons (pv 0) (pa_cons (pe_callB call_len_seq (by rfl) T.n_len PySem.boot_len (pa_cons (pv 1) pa_nil)) pa_nil))) (fun _ _ => rfl))), ?_⟩
    refine ⟨.ref l, rfl, .ref p, rfl, .ref l, rfl, l, _, rfl, .inl (SqL.of hl), p, m, _, rfl, P0, hm, by omega, ?_, fun r H' r0 rl P1 B1 => ?_⟩
    · exact Int.lt_trans (show (xs.length : Int) < 1001 by omega) (by decide +kernel)
    · obtain ⟨v, hv, ev⟩ := pick_at r0 rl
      exact ⟨l, xs, r, v, rfl, rfl, SqL.of (B1 _ _ hne hl), ev, q v H' hv P1 B1⟩
end
/-! ### some things in a drawn order -/
/-- a server, or a tuple of servers -/
def TI (K : PySem.W.Frag) (H : Hp) (v : V) (d : PyData) : Prop := (∃ m : Nat, m < 60 ∧ v = .int (m : Int) ∧ d = .int (m : Int)) ∨ ∃ (t : Addr) (ms : List Nat), v = .ref t ∧ SqT K H t (setV ms) ∧ ms.length ≤ 60 ∧ (∀ x ∈ ms, x < 60) ∧ d = .tuple (natD ms)
theorem TI.dp {K : PySem.W.Frag} {H : Hp} {v : V} {d : PyData} (h : TI K H v d) : Dp K H v d := by
  rcases h with ⟨m, _, rfl, rfl⟩ | ⟨t, ms, rfl, hT, _, _, rfl⟩
  · exact .int _
  · exact .tup hT (dp_set ms)
theorem TI.sh {K : PySem.W.Frag} {H : Hp} {v : V} {d : PyData} (h : TI K H v d) : Sh 1 500 d := by
  rcases h with ⟨m, hm, rfl, rfl⟩ | ⟨t, ms, rfl, hT, hl, hx, rfl⟩
  · exact (Sh.int (b := 6) (by decide) (by decide) (i := (m : Int)) (by rw [Int.natAbs_natCast]; omega)).mono (by decide) (by decide)
  · exact sh_list hl hx
theorem SqT_but {K : PySem.W.Frag} {H H' : Hp} {a p : Addr} {xs ys : List V} (h : SqT K H a xs) (hp : H p = some (.lst ys)) (b : But p H H') : SqT K H' a xs := by
  rcases h with (h | ⟨o, h⟩) | h
  · exact .inl (.inl (b _ _ (fun c => by rw [c, hp] at h; cases h) h))
  · exact .inl (.inr ⟨o, b _ _ (fun c => by rw [c, hp] at h; cases h) h⟩)
  · exact .inr h
theorem PotAt.lst {H : Hp} {p : Addr} {m : Nat} (h : PotAt H p m) : ∃ ys, H p = some (.lst ys) := by
  obtain ⟨a, b, c, h1, _⟩ := h
  exact ⟨_, h1⟩
theorem TI.same {K : PySem.W.Frag} {H H' : Hp} {v : V} {d : PyData} (s : Same H H') (h : TI K H v d) : TI K H' v d := by
  rcases h with h | ⟨t, ms, e, hT, r⟩
  · exact .inl h
  · exact .inr ⟨t, ms, e, Same.seqT s hT, r⟩
theorem TI.updL {K : PySem.W.Frag} {H : Hp} {v : V} {d : PyData} {D : Addr} {ys : List V} {o : HO} (h : TI K H v d) (hD : H D = some (.lst ys)) : TI K (upd H D o) v d := by
  rcases h with h | ⟨t, ms, e, hT, r⟩
  · exact .inl h
  · exact .inr ⟨t, ms, e, SqT_updL hT hD, r⟩
theorem TI.but {K : PySem.W.Frag} {H H' : Hp} {v : V} {d : PyData} {p : Addr} {m : Nat} (h : TI K H v d) (hp : PotAt H p m) (b : But p H H') : TI K H' v d := by
  obtain ⟨ys, e⟩ := hp.lst
  rcases h with h | ⟨t, ms, e2, hT, r⟩
  · exact .inl h
  · exact .inr ⟨t, ms, e2, SqT_but hT e b, r⟩
def Els (K : PySem.W.Frag) (H : Hp) (xs : List V) : Prop := ∀ x ∈ xs, ∃ d, TI K H x d
theorem Els.data {K : PySem.W.Frag} {H : Hp} : ∀ {xs : List V}, Els K H xs → ∃ ds, DpAll K H xs ds ∧ ShAll 1 (501 * xs.length) ds ∧ ds.length = xs.length
  | [], _ => ⟨[], .nil, ShAll.nil.mono (by decide) (Nat.zero_le _), rfl⟩
  | x :: r, h => by
    obtain ⟨d, hd⟩ := h x List.mem_cons_self
    obtain ⟨ds, h1, h2, h3⟩ := Els.data fun y hy => h y (List.mem_cons_of_mem _ hy)
    exact ⟨d :: ds, .cons hd.dp h1, (ShAll.cons hd.sh h2).mono (Nat.le_refl _) (by rw [List.length_cons, Nat.mul_succ]; omega), congrArg (· + 1) h3⟩
theorem Els.set {K : PySem.W.Frag} {H : Hp} {ms : List Nat} (h : ∀ x ∈ ms, x < 60) : Els K H (setV ms) := fun v hv => by
  obtain ⟨m, hm, rfl⟩ := setV_mem hv
  exact ⟨_, .inl ⟨m, h m hm, rfl, rfl⟩⟩
theorem PotAt.upd {H : Hp} {p q : Addr} {m : Nat} {o : HO} (h : PotAt H p m) (n : p ≠ q) : PotAt (L2.upd H q o) p m := by
  obtain ⟨a, b, c, h1, h2⟩ := h
  exact ⟨a, b, c, by rw [upd_ne n]; exact h1, h2⟩
def spMixed (K : PySem.W.Frag) : Sp := fun vs H Q _ => ∃ (p : Addr) (m : Nat) (a : Addr) (xs : List V), vs = [.ref p, .ref a] ∧ PotAt H p m ∧ m ≤ 100000 ∧ (SqL K H a xs ∨ SqT K H a xs) ∧ xs.length ≤ 1000 ∧ Els K H xs ∧
  ∀ H' q ys, But p H H' → H q = none → H' q = some (.lst ys) → ys.Perm xs → PotAt H' p (m + xs.length) → Q (.ref q) H'
def WMixed (K : PySem.W.Frag) (p a pl pf : Addr) (m : Nat) (xs : List V) (H : Hp) (k : Nat) (σ : L2.St) (H' : Hp) : Prop := ∃ L F : List V, σ = [some (.ref p), some (.ref a), some (.ref pl), some (.ref pf)] ∧ H' pl = some (.lst L) ∧ H' pf = some (.lst F) ∧ (F ++ L).Perm xs ∧ PotAt H' p (m + F.length) ∧ But p H H' ∧ Els K H' xs ∧ k = L.length
section
variable {P : Program} {w : World} {K : PySem.W.Frag} {mg : Str → Option Value} {base : Heap}
theorem ok_mixed (T : Txt K mg) {j : Nat} : FnOk P w K mg base CX0 (j + 2) T.fMixed T.fdMixed ["_law_pot_here", "_law_some"] (spMixed K) := by
  refine T.FMixed.ok scMixed (fun vs H Q E h => ?_) (fun cdv A outer s H vs Q E hr h => ?_)
  · obtain ⟨p, m, a, xs, rfl, _⟩ := h
    rfl
  · obtain ⟨p, m, a, xs, rfl, P0, hm, hA, hl, els, q⟩ := h
    have hu64 : (A.deeper (envOfC "_law_mixed" (defScope sMixed) s.heap.objs.size T.fMixed cdv)).units + 64 < cLine := by
      have := hr.un
      omega
    refine ⟨_, pss_cons (ps_par (i := 2) (j := 3) rfl scMixed.nd rfl rfl (by decide) rfl rfl (pa_cons (pe_callTy (call_listK K) (by rfl) T.n_list (by decide +kernel) (pa_cons (pv 1) pa_nil)) (pa_cons (pe_lst pa_nil) pa_nil)) (by rfl)) (pss_cons (ps_while PassesOwn.never (pt_cmpR (op_neDK K hu64) (pv 2) (pe_lst pa_nil) (nomark _)) (pss_one (ps_expr (pe_bm PySem.F.plainAttrs_list PySem.F.slot_list_append PySem.F.type_list_append mt_append (pv 3) (pa_cons (pe_bm PySem.F.plainAttrs_list PySem.F.slot_list_pop PySem.F.type_list_pop mt_popAt (pv 2) (pa_cons (pe_call (ok_take T) hr (by rfl) T.gTake T.FTake.kp T.bTake .nil pass0 (pa_cons (pv 0) (pa_cons (pe_callB (call_lenK K) (by rfl) T.n_len PySem.boot_len (pa_cons (pv 2) pa_nil)) pa_nil))) pa_nil)) pa_nil))))) (pss_one (ps_ret (pv 3)))), ?_⟩
    refine ⟨.ref a, rfl, a, _, rfl, hA, fun pl nl => ⟨Nat.zero_le _, fun pf nf => ⟨_, _, rfl, ?_⟩⟩⟩
    have hpl : pl ≠ p := (P0.ne nl).symm
    have P1 := P0.same (same_new (o := .lst xs) nl)
    have hpf : pf ≠ p := (P1.ne nf).symm
    have npf : pf ≠ pl := fun z => by
      rw [z, upd_same] at nf
      cases nf
    have ff : H pf = none := (same_new nl).free nf
    have s0 := (same_new (o := .lst xs) nl).trans (same_new (o := .lst []) nf)
    refine ⟨WMixed K p a pl pf m xs H, ⟨xs.length, xs, [], rfl, ?_, upd_same, List.Perm.refl _, P0.same s0, But.of s0, fun x hx => ?_, rfl⟩, ?_⟩
    · rw [upd_ne npf.symm]
      exact upd_same
    · obtain ⟨d, hd⟩ := els x hx
      exact ⟨d, hd.same s0⟩
    rintro k σ H2 ⟨L, F, rfl, hL, hF, pm, P2, B2, els2, rfl⟩
    have elsL : Els K H2 L := fun x hx => els2 x (pm.mem_iff.mp (List.mem_append_right _ hx))
    have hlen := pm.length_eq
    rw [List.length_append] at hlen
    refine ⟨.ref pl, rfl, Nat.zero_le _, fun e ne => ?_⟩
    have se := same_new (o := .lst []) ne
    obtain ⟨ds, d1, d2, d3⟩ := Els.data elsL
    have sL := (Sh.lst d2).shaped (by decide)
    refine ⟨.list ds, .list [], .lst (SqL.of (se _ _ hL)) (DpAll.mono se d1), .lst (SqL.of upd_same) .nil, sL, (Sh.lst ShAll.nil).shaped (by decide), _, rfl, ?_⟩
    have P3 := P2.same se
    have B3 := B2.same se
    have hL3 := se _ _ hL
    have hF3 := se _ _ hF
    have els3 : Els K (upd H2 e (.lst [])) xs := fun x hx => by
      obtain ⟨d, hd⟩ := els2 x hx
      exact ⟨d, hd.same se⟩
    generalize upd H2 e (.lst []) = H3 at P3 B3 hL3 hF3 els3
    cases L with
    | nil =>
      cases ds with
      | cons _ _ => cases d3
      | nil =>
        refine iteF ⟨_, rfl, ?_⟩
        rw [List.append_nil] at pm
        rw [List.length_nil, Nat.add_zero] at hlen
        rw [hlen] at P3
        exact q H3 pf F B3 ff hF3 pm P3
    | cons y r =>
      cases ds with
      | nil => cases d3
      | cons d ds =>
        refine iteT ?_
        refine ⟨WMixed K p a pl pf m xs H r.length, fun σ' H'' hw => ⟨r.length, Nat.lt_succ_self _, hw⟩, ?_⟩
        have hlr : (y :: r).length = r.length + 1 := rfl
        refine ⟨.ref pf, rfl, .inl ⟨rfl, _, SqL.of hF3⟩, .ref pl, rfl, .inl ⟨rfl, _, SqL.of hL3⟩, .ref p, rfl, .ref pl, rfl, pl, _, rfl, .inl (SqL.of hL3), p, _, _, rfl, P3, by omega, by omega, ?_, fun x H7 x0 xl P7 B7 => ?_⟩
        · exact Int.lt_trans (show ((y :: r).length : Int) < 2000 by omega) (by decide +kernel)
        obtain ⟨k, rfl⟩ := Int.eq_ofNat_of_zero_le x0
        have hk : k < (y :: r).length := by omega
        have hL7 := B7 _ _ hpl hL3
        have hF7 := B7 _ _ hpf hF3
        refine ⟨pl, _, (k : Int), k, _, rfl, rfl, hL7, by omega, by omega, seq_at hk, List.getElem?_eq_getElem hk, pf, _, _, rfl, rfl, (by rw [upd_ne npf]; exact hF7), small1000 (by omega), ?_⟩
        refine ⟨(y :: r).eraseIdx k, F ++ [(y :: r)[k]], rfl, ?_, upd_same, ?_, ?_, ?_, ?_, ?_⟩
        · rw [upd_ne npf.symm, upd_same]
        · rw [List.append_assoc]
          exact ((erase_perm (y :: r) k _ (List.getElem?_eq_getElem hk)).append_left F).trans pm
        · rw [List.length_append, show m + (F.length + [(y :: r)[k]].length) = m + F.length + 1 from rfl]
          exact (P7.upd hpl.symm).upd hpf.symm
        · exact but_new (but_new (B3.trans B7) nl) ff
        · intro x hx
          obtain ⟨d, hd⟩ := els3 x hx
          have h7 := hd.but P3 B7
          exact ⟨d, (h7.updL hL7).updL (ys := F) (by rw [upd_ne npf]; exact hF7)⟩
        · rw [List.length_eraseIdx, if_pos hk]
          omega
end
/-! ### the law's binomial -/
def spChoose : Sp := fun vs H Q _ => ∃ n k : Nat, vs = [.int n, .int k] ∧ n ≤ 60 ∧ k ≤ n ∧ Q (.int (C n k : Nat)) H
section
variable {P : Program} {w : World} {K : PySem.W.Frag} {mg : Str → Option Value} {base : Heap}
theorem ok_choose (T : Txt K mg) {j : Nat} : FnOk P w K mg base CX0 (j + 1) T.fChoose T.fdChoose ["_law_n", "_law_k"] spChoose := by
  refine T.FChoose.ok scChoose (fun vs H Q E h => ?_) (fun cdv A outer s H vs Q E hr h => ?_)
  · obtain ⟨n, k, rfl, _⟩ := h
    rfl
  · obtain ⟨n, k, rfl, hn, hk, q⟩ := h
    refine ⟨_, pss_cons (ps_set (i := 2) scChoose.nd rfl (.inl rfl) pe_int) (pss_cons (ps_for PassesOwn.never rfl (pi_range1 (by rfl) T.n_range (pa_cons (pv 1) pa_nil)) (pg_name (i := 3) scChoose.nd rfl (.inl rfl)) (pss_one (ps_set (i := 2) scChoose.nd rfl (.inl rfl) (pe_op op_fdiv (pe_op op_mul (pv 2) (pe_op op_sub (pv 0) (pv 3))) (pe_op op_add (pv 3) pe_int))))) (pss_one (ps_ret (pv 2)))), ?_⟩
    refine ⟨_, rfl, (k : Int), rfl, by omega, by omega, ?_⟩
    refine for_range (lo := 0) (n := (k : Int).toNat) (fun i σ H2 => ∃ v, σ = [some (.int n), some (.int k), some (.int (C n i : Nat)), v] ∧ H2 = H) ⟨none, by rw [C_zero]; rfl, rfl⟩ ?_ ?_
    · rintro i σ H2 hi ⟨v, rfl, rfl⟩
      have c60 := C_60 n i hn
      rw [Int.zero_add]
      refine ⟨_, rfl, _, rfl, _, rfl, _, _, rfl, rfl, _, _, rfl, rfl, .inr ⟨by omega, by omega⟩, _, rfl, _, _, rfl, rfl, _, _, rfl, rfl, ⟨by omega, by omega⟩, some (.int (i : Int)), ?_, rfl⟩
      have e := C_div n i (by omega)
      rw [show (n : Int) + 1 - (1 + (i : Int)) = (n : Int) - (i : Int) by omega, show 1 + (i : Int) = (i : Int) + 1 by omega] at e
      rw [← e]
      rfl
    · rintro σ H2 ⟨v, rfl, rfl⟩
      rw [Int.toNat_natCast]
      exact ⟨_, rfl, q⟩
end
/-! ### the law's least number of lists -/
def spLeast : Sp := fun vs H Q _ => ∃ n d : Nat, vs = [.int n, .int d] ∧ n ≤ 60 ∧ 1 ≤ n ∧ d ≤ n ∧ Q (.int (leastL n d : Nat)) H
def WLst (n d i : Nat) (v3 : Option V) (H : Hp) (a b : Nat) (m : Nat) (σ : L2.St) (H' : Hp) : Prop := ∃ x y : Nat, σ = [some (.int n), some (.int d), some (.int (leastL n i : Nat)), v3, some (.int (x : Int)), some (.int (y : Int))] ∧ H' = H ∧ Nat.gcd x y = Nat.gcd a b ∧ m = y
theorem step_alt {a b : Nat} (ha : 0 < a) : a * b / Nat.gcd a b = stepL a b := by
  unfold stepL
  obtain ⟨x, hx⟩ := Nat.gcd_dvd_left a b
  have g0 : 0 < Nat.gcd a b := Nat.gcd_pos_of_pos_left b ha
  generalize Nat.gcd a b = g at hx g0
  subst hx
  rw [Nat.mul_div_cancel_left _ g0, Nat.mul_assoc, Nat.mul_div_cancel_left _ g0]
section
variable {P : Program} {w : World} {K : PySem.W.Frag} {mg : Str → Option Value} {base : Heap}
theorem ok_least (T : Txt K mg) {j : Nat} : FnOk P w K mg base CX0 (j + 2) T.fLeast T.fdLeast ["_law_n", "_law_depth"] spLeast := by
  refine T.FLeast.ok scLeast (fun vs H Q E h => ?_) (fun cdv A outer s H vs Q E hr h => ?_)
  · obtain ⟨n, d, rfl, _⟩ := h
    rfl
  · obtain ⟨n, d, rfl, hn, h1, hd, q⟩ := h
    refine ⟨_, pss_cons (ps_set (i := 2) scLeast.nd rfl (.inl rfl) pe_int) (pss_cons (ps_for PassesOwn.never rfl (pi_range1 (by rfl) T.n_range (pa_cons (pv 1) pa_nil)) (pg_name (i := 3) scLeast.nd rfl (.inl rfl)) (pss_cons (ps_par (i := 4) (j := 5) rfl scLeast.nd rfl rfl (by decide) rfl rfl (pa_cons (pv 2) (pa_cons (pe_op op_mul (pv 0) (pe_call (ok_choose T) hr (by rfl) T.gChoose T.FChoose.kp T.bChoose .nil pass0 (pa_cons (pe_op op_sub (pv 0) pe_int) (pa_cons (pv 3) pa_nil)))) pa_nil)) (by rfl)) (pss_cons (ps_while PassesOwn.never (pt_cmpR op_gt (pv 5) pe_int (nomark _)) (pss_one (ps_par (i := 4) (j := 5) rfl scLeast.nd rfl rfl (by decide) rfl rfl (pa_cons (pv 5) (pa_cons (pe_op op_mod (pv 4) (pv 5)) pa_nil)) (by rfl)))) (pss_one (ps_set (i := 2) scLeast.nd rfl (.inl rfl) (pe_op op_fdivW (pe_op op_mul (pe_op op_mul (pv 2) (pv 0)) (pe_call (ok_choose T) hr (by rfl) T.gChoose T.FChoose.kp T.bChoose .nil pass0 (pa_cons (pe_op op_sub (pv 0) pe_int) (pa_cons (pv 3) pa_nil)))) (pv 4))))))) (pss_one (ps_ret (pv 2)))), ?_⟩
    refine ⟨_, rfl, (d : Int), rfl, by omega, by omega, ?_⟩
    refine for_range (lo := 0) (n := (d : Int).toNat) (fun i σ H2 => ∃ v3 v4 v5, σ = [some (.int n), some (.int d), some (.int (leastL n i : Nat)), v3, v4, v5] ∧ H2 = H) ⟨none, none, none, rfl, rfl⟩ ?_ ?_
    · rintro i σ H2 hi ⟨v3, v4, v5, rfl, rfl⟩
      have hin : i < n := by omega
      have e0 := edge_pos hin
      have e1 := edge_lt (d := i) hn
      have L0 := leastL_pos (n := n) (d := i) (by omega)
      have c60 := C_60 (n - 1) i (by omega)
      have en : (n : Int) - 1 = ((n - 1 : Nat) : Int) := by omega
      rw [Int.zero_add]
      refine ⟨_, rfl, _, rfl, _, rfl, _, _, rfl, rfl, _, rfl, n - 1, i, by dsimp only; rw [en]; rfl, by omega, by omega, _, _, rfl, rfl, .inl ⟨by omega, by omega⟩, _, _, rfl, ?_⟩
      have ec : (n : Int) * ((C (n - 1) i : Nat) : Int) = ((n * C (n - 1) i : Nat) : Int) := (Int.natCast_mul _ _).symm
      dsimp only
      rw [ec]
      refine ⟨WLst n d i (some (.int (i : Int))) H2 (leastL n i) (n * C (n - 1) i), ⟨n * C (n - 1) i, leastL n i, n * C (n - 1) i, rfl, rfl, rfl, rfl⟩, ?_⟩
      rintro m σ H' ⟨x, y, rfl, rfl, hg, rfl⟩
      refine ⟨_, rfl, _, _, rfl, rfl, _, rfl, ite2 (fun hb => ?_) (fun hb => ?_)⟩
      · have h0 : (0 : Int) < (m : Int) := of_decide_eq_true hb
        refine ⟨WLst n d i (some (.int (i : Int))) H' (leastL n i) (n * C (n - 1) i) (x % m), fun σ' H'' hw => ⟨x % m, Nat.mod_lt _ (by omega), hw⟩, ?_⟩
        refine ⟨_, rfl, _, rfl, _, rfl, _, _, rfl, rfl, h0, _, _, rfl, m, x % m, ?_, rfl, ?_, rfl⟩
        · rw [Int.natCast_emod]
          rfl
        · rw [← hg, Nat.gcd_comm x m, Nat.gcd_rec m x, Nat.gcd_comm]
      · have h0 : m = 0 := by
          have h2 : ¬ (0 : Int) < (m : Int) := fun z => hb (decide_eq_true z)
          omega
        subst h0
        rw [Nat.gcd_zero_right] at hg
        subst hg
        have g0 : 0 < Nat.gcd (leastL n i) (n * C (n - 1) i) := Nat.gcd_pos_of_pos_right _ e0
        have g1 : Nat.gcd (leastL n i) (n * C (n - 1) i) ≤ n * C (n - 1) i := Nat.gcd_le_right _ e0
        refine ⟨_, rfl, _, rfl, _, _, rfl, rfl, .inr ⟨by omega, by omega⟩, _, rfl, _, _, rfl, rfl, _, rfl, n - 1, i, by dsimp only; rw [en]; rfl, by omega, by omega, _, _, rfl, rfl, .inr ⟨by omega, by omega⟩, _, rfl, _, _, rfl, rfl, wide_div (b := 64) (by omega) (by omega) (by decide) (by decide), some (.int (i : Int)), some (.int ((Nat.gcd (leastL n i) (n * C (n - 1) i) : Nat) : Int)), some (.int ((0 : Nat) : Int)), ?_, rfl⟩
        have es : leastL n (i + 1) = stepL (leastL n i) (n * C (n - 1) i) := rfl
        rw [es, ← step_alt L0, Int.natCast_ediv, Int.natCast_mul, Int.natCast_mul, Int.mul_assoc]
        rfl
    · rintro σ H2 ⟨v3, v4, v5, rfl, rfl⟩
      rw [Int.toNat_natCast]
      exact ⟨_, rfl, q⟩
end
/-! ### the law's own standard list -/
def spStdList (K : PySem.W.Frag) : Sp := fun vs H Q _ => ∃ n d c k : Nat, vs = [.int n, .int d, .int c, .int k] ∧ Std n d c ∧ k < c ∧ c < 2 ^ 500 ∧ ∀ H' t, Same H H' → SqT K H' t (setV (path n d c k).1) → Q (.ref t) H'
section
variable {P : Program} {w : World} {K : PySem.W.Frag} {mg : Str → Option Value} {base : Heap}
theorem ok_standardlist (T : Txt K mg) {j : Nat} : FnOk P w K mg base CX0 (j + 2) T.fStandardList T.fdStandardList ["_law_n", "_law_depth", "_law_count", "_law_number"] (spStdList K) := by
  refine T.FStandardList.ok scStandardList (fun vs H Q E h => ?_) (fun cdv A outer s H vs Q E hr h => ?_)
  · obtain ⟨n, d, c, k, rfl, _⟩ := h
    rfl
  · obtain ⟨n, d, c, k, rfl, st, hk, hc, q⟩ := h
    have hn := st.n60
    have hd := st.dn
    have h1 := st.n1
    refine ⟨_, pss_cons (ps_asg (pe_tup (pa_cons (pe_tup pa_nil) (pa_cons (pv 3) pa_nil))) (pg_tup rfl (pgs_cons (pg_name (i := 4) scStandardList.nd rfl (.inr rfl)) (pgs_cons (pg_name (i := 5) scStandardList.nd rfl (.inl rfl)) pgs_nil)))) (pss_cons (ps_for PassesOwn.never rfl (pi_range1 (by rfl) T.n_range (pa_cons (pv 1) pa_nil)) (pg_name (i := 6) scStandardList.nd rfl (.inl rfl)) (pss_cons (ps_set (i := 7) scStandardList.nd rfl (.inl rfl) (pe_op op_fdivW (pv 2) (pe_op op_mul (pv 0) (pe_call (ok_choose T) hr (by rfl) T.gChoose T.FChoose.kp T.bChoose .nil pass0 (pa_cons (pe_op op_sub (pv 0) pe_int) (pa_cons (pv 6) pa_nil)))))) (pss_cons (ps_setLc (i := 8) (own := [("_law_server", 9)]) (g := (gName 9)) rfl scStandardList.nd rfl rfl (sw_true rfl rfl rfl (by decide +kernel)) (pi_range1 (by rfl) T.n_range (pa_cons (pv 0) pa_nil)) (blkOk_by (own := [("_law_server", 9)]) (N := NStandardList) (sc := defScope sStandardList) (by decide +kernel)) (fun _ _ _ _ _ => (pg_name (i := 9) scStandardList.nd rfl (.inl rfl))) (fun _ _ _ _ _ => pts_one (pt_cmpR (op_notInK K) (pv 9) (pv 4) (by rfl))) (fun _ _ _ _ _ => (pv 9))) (pss_cons (ps_set (i := 4) scStandardList.nd rfl (.inr rfl) (pe_op (op_catS K) (pv 4) (pe_tup (pa_cons (pe_ix (ix_listK K) (pv 8) (pe_op op_fdivW (pv 5) (pv 7)) (fun _ _ => rfl)) pa_nil)))) (pss_one (ps_set (i := 5) scStandardList.nd rfl (.inl rfl) (pe_op op_add (pe_op op_mul (pv 7) (pe_bm PySem.F.plainAttrs_list PySem.F.slot_list_index PySem.F.type_list_index mt_index (pe_callB (cr_sortTI K) (by rfl) T.n_sorted (by decide +kernel) (pa_cons (pv 4) pa_nil)) (pa_cons (pe_ix (ix_tupK K) (pv 4) (pe_un un_neg pe_int) (fun _ _ => rfl)) pa_nil))) (pe_op op_mod (pv 5) (pv 7))))))))) (pss_one (ps_ret (pv 4)))), ?_⟩
    refine ⟨Nat.zero_le _, fun p0 n0 => ⟨_, rfl, (by show 2 ≤ sizeLine; decide), fun pt nt => ?_⟩⟩
    refine ⟨pt, _, rfl, SqT.of upd_same, rfl, _, _, rfl, _, _, rfl, rfl, ?_⟩
    have s0 : Same H (upd (upd H p0 (.tup [])) pt (.tup [V.ref p0, V.int (k : Int)])) := (same_new n0).trans (same_new nt)
    refine ⟨_, rfl, (d : Int), rfl, by omega, by omega, ?_⟩
    refine for_range (lo := 0) (n := (d : Int).toNat) (fun i σ H2 => ∃ (pre I L : List Nat) (r : Nat) (pf : Addr) (v6 v7 v8 : Option V), σ = [some (.int n), some (.int d), some (.int c), some (.int k), some (.ref pf), some (.int (r : Int)), v6, v7, v8, none] ∧ Same H H2 ∧ SqT K H2 pf (setV pre) ∧ Compl n I L ∧ I.Perm pre ∧ pre.length = i ∧ FolOk n c (List.range' i (d - i)) L r ∧ path n d c k = (pre ++ (fol n c (List.range' i (d - i)) L r).1, (fol n c (List.range' i (d - i)) L r).2)) ?_ ?_ ?_
    · exact ⟨[], [], List.range' 0 n, k, p0, none, none, none, rfl, s0, SqT.of (same_new nt _ _ upd_same), Compl.start n, List.Perm.refl _, rfl, path_ok st hk, rfl⟩
    · rintro i σ H2 hi ⟨pre, I, L, r, pf, v6, v7, v8, rfl, s2, hF, cp, pm, hpl, okk, hf⟩
      have hid : i < d := by omega
      have hin : i < n := by omega
      rw [Int.zero_add]
      rw [show d - i = (d - (i + 1)) + 1 by omega, List.range'_succ] at okk hf
      rw [fol_cons] at hf
      obtain ⟨w0, hix, hge, okk2⟩ := okk
      have en : (n : Int) - 1 = ((n - 1 : Nat) : Int) := by omega
      have e0 := edge_pos hin
      have e1 := edge_lt (d := i) hn
      have wc := wd_le n c i
      have c60 := C_60 (n - 1) i (by omega)
      have ec : ((n : Int) * (C (n - 1) i : Int)) = ((n * C (n - 1) i : Nat) : Int) := (Int.natCast_mul _ _).symm
      have hIl : I.length = i := by rw [pm.length_eq, hpl]
      refine ⟨_, rfl, _, rfl, _, rfl, _, _, rfl, rfl, _, rfl, n - 1, i, by dsimp only; rw [en]; rfl, by omega, by omega, _, _, rfl, rfl, .inl ⟨by omega, by omega⟩, _, _, rfl, rfl, ?_, ?_⟩
      · rw [ec]
        exact wide_div (b := 64) (by omega) (by omega) (by decide) (by decide)
      dsimp only [gName]
      rw [ec, ← Int.natCast_ediv, show c / (n * C (n - 1) i) = wd n c i from rfl]
      -- free
      refine ⟨_, rfl, (n : Int), rfl, by omega, by omega, fun D nD => ?_⟩
      refine lc_range (lo := 0) (fun z H3 => Same H2 H3 ∧ H3 D = some (.lst (setV ((List.range' 0 z).filter fun x => !decide (x ∈ pre))))) ⟨same_new nD, upd_same⟩ ?_ ?_
      · rintro z H3 hz ⟨s3, hD⟩
        rw [Int.zero_add]
        refine ⟨rfl, _, rfl, .ref pf, rfl, pf, _, rfl, .inr (Same.seqT s3 hF), rfl, setV_flat _, _, rfl, ?_⟩
        rw [inV_setV, if_pos rfl]
        refine ite2 (fun hb => ?_) (fun hb => ?_)
        · refine ⟨_, rfl, _, hD, ?_, keep_upd s3 nD, ?_⟩
          · rw [setV_len]
            refine small1000 (Nat.le_trans (List.length_filter_le _ _) ?_)
            rw [List.length_range']
            omega
          · rw [upd_same, fr_step, if_pos hb]
        · refine ⟨s3, ?_⟩
          rw [fr_step, if_neg hb, List.append_nil]
          exact hD
      · rintro H3 ⟨s3, hD⟩
        have efr : ((List.range' 0 n).filter fun x => !decide (x ∈ pre)) = L := by
          rw [← cp.free]
          refine List.filter_congr fun x _ => ?_
          congr 1
          exact decide_eq_decide.mpr pm.mem_iff.symm
        rw [Int.toNat_natCast, efr] at hD
        have hM2 := getD_of hix
        refine ⟨.ref pf, rfl, .ref D, rfl, _, rfl, _, rfl, _, _, rfl, rfl, wide_div (b := 500) (Int.ofNat_lt.mpr w0) (Nat.lt_of_le_of_lt wc hc) (by decide) (by decide), D, _, _, V.int ((L.getD (r / wd n c i) 0 : Nat) : Int), rfl, rfl, SqL.of hD, ?_, ?_⟩
        · rw [← Int.natCast_ediv]
          exact atI_nat (setV_at hM2)
        generalize r / wd n c i = ix at hix hge okk2 hf hM2
        generalize L.getD ix 0 = sv at hge okk2 hf hM2
        have hsv := (cp.mem sv).mp (List.mem_of_getElem? hM2)
        refine ⟨(by show 1 ≤ sizeLine; decide), fun t1 m1 => ?_⟩
        refine ⟨pf, t1, _, _, rfl, rfl, Same.seqT (s3.trans (same_new m1)) hF, SqT.of upd_same, ?_, fun t2 H4 s4 hT2 => ?_⟩
        · rw [setV_len]
          exact small1000 (show pre.length ≤ 1000 by omega)
        have hT2 : SqT K H4 t2 (setV (pre ++ [sv])) := by
          rw [setV_app]
          exact hT2
        have s34 : Same H3 H4 := (same_new (o := .tup [V.int (sv : Int)]) m1).trans s4
        have nd2 : (I ++ [sv]).Nodup := by
          refine List.nodup_append.mpr ⟨asc_nodup cp.aI, List.nodup_cons.mpr ⟨List.not_mem_nil, List.nodup_nil⟩, fun x hx y hy e => ?_⟩
          rw [List.mem_singleton.mp hy] at e
          rw [e] at hx
          exact hsv.2 hx
        have ps : (pre ++ [sv]).Perm (I ++ [sv]) := (pm.append_right _).symm
        refine ⟨_, rfl, .ref t2, rfl, t2, (pre ++ [sv]).map (fun (m : Nat) => (m : Int)), rfl, .inr (by rw [← setV_ints]; exact hT2), ?_, fun ns p2 hp2 hs2 np2 => ?_⟩
        · rw [List.length_map, List.length_append]
          show pre.length + 1 < 64
          omega
        obtain ⟨I2, rfl, pm2'⟩ := ints_back hp2
        rw [← setV_ints]
        have pm2 : I2.Perm (I ++ [sv]) := pm2'.trans ps
        have as2 := lt_of_le (le_back hs2) (pm2.nodup_iff.mpr nd2)
        obtain ⟨j2, hj2⟩ := List.getElem?_of_mem (pm2.mem_iff.mpr (List.mem_append_right _ (List.mem_singleton_self sv)))
        have hjx := cp.index hM2 pm2 as2 hj2
        have j60 : j2 < 64 := by
          have := (List.getElem?_eq_some_iff.mp hj2).1
          rw [pm2.length_eq, List.length_append] at this
          have : [sv].length = 1 := rfl
          omega
        have s45 := same_new (o := .lst (setV I2)) np2
        refine ⟨.inl ⟨rfl, _, SqL.of upd_same⟩, .ref t2, rfl, _, rfl, t2, _, _, V.int (sv : Int), rfl, rfl, Same.seqT s45 hT2, ?_, p2, _, _, j2, _, rfl, rfl, SqL.of upd_same, rfl, setV_flat _, setV_at hj2, beq_self_eq_true (sv : Int), fun m z hm hz => ?_, ?_⟩
        · rw [setV_app]
          exact L2.atI_last _ _
        · obtain ⟨y, hy, rfl⟩ := setV_get hz
          refine beq_eq_false_iff_ne.mpr fun e => ?_
          have e2 : y = sv := by omega
          rw [e2] at hy
          have := nodup_inj (asc_nodup as2) hy hj2
          omega
        refine ⟨_, _, rfl, rfl, .inr ⟨by omega, by omega⟩, _, rfl, _, rfl, _, _, rfl, rfl, Int.ofNat_lt.mpr w0, _, _, rfl, rfl, ?_⟩
        refine ⟨pre ++ [sv], I2, L.eraseIdx ix, wd n c i * (sv - ix) + r % wd n c i, t2, some (.int (i : Int)), some (.int (wd n c i : Nat)), some (.ref D), ?_, (s2.trans s3).trans (s34.trans s45), Same.seqT s45 hT2, cp.next hM2 pm2 as2, pm2', ?_, okk2, ?_⟩
        · have ej : j2 = sv - ix := by omega
          rw [Int.natCast_add, Int.natCast_mul, ← ej, Int.natCast_emod]
          rfl
        · rw [List.length_append, hpl]
          rfl
        · rw [hf, List.append_assoc]
          rfl
    · rintro σ H2 ⟨pre, I, L, r, pf, v6, v7, v8, rfl, s2, hF, cp, pm, hpl, okk, hf⟩
      rw [Int.toNat_natCast, Nat.sub_self] at hf
      have hf2 : path n d c k = (pre ++ [], r) := hf
      rw [List.append_nil] at hf2
      rw [hf2] at q
      exact ⟨.ref pf, rfl, q _ pf s2 hF⟩
end
/-! ### the law's own standard table -/
def spStandard (K : PySem.W.Frag) : Sp := fun vs H Q _ => ∃ n d c : Nat, vs = [.int n, .int d, .int c] ∧ Std n d c ∧ c ≤ 5000 ∧ ∀ H' u, Same H H' → TabAt K H' u (stdRows n d c) → Q (.ref u) H'
section
variable {P : Program} {w : World} {K : PySem.W.Frag} {mg : Str → Option Value} {base : Heap}
theorem ok_standard (T : Txt K mg) {j : Nat} : FnOk P w K mg base CX0 (j + 3) T.fStandard T.fdStandard ["_law_n", "_law_depth", "_law_count"] (spStandard K) := by
  refine T.FStandard.ok scStandard (fun vs H Q E h => ?_) (fun cdv A outer s H vs Q E hr h => ?_)
  · obtain ⟨n, d, c, rfl, _⟩ := h
    rfl
  · obtain ⟨n, d, c, rfl, st, hc, q⟩ := h
    have hc5 : c < 2 ^ 500 := Nat.lt_of_le_of_lt hc (by decide +kernel)
    refine ⟨_, pss_one (ps_ret (pe_callTy (call_tupleK K) (by rfl) T.n_tuple (by decide +kernel) (pa_cons (pe_lc (own := [("_law_number", 3)]) (g := (gName 3)) (tt := tYes) rfl scStandard.nd (pi_range1 (by rfl) T.n_range (pa_cons (pv 2) pa_nil)) (blkOk_by (own := [("_law_number", 3)]) (N := NStandard) (sc := defScope sStandard) (by decide +kernel)) (fun _ _ _ _ _ => (pg_name (i := 3) scStandard.nd rfl (.inl rfl))) (fun _ _ _ _ _ => pts_nil) (fun _ _ _ _ _ => (pe_call (ok_standardlist T) hr (by rfl) T.gStandardList T.FStandardList.kp T.bStandardList .nil pass0 (pa_cons (pv 0) (pa_cons (pv 1) (pa_cons (pv 2) (pa_cons (pv 3) pa_nil))))))) pa_nil))), ?_⟩
    refine ⟨_, rfl, (c : Int), rfl, by omega, by omega, fun D nD => ?_⟩
    refine lc_range (lo := 0) (fun z H3 => ∃ ts : List V, Same H H3 ∧ H3 D = some (.lst ts) ∧ ts.length = z ∧ PySem.Paired (fun v ms => ∃ t, v = V.ref t ∧ SqT K H3 t (setV ms)) ts ((List.range z).map fun k => (path n d c k).1)) ⟨[], same_new nD, upd_same, rfl, .nil⟩ ?_ ?_
    · rintro z H3 hz ⟨ts, s3, hD, hl, pr⟩
      rw [Int.zero_add]
      refine ⟨rfl, _, rfl, _, rfl, _, rfl, _, rfl, n, d, c, z, rfl, st, by omega, hc5, fun H4 t s4 ht => ?_⟩
      have hD4 := s4 _ _ hD
      refine ⟨_, hD4, ?_, ts ++ [V.ref t], keep_upd (s3.trans s4) nD, upd_same, by rw [List.length_append, hl]; rfl, ?_⟩
      · rw [sizeLine_eq]
        omega
      rw [List.range_succ, List.map_append]
      refine paired_app (PySem.Paired.mono (fun v ms hz => ?_) pr) (.cons ⟨t, rfl, SqT_updL ht hD4⟩ .nil)
      obtain ⟨t', e1, e2⟩ := hz
      exact ⟨t', e1, SqT_updL (Same.seqT s4 e2) hD4⟩
    · rintro H3 ⟨ts, s3, hD, hl, pr⟩
      rw [Int.toNat_natCast] at pr
      refine ⟨D, _, rfl, .inl ⟨SqL.of hD, fun u nu => ?_⟩⟩
      refine q _ u (s3.trans (same_new nu)) ⟨ts, SqT.of upd_same, PySem.Paired.mono (fun v ms hz => ?_) pr⟩
      obtain ⟨t, e1, e2⟩ := hz
      exact ⟨t, e1, Same.seqT (same_new nu) e2⟩
end
/-! ### all lists of a depth -/
theorem RowsL.updL {K : PySem.W.Frag} {H : Hp} {D : Addr} {ts ys : List V} {rows : List (List Nat)} {o : HO} (h : RowsL K H ts rows) (hD : H D = some (.lst ys)) : RowsL K (upd H D o) ts rows := PySem.Paired.mono (fun v ms ⟨t, e, z⟩ => ⟨t, e, SqT_updL z hD⟩) h
def moreL (n : Nat) (r : List Nat) : List (List Nat) := ((List.range n).filter fun s => !decide (s ∈ r)).map fun s => r ++ [s]
def allL (n : Nat) : Nat → List (List Nat)
  | 0 => [[]]
  | d + 1 => (allL n d).flatMap (moreL n)
theorem allL_good (n : Nat) : ∀ d, ∀ r ∈ allL n d, r.length = d ∧ r.Nodup ∧ ∀ x ∈ r, x < n
  | 0, r, hr => by
    rw [List.mem_singleton.mp hr]
    exact ⟨rfl, List.nodup_nil, fun x hx => absurd hx List.not_mem_nil⟩
  | d + 1, r, hr => by
    obtain ⟨q, hq, hr⟩ := List.mem_flatMap.mp hr
    obtain ⟨h1, h2, h3⟩ := allL_good n d q hq
    obtain ⟨s, hs, rfl⟩ := List.mem_map.mp hr
    obtain ⟨hs1, hs2⟩ := List.mem_filter.mp hs
    have hs3 : s ∉ q := by simpa using hs2
    refine ⟨by rw [List.length_append, h1]; rfl, ?_, fun x hx => ?_⟩
    · refine List.nodup_append.mpr ⟨h2, List.nodup_cons.mpr ⟨List.not_mem_nil, List.nodup_nil⟩, fun a ha b hb e => ?_⟩
      rw [List.mem_singleton.mp hb] at e
      exact hs3 (e ▸ ha)
    · rcases List.mem_append.mp hx with hx | hx
      · exact h3 x hx
      · rw [List.mem_singleton.mp hx]
        exact List.mem_range.mp hs1
theorem allL_small : ∀ n, n ≤ 4 → ∀ d, d ≤ n → (allL n d).length ≤ 24 ∧ allL n d ≠ [] := by decide +kernel
def spAllL (K : PySem.W.Frag) : Sp := fun vs H Q _ => ∃ n d : Nat, vs = [.int n, .int d] ∧ n ≤ 60 ∧ d ≤ 60 ∧ (∀ e, e ≤ d → (allL n e).length ≤ 5000) ∧ ∀ H' p ts, Same H H' → H p = none → H' p = some (.lst ts) → RowsL K H' ts (allL n d) → Q (.ref p) H'
theorem flat_le {α β : Type} (f : α → List β) : ∀ (l : List α) (i : Nat), ((l.take i).flatMap f).length ≤ (l.flatMap f).length
  | [], i => by rw [List.take_nil]; exact Nat.le_refl _
  | a :: l, 0 => Nat.zero_le _
  | a :: l, i + 1 => by
    rw [List.take_succ_cons, List.flatMap_cons, List.flatMap_cons, List.length_append, List.length_append]
    have := flat_le f l i
    omega
theorem flat_step {α β : Type} {f : α → List β} {l : List α} {i : Nat} {a : α} (h : l[i]? = some a) : (l.take (i + 1)).flatMap f = (l.take i).flatMap f ++ f a := by
  rw [List.take_add_one, h, List.flatMap_append]
  show _ ++ [a].flatMap f = _
  rw [List.flatMap_cons, List.flatMap_nil, List.append_nil]
section
variable {P : Program} {w : World} {K : PySem.W.Frag} {mg : Str → Option Value} {base : Heap}
theorem ok_alllists (T : Txt K mg) {j : Nat} : FnOk P w K mg base CX0 (j + 1) T.fAllLists T.fdAllLists ["_law_n", "_law_depth"] (spAllL K) := by
  refine T.FAllLists.ok scAllLists (fun vs H Q E h => ?_) (fun cdv A outer s H vs Q E hr h => ?_)
  · obtain ⟨n, d, rfl, _⟩ := h
    rfl
  · obtain ⟨n, d, rfl, hn, hd, hb, q⟩ := h
    refine ⟨_, pss_cons (ps_set (i := 2) scAllLists.nd rfl (.inl rfl) (pe_lst (pa_cons (pe_tup pa_nil) pa_nil))) (pss_cons (ps_for PassesOwn.never rfl (pi_range1 (by rfl) T.n_range (pa_cons (pv 1) pa_nil)) (pg_name (i := 3) scAllLists.nd rfl (.inl rfl)) (pss_cons (ps_set (i := 4) scAllLists.nd rfl (.inl rfl) (pe_lst pa_nil)) (pss_cons (ps_for PassesOwn.never rfl (pi_list (pv 2)) (pg_name (i := 5) scAllLists.nd rfl (.inr rfl)) (pss_one (ps_expr (pe_bm PySem.F.plainAttrs_list PySem.F.slot_list_extend PySem.F.type_list_extend mt_extend (pv 4) (pa_cons (pe_lc (own := [("_law_server", 6)]) (g := (gName 6)) rfl scAllLists.nd (pi_range1 (by rfl) T.n_range (pa_cons (pv 0) pa_nil)) (blkOk_by (own := [("_law_server", 6)]) (N := NAllLists) (sc := defScope sAllLists) (by decide +kernel)) (fun _ _ _ _ _ => (pg_name (i := 6) scAllLists.nd rfl (.inl rfl))) (fun _ _ _ _ _ => pts_one (pt_cmpR (op_notInK K) (pv 6) (pv 5) (by rfl))) (fun _ _ _ _ _ => (pe_op (op_catS K) (pv 5) (pe_tup (pa_cons (pv 6) pa_nil))))) pa_nil))))) (pss_one (ps_set (i := 2) scAllLists.nd rfl (.inl rfl) (pv 4)))))) (pss_one (ps_ret (pv 2)))), ?_⟩
    refine ⟨by show 0 ≤ sizeLine; decide, fun t0 nt0 => ⟨by show 1 ≤ sizeLine; decide, fun p0 np0 => ?_⟩⟩
    refine ⟨_, rfl, (d : Int), rfl, by omega, by omega, ?_⟩
    have s0 := (same_new (o := .tup []) nt0).trans (same_new (o := .lst [V.ref t0]) np0)
    refine for_range (lo := 0) (n := (d : Int).toNat) (fun i σ H2 => ∃ (p : Addr) (ts : List V) (v3 v4 v5 : Option V), σ = [some (.int n), some (.int d), some (.ref p), v3, v4, v5, none] ∧ Same H H2 ∧ H p = none ∧ H2 p = some (.lst ts) ∧ RowsL K H2 ts (allL n i)) ⟨p0, [.ref t0], none, none, none, rfl, s0, (same_new nt0).free np0, upd_same, .cons ⟨t0, rfl, SqT.of (by rw [upd_ne (ne_of_none upd_same np0), upd_same]; rfl)⟩ .nil⟩ ?_ ?_
    · rintro i σ H2 hi ⟨p, ts, v3, v4, v5, rfl, s2, np, hp, r2⟩
      have hid : i < d := by omega
      have b1 := hb i (by omega)
      have b2 := hb (i + 1) (by omega)
      rw [Int.zero_add]
      refine ⟨Nat.zero_le _, fun pl npl => ?_⟩
      have sl := same_new (o := .lst []) npl
      refine ⟨.ref p, rfl, p, rfl, ⟨_, SqL.of (sl _ _ hp)⟩, for_list (K := K) (a := p) (xs := ts) (fun z σ H3 => ∃ (acc : List V) (v5 : Option V), σ = [some (.int n), some (.int d), some (.ref p), some (.int (i : Int)), some (.ref pl), v5, none] ∧ Same H2 H3 ∧ H3 pl = some (.lst acc) ∧ RowsL K H3 acc (((allL n i).take z).flatMap (moreL n))) ⟨[], v5, rfl, sl, upd_same, .nil⟩ (fun z σ H3 _ ⟨_, _, _, s3, _⟩ => SqL.of (s3 _ _ hp)) ?_ ?_⟩
      · rintro z v σ H3 hz ⟨acc, v5, rfl, s3, hA, r3⟩
        obtain ⟨ms, hms, t, rfl, hT⟩ := (r2.same s3).at hz
        refine ⟨.ref pl, rfl, .inl ⟨rfl, _, SqL.of hA⟩, ?_⟩
        refine ⟨_, rfl, (n : Int), rfl, by omega, by omega, fun D nD => ?_⟩
        refine lc_range (lo := 0) (fun y H4 => ∃ us, Same H3 H4 ∧ H4 D = some (.lst us) ∧ RowsL K H4 us (((List.range y).filter fun s => !decide (s ∈ ms)).map fun s => ms ++ [s])) ⟨[], same_new nD, upd_same, .nil⟩ ?_ ?_
        · rintro y H4 hy ⟨us, s4, hD, r4⟩
          rw [Int.zero_add]
          refine ⟨rfl, _, rfl, .ref t, rfl, t, _, rfl, .inr (Same.seqT s4 hT), rfl, setV_flat _, _, rfl, ?_⟩
          rw [inV_setV, if_pos rfl]
          rw [List.range_succ, List.filter_append, List.map_append]
          refine ite2 (fun h => ?_) (fun h => ?_)
          · rw [List.filter_cons_of_pos (by simpa using h)]
            refine ⟨.ref t, rfl, _, rfl, by show 1 ≤ sizeLine; decide, fun t1 nt1 => ?_⟩
            have s5 := same_new (o := .tup [V.int (y : Int)]) nt1
            have hul := r4.len
            rw [List.length_map] at hul
            have hul2 := List.length_filter_le (fun s => !decide (s ∈ ms)) (List.range y)
            rw [List.length_range] at hul2
            refine ⟨t, t1, _, _, rfl, rfl, Same.seqT (s4.trans s5) hT, SqT.of upd_same, ?_, fun t2 H5 s6 hT2 => ?_⟩
            · rw [setV_len, (allL_good n i ms (List.mem_of_getElem? hms)).1]
              exact small1000 (show i ≤ 1000 by omega)
            refine ⟨us, s6 _ _ (s5 _ _ hD), small1000 (by omega), us ++ [.ref t2], keep_upd ((s4.trans s5).trans s6) nD, upd_same, ?_⟩
            have hD5 := s6 _ _ (s5 _ _ hD)
            refine RowsL.app ((r4.same (s5.trans s6)).updL hD5) (.cons ⟨t2, rfl, SqT_updL ?_ hD5⟩ .nil)
            rw [setV_app]
            exact hT2
          · rw [List.filter_cons_of_neg (by simpa using h)]
            exact ⟨us, s4, hD, by rw [List.filter_nil, List.map_nil, List.append_nil]; exact r4⟩
        · rintro H4 ⟨us, s4, hD, r4⟩
          rw [Int.toNat_natCast] at r4
          have hA4 := s4 _ _ hA
          have hl1 := (r3.len).symm
          have hl2 := (r4.len).symm
          have fs := flat_step (f := moreL n) hms
          have fb := flat_le (moreL n) (allL n i) (z + 1)
          rw [fs, List.length_append] at fb
          have fb2 : ((allL n i).flatMap (moreL n)).length ≤ 5000 := b2
          have e4 : (moreL n ms).length = us.length := hl2
          refine ⟨pl, D, _, _, rfl, rfl, hA4, hD, ?_, acc ++ us, some (.ref t), rfl, keep_upd (s3.trans s4) npl, upd_same, ?_⟩
          · rw [sizeLine_eq]
            omega
          · rw [fs]
            exact RowsL.app ((r3.same s4).updL hA4) (r4.updL hA4)
      · rintro σ H3 ⟨acc, v5, rfl, s3, hA, r3⟩
        rw [r2.len, List.take_length] at r3
        exact ⟨.ref pl, rfl, pl, acc, _, _, _, rfl, s2.trans s3, s2.free npl, hA, r3⟩
    · rintro σ H2 ⟨p, ts, v3, v4, v5, rfl, s2, np, hp, r2⟩
      rw [Int.toNat_natCast] at r2
      exact ⟨.ref p, rfl, q _ p ts s2 np hp r2⟩
end
/-! ### a table with one list changed, one more or one less -/
theorem RowsL.but {K : PySem.W.Frag} {H H' : Hp} {p : Addr} {m : Nat} {ts : List V} {rows : List (List Nat)} (h : RowsL K H ts rows) (hp : PotAt H p m) (b : But p H H') : RowsL K H' ts rows := by
  obtain ⟨ys, e⟩ := hp.lst
  exact PySem.Paired.mono (fun v ms ⟨t, e1, z⟩ => ⟨t, e1, SqT_but z e b⟩) h
theorem RowsL.set {K : PySem.W.Frag} {H : Hp} {t : Addr} {ms : List Nat} (ht : SqT K H t (setV ms)) : ∀ {ts : List V} {rows : List (List Nat)} (i : Nat), RowsL K H ts rows → RowsL K H (ts.set i (.ref t)) (rows.set i ms)
  | [], [], _, _ => .nil
  | _ :: _, _ :: _, 0, .cons _ r => .cons ⟨t, rfl, ht⟩ r
  | _ :: _, _ :: _, i + 1, .cons a r => .cons a (RowsL.set ht i r)
theorem RowsL.erase {K : PySem.W.Frag} {H : Hp} : ∀ {ts : List V} {rows : List (List Nat)} (i : Nat), RowsL K H ts rows → RowsL K H (ts.eraseIdx i) (rows.eraseIdx i)
  | [], [], _, _ => .nil
  | _ :: _, _ :: _, 0, .cons _ r => r
  | _ :: _, _ :: _, i + 1, .cons a r => .cons a (RowsL.erase i r)
theorem Good.set {n d : Nat} {rows : List (List Nat)} {i : Nat} {ms : List Nat} (h : Good n d rows) (hm : ms.length = d ∧ ms.Nodup ∧ ∀ x ∈ ms, x < n) : Good n d (rows.set i ms) := by
  refine ⟨fun e => h.1 ?_, fun r hr => ?_⟩
  · have := congrArg List.length e
    rw [List.length_set] at this
    exact List.length_eq_zero_iff.mp this
  · rcases List.mem_or_eq_of_mem_set hr with hr | rfl
    · exact h.2 r hr
    · exact hm
theorem Good.app {n d : Nat} {rows : List (List Nat)} {ms : List Nat} (h : Good n d rows) (hm : ms.length = d ∧ ms.Nodup ∧ ∀ x ∈ ms, x < n) : Good n d (rows ++ [ms]) := by
  refine ⟨fun e => h.1 (List.append_eq_nil_iff.mp e).1, fun r hr => ?_⟩
  rcases List.mem_append.mp hr with hr | hr
  · exact h.2 r hr
  · rw [List.mem_singleton.mp hr]
    exact hm
theorem Good.erase {n d : Nat} {rows : List (List Nat)} {i : Nat} (h : Good n d rows) (h2 : 2 ≤ rows.length) : Good n d (rows.eraseIdx i) := by
  refine ⟨fun e => ?_, fun r hr => h.2 r (List.mem_of_mem_eraseIdx hr)⟩
  have h3 : (rows.eraseIdx i).length = 0 := by rw [e]; rfl
  rw [List.length_eraseIdx] at h3
  split at h3 <;> omega
/-- d of n servers in a drawn order -/
theorem drawn_good {n d : Nat} {ks : List Nat} (hp : ks.Perm (List.range' 0 n)) (hd : d ≤ n) : (ks.take d).length = d ∧ (ks.take d).Nodup ∧ ∀ x ∈ ks.take d, x < n := by
  refine ⟨?_, (hp.nodup_iff.mpr (asc_nodup (asc_range' n 0))).sublist (List.take_sublist _ _), fun x hx => mem_range0.mp (hp.mem_iff.mp (List.mem_of_mem_take hx))⟩
  rw [List.length_take, hp.length_eq, List.length_range']
  omega
theorem ixn_nat {n k : Nat} (h : k < n) : ixN n (k : Int) = some k := by
  unfold ixN
  rw [if_pos (by omega), if_pos (by omega), Int.toNat_natCast]
theorem but_upd {p q : Addr} {H H1 : Hp} {o : HO} (s : But p H H1) (h : H q = none) : But p H (L2.upd H1 q o) := but_new s h
def spSpoiled (K : PySem.W.Frag) : Sp := fun vs H Q _ => ∃ (p a : Addr) (m n d : Nat) (ts : List V) (rows : List (List Nat)), vs = [.ref p, .int n, .ref a] ∧ PotAt H p m ∧ m ≤ 50000 ∧ 2 ≤ n ∧ n ≤ 60 ∧ 1 ≤ d ∧ d ≤ n ∧ H a = some (.lst ts) ∧ a ≠ p ∧ RowsL K H ts rows ∧ Good n d rows ∧ rows.length ≤ 900 ∧
  ∀ H' q ts' rows', But p H H' → H q = none → H' q = some (.lst ts') → RowsL K H' ts' rows' → Good n d rows' → rows'.length ≤ rows.length + 1 → PotAt H' p (m + 100) → Q (.ref q) H'
section
variable {P : Program} {w : World} {K : PySem.W.Frag} {mg : Str → Option Value} {base : Heap}
theorem ok_spoiled (T : Txt K mg) {j : Nat} : FnOk P w K mg base CX0 (j + 5) T.fSpoiled T.fdSpoiled ["_law_pot_here", "_law_n", "_law_rows_here"] (spSpoiled K) := by
  refine T.FSpoiled.ok scSpoiled (fun vs H Q E h => ?_) (fun cdv A outer s H vs Q E hr h => ?_)
  · obtain ⟨p, a, m, n, d, ts, rows, rfl, _⟩ := h
    rfl
  · obtain ⟨p, a, m, n, d, ts, rows, rfl, P0, hm, hn1, hn, hd1, hd, hA, hap, R0, G0, hl, q⟩ := h
    refine ⟨_, pss_cons (ps_par3 (i := 3) (j := 4) (l := 5) rfl scSpoiled.nd rfl rfl rfl (by decide) (by decide) (by decide) rfl rfl rfl (pa_cons (pe_call (ok_take T) hr (by rfl) T.gTake T.FTake.kp T.bTake .nil pass0 (pa_cons (pv 0) (pa_cons pe_int pa_nil))) (pa_cons (pe_call (ok_take T) hr (by rfl) T.gTake T.FTake.kp T.bTake .nil pass0 (pa_cons (pv 0) (pa_cons (pe_callB (call_lenK K) (by rfl) T.n_len PySem.boot_len (pa_cons (pv 2) pa_nil)) pa_nil))) (pa_cons (pe_callTy (call_listK K) (by rfl) T.n_list (by decide +kernel) (pa_cons (pv 2) pa_nil)) pa_nil))) (by rfl)) (pss_cons (ps_set (i := 6) scSpoiled.nd rfl (.inl rfl) (pe_ix (ix_listK K) (pv 5) (pv 4) (fun _ _ => rfl))) (C8.pss_cut (ps_par (i := 7) (j := 8) rfl scSpoiled.nd rfl rfl (by decide) rfl rfl (pa_cons (pe_call (ok_take T) hr (by rfl) T.gTake T.FTake.kp T.bTake .nil pass0 (pa_cons (pv 0) (pa_cons (pe_callB (call_lenK K) (by rfl) T.n_len PySem.boot_len (pa_cons (pv 6) pa_nil)) pa_nil))) (pa_cons (pe_call (ok_take T) hr (by rfl) T.gTake T.FTake.kp T.bTake .nil pass0 (pa_cons (pv 0) (pa_cons (pe_callB (call_lenK K) (by rfl) T.n_len PySem.boot_len (pa_cons (pv 6) pa_nil)) pa_nil))) pa_nil)) (by rfl)) (C8.pss_cut (ps_if (pt_cmpR op_eq (pv 3) pe_int (nomark _)) (pss_one (ps_asg (pe_callTy (call_tupleK K) (by rfl) T.n_tuple (by decide +kernel) (pa_cons (pe_slice sl_list (pe_call (ok_mixed T) hr (by rfl) T.gMixed T.FMixed.kp T.bMixed .nil pass0 (pa_cons (pv 0) (pa_cons (pe_listRg rfl (by rfl) T.n_list (prg_1 (by rfl) T.n_range (pv 1))) pa_nil))) po_none (po_some (pe_callB (call_lenK K) (by rfl) T.n_len PySem.boot_len (pa_cons (pv 6) pa_nil)))) pa_nil)) (pg_sub (pv 5) (pv 4) set_list))) (pss_one (ps_if (pt_cmpR op_eq (pv 3) pe_int (nomark _)) (pss_cons (ps_set (i := 9) scSpoiled.nd rfl (.inl rfl) (pe_callTy (call_listK K) (by rfl) T.n_list (by decide +kernel) (pa_cons (pv 6) pa_nil))) (pss_cons (ps_asg (pe_tup (pa_cons (pe_ix (ix_tupK K) (pv 6) (pv 8) (fun _ _ => rfl)) (pa_cons (pe_ix (ix_tupK K) (pv 6) (pv 7) (fun _ _ => rfl)) pa_nil))) (pg_tup rfl (pgs_cons (pg_sub (pv 9) (pv 7) set_list) (pgs_cons (pg_sub (pv 9) (pv 8) set_list) pgs_nil)))) (pss_one (ps_asg (pe_callTy (call_tupleK K) (by rfl) T.n_tuple (by decide +kernel) (pa_cons (pv 9) pa_nil)) (pg_sub (pv 5) (pv 4) set_list))))) (pss_one (ps_if (PW.pt (pw_or (pt_cmpR op_eq (pv 3) pe_int (nomark _)) (pw_or1 (pt_cmpR op_eq (pe_callB (call_lenK K) (by rfl) T.n_len PySem.boot_len (pa_cons (pv 5) pa_nil)) pe_int (nomark _))))) (pss_one (ps_expr (pe_bm PySem.F.plainAttrs_list PySem.F.slot_list_append PySem.F.type_list_append mt_append (pv 5) (pa_cons (pv 6) pa_nil)))) (pss_one (ps_expr (pe_bm PySem.F.plainAttrs_list PySem.F.slot_list_pop PySem.F.type_list_pop mt_popAt (pv 5) (pa_cons (pv 4) pa_nil))))))))) (pss_one (ps_ret (pv 5)))))), ?_⟩
    have hl0 : 1 ≤ rows.length := by
      have := G0.1
      cases e : rows with
      | nil => exact absurd e this
      | cons x y => show 1 ≤ y.length + 1; omega
    refine ⟨.ref p, rfl, p, _, 4, rfl, P0, by omega, by decide, by decide +kernel, fun r1 H1 r10 r1l P1 B1 => ?_⟩
    have hA1 := B1 _ _ hap hA
    refine ⟨.ref p, rfl, .ref a, rfl, a, _, rfl, .inl (SqL.of hA1), p, _, _, rfl, P1, by omega, ?_, ?_, fun r2 H2 r20 r2l P2 B2 => ?_⟩
    · rw [R0.len]
      omega
    · rw [R0.len]
      exact Int.lt_trans (show ((rows.length : Nat) : Int) < 1000 by omega) (by decide +kernel)
    have hA2 := B2 _ _ hap hA1
    refine ⟨.ref a, rfl, a, _, rfl, .inl (SqL.of hA2), fun pl npl => ⟨_, _, _, rfl, ?_⟩⟩
    obtain ⟨at0, rfl⟩ := Int.eq_ofNat_of_zero_le r20
    rw [R0.len] at r2l
    have s3 := same_new (o := .lst ts) npl
    have P3 := P2.same s3
    have C3 : But p H (upd H2 pl (.lst ts)) := (B1.trans B2).same s3
    have R3 := ((R0.but P0 B1).but P1 B2).same s3
    have hpl3 : (upd H2 pl (.lst ts)) pl = some (.lst ts) := upd_same
    have hplp : pl ≠ p := (P2.ne npl).symm
    have fpl : H pl = none := Classical.byContradiction fun z => by
      cases e : H pl with
      | none => exact z e
      | some o =>
        have := (B1.trans B2) pl o hplp e
        rw [npl] at this
        cases this
    generalize upd H2 pl (.lst ts) = H3 at s3 P3 C3 R3 hpl3
    have hat : at0 < ts.length := by
      rw [R0.len]
      omega
    obtain ⟨ms, hms, t, et, hT⟩ := R3.at (List.getElem?_eq_getElem hat)
    have gms := G0.2 ms (List.mem_of_getElem? hms)
    refine ⟨.ref pl, rfl, _, rfl, pl, _, _, _, rfl, rfl, SqL.of hpl3, atI_nat (List.getElem?_eq_getElem hat), ?_⟩
    dsimp only [gName]
    rw [et]
    -- one, other
    refine ⟨fun σ H4 => ∃ x y : Nat, x < d ∧ y < d ∧ σ = [some (.ref p), some (.int n), some (.ref a), some (.int r1), some (.int (at0 : Int)), some (.ref pl), some (.ref t), some (.int (x : Int)), some (.int (y : Int)), none] ∧ PotAt H4 p (m + 4) ∧ But p H3 H4, ?_, ?_⟩
    · refine ⟨.ref p, rfl, .ref t, rfl, t, _, rfl, .inr hT, p, _, _, rfl, P3, by omega, ?_, ?_, fun r3 H4 r30 r3l P4 B4 => ?_⟩
      · rw [setV_len, gms.1]
        omega
      · rw [setV_len, gms.1]
        exact Int.lt_trans (show (d : Int) < 1000 by omega) (by decide +kernel)
      have hT4 := SqT_but hT P3.lst.choose_spec B4
      refine ⟨.ref p, rfl, .ref t, rfl, t, _, rfl, .inr hT4, p, _, _, rfl, P4, by omega, ?_, ?_, fun r4 H5 r40 r4l P5 B5 => ?_⟩
      · rw [setV_len, gms.1]
        omega
      · rw [setV_len, gms.1]
        exact Int.lt_trans (show (d : Int) < 1000 by omega) (by decide +kernel)
      obtain ⟨x, rfl⟩ := Int.eq_ofNat_of_zero_le r30
      obtain ⟨y, rfl⟩ := Int.eq_ofNat_of_zero_le r40
      rw [setV_len, gms.1] at r3l r4l
      exact ⟨_, _, rfl, x, y, by omega, by omega, rfl, P5, B4.trans B5⟩
    rintro σ H4 ⟨x, y, hx, hy, rfl, P4, B4⟩
    have hpl4 := B4 _ _ hplp hpl3
    have hT4 := SqT_but hT P3.lst.choose_spec B4
    have R4 := R3.but P3 B4
    have C4 := C3.trans B4
    refine ⟨fun σ H5 => ∃ (ts' : List V) (rows' : List (List Nat)) (v : Option V), σ = [some (.ref p), some (.int n), some (.ref a), some (.int r1), some (.int (at0 : Int)), some (.ref pl), some (.ref t), some (.int (x : Int)), some (.int (y : Int)), v] ∧ H5 pl = some (.lst ts') ∧ RowsL K H5 ts' rows' ∧ Good n d rows' ∧ rows'.length ≤ rows.length + 1 ∧ PotAt H5 p (m + 100) ∧ But p H H5, ?_, ?_⟩
    · refine ⟨_, rfl, rfl, _, rfl, ?_⟩
      dsimp only
      refine ite2 (fun h => ?_) (fun h => ?_)
      · refine ⟨.ref p, rfl, _, rfl, _, rfl, .of_le (by omega) (by omega) (by omega) (by omega), fun pe npe => ?_⟩
        rw [setV_range]
        have se := same_new (o := .lst (setV (List.range' 0 n))) npe
        refine ⟨p, _, pe, _, rfl, P4.same se, by omega, .inl (SqL.of upd_same), by rw [setV_len, List.length_range']; omega, Els.set (fun x hx => by have := mem_range0.mp hx; omega), fun H7 q7 ys B7 n7 h7 pm P7 => ?_⟩
        obtain ⟨ks, rfl, pk⟩ := perm_setV pm
        have B47 : But p H4 H7 := fun b o nb e => B7 b o nb (se b o e)
        have hT7 := SqT_but hT4 P4.lst.choose_spec B47
        rw [setV_len, List.length_range'] at P7
        have hpl7 := B47 _ _ hplp hpl4
        refine ⟨.ref t, rfl, t, _, rfl, .inr hT7, _, rfl, q7, _, rfl, SqL.of h7, fun q9 n9 => ?_⟩
        rw [setV_len, gms.1, cut_take]
        refine ⟨q9, _, rfl, .inl ⟨SqL.of upd_same, fun t9 nt9 => ?_⟩⟩
        have s9 := (same_new (o := .lst (setV (ks.take d))) n9).trans (same_new (o := .tup (setV (ks.take d))) nt9)
        have hT9 : (upd (upd H7 q9 (.lst (setV (ks.take d)))) t9 (.tup (setV (ks.take d)))) t9 = some (.tup (setV (ks.take d))) := upd_same
        have gk := drawn_good (d := d) pk hd
        have R9 := (R4.but P4 B47).same s9
        have hpl9 := s9 _ _ hpl7
        have P9 := P7.same s9
        have C9 := (C4.trans B47).same s9
        generalize upd (upd H7 q9 (.lst (setV (ks.take d)))) t9 (.tup (setV (ks.take d))) = H9 at s9 hT9 R9 hpl9 P9 C9
        refine ⟨.ref pl, rfl, _, rfl, pl, ts, _, at0, rfl, rfl, hpl9, ixn_nat hat, ts.set at0 (.ref t9), rows.set at0 (ks.take d), none, rfl, upd_same, ?_, G0.set gk, by rw [List.length_set]; omega, (P9.upd hplp.symm).mono (by omega), but_upd C9 fpl⟩
        exact (RowsL.set (SqT.of hT9) at0 R9).updL hpl9
      · refine ⟨_, rfl, rfl, _, rfl, ?_⟩
        dsimp only
        refine ite2 (fun h1 => ?_) (fun h1 => ?_)
        · refine ⟨.ref t, rfl, t, _, rfl, .inr hT4, fun pt npt => ?_⟩
          have st := same_new (o := .lst (setV ms)) npt
          have hpt : (upd H4 pt (.lst (setV ms))) pt = some (.lst (setV ms)) := upd_same
          have hT5 := Same.seqT st hT4
          have P5 := P4.same st
          have hpl5 := st _ _ hpl4
          have nptl : pt ≠ pl := fun e => by
            rw [e, hpl4] at npt
            cases npt
          have nptp : pt ≠ p := (P4.ne npt).symm
          have C5 := C4.same st
          have R5 := R4.same st
          have fpt : H pt = none := but_free C4 npt nptp
          generalize upd H4 pt (.lst (setV ms)) = H5 at st hpt hT5 P5 hpl5 C5 R5
          have hxl : x < ms.length := by
            rw [gms.1]
            exact hx
          have hyl : y < ms.length := by
            rw [gms.1]
            exact hy
          refine ⟨.ref t, rfl, _, rfl, t, _, _, _, rfl, rfl, hT5, atI_nat (setV_at (List.getElem?_eq_getElem hyl)), ?_⟩
          refine ⟨.ref t, rfl, _, rfl, t, _, _, _, rfl, rfl, hT5, atI_nat (setV_at (List.getElem?_eq_getElem hxl)), ?_⟩
          refine ⟨by show 2 ≤ sizeLine; decide, fun tp ntp => ?_⟩
          have s6 := same_new (o := .tup [V.int ((ms[y] : Nat) : Int), V.int ((ms[x] : Nat) : Int)]) ntp
          have hpt6 := s6 _ _ hpt
          refine ⟨tp, _, rfl, SqT.of upd_same, rfl, _, _, rfl, .ref pt, rfl, _, rfl, pt, _, _, x, rfl, rfl, hpt6, ixn_nat (by rw [setV_len]; exact hxl), ?_⟩
          rw [show (setV ms).set x (V.int ((ms[y] : Nat) : Int)) = setV (ms.set x ms[y]) from (List.map_set ..).symm]
          have hyl2 : y < (setV (ms.set x ms[y])).length := by
            rw [setV_len, List.length_set]
            exact hyl
          refine ⟨_, _, rfl, .ref pt, rfl, _, rfl, pt, _, _, y, rfl, rfl, upd_same, ixn_nat hyl2, rfl, ?_⟩
          rw [show (setV (ms.set x ms[y])).set y (V.int ((ms[x] : Nat) : Int)) = setV ((ms.set x ms[y]).set y ms[x]) from (List.map_set ..).symm, upd_upd]
          have pm : ((ms.set x ms[y]).set y ms[x]).Perm ms := List.set_set_perm hxl hyl
          have gk : ((ms.set x ms[y]).set y ms[x]).length = d ∧ ((ms.set x ms[y]).set y ms[x]).Nodup ∧ ∀ z ∈ (ms.set x ms[y]).set y ms[x], z < n := ⟨by rw [pm.length_eq]; exact gms.1, pm.nodup_iff.mpr gms.2.1, fun z hz => gms.2.2 z (pm.mem_iff.mp hz)⟩
          generalize (ms.set x ms[y]).set y ms[x] = ks at gk
          have hpt7 : (upd (upd H5 tp (.tup [V.int ((ms[y] : Nat) : Int), V.int ((ms[x] : Nat) : Int)])) pt (.lst (setV ks))) pt = some (.lst (setV ks)) := upd_same
          have R7 := (R5.same s6).updL (o := .lst (setV ks)) hpt6
          have hpl7 : (upd (upd H5 tp (.tup [V.int ((ms[y] : Nat) : Int), V.int ((ms[x] : Nat) : Int)])) pt (.lst (setV ks))) pl = some (.lst ts) := by
            rw [upd_ne nptl.symm]
            exact s6 _ _ hpl5
          have P7 := (P5.same s6).upd (o := .lst (setV ks)) nptp.symm
          have C7 := but_upd (o := .lst (setV ks)) (C5.same s6) fpt
          generalize upd (upd H5 tp (.tup [V.int ((ms[y] : Nat) : Int), V.int ((ms[x] : Nat) : Int)])) pt (.lst (setV ks)) = H7 at hpt7 R7 hpl7 P7 C7
          refine ⟨.ref pt, rfl, pt, _, rfl, .inl ⟨SqL.of hpt7, fun t9 nt9 => ?_⟩⟩
          have s9 := same_new (o := .tup (setV ks)) nt9
          have hpl9 := s9 _ _ hpl7
          refine ⟨.ref pl, rfl, _, rfl, pl, ts, _, at0, rfl, rfl, hpl9, ixn_nat hat, ts.set at0 (.ref t9), rows.set at0 ks, _, rfl, upd_same, ?_, G0.set gk, by rw [List.length_set]; omega, ((P7.same s9).upd hplp.symm).mono (by omega), but_upd (C7.same s9) fpl⟩
          exact (RowsL.set (SqT.of upd_same) at0 (R7.same s9)).updL hpl9
        · refine ⟨_, rfl, rfl, _, rfl, ?_⟩
          dsimp only
          refine ite2 (fun h2 => ?_) (fun h2 => ?_)
          · refine ⟨.ref pl, rfl, .inl ⟨rfl, _, SqL.of hpl4⟩, _, rfl, pl, _, _, rfl, rfl, hpl4, by rw [sizeLine_eq, R0.len]; omega, ts ++ [.ref t], rows ++ [ms], none, rfl, upd_same, ?_, G0.app gms, by rw [List.length_append]; exact Nat.le_refl _, (P4.upd hplp.symm).mono (by omega), but_upd C4 fpl⟩
            exact RowsL.app (R4.updL hpl4) (.cons ⟨t, rfl, SqT_updL hT4 hpl4⟩ .nil)
          · refine ⟨.ref pl, rfl, pl, _, rfl, .inl (SqL.of hpl4), rfl, _, rfl, ?_⟩
            dsimp only
            refine ite2 (fun h3 => ?_) (fun h3 => ?_)
            · refine ⟨.ref pl, rfl, .inl ⟨rfl, _, SqL.of hpl4⟩, _, rfl, pl, _, _, rfl, rfl, hpl4, by rw [sizeLine_eq, R0.len]; omega, ts ++ [.ref t], rows ++ [ms], none, rfl, upd_same, ?_, G0.app gms, by rw [List.length_append]; exact Nat.le_refl _, (P4.upd hplp.symm).mono (by omega), but_upd C4 fpl⟩
              exact RowsL.app (R4.updL hpl4) (.cons ⟨t, rfl, SqT_updL hT4 hpl4⟩ .nil)
            · have h4 : rows.length ≠ 1 := fun e => h3 (decide_eq_true (by rw [R0.len, e]; rfl))
              refine ⟨.ref pl, rfl, .inl ⟨rfl, _, SqL.of hpl4⟩, _, rfl, pl, _, _, at0, _, rfl, rfl, hpl4, by omega, by omega, seq_at hat, List.getElem?_eq_getElem hat, ts.eraseIdx at0, rows.eraseIdx at0, none, rfl, upd_same, (RowsL.erase at0 R4).updL hpl4, G0.erase (by omega), by rw [List.length_eraseIdx]; split <;> omega, (P4.upd hplp.symm).mono (by omega), but_upd C4 fpl⟩
    rintro σ H5 ⟨ts', rows', v, rfl, h1, h2, h3, h4, h5, h6⟩
    exact ⟨.ref pl, rfl, q H5 pl ts' rows' h6 fpl h1 h2 h3 h4 h5⟩
end
/-! ### the law's tables -/
theorem least_seven : ∀ n, n ≤ 7 → ∀ d, d ≤ n → leastL n d ≤ 420 := by decide +kernel
def rotL (n d i : Nat) : List Nat := (List.range d).map fun s => (i + s) % n
theorem rot_ok : ∀ n, n ≤ 12 → ∀ d, d ≤ n → ∀ i, i < n → (decide (rotL n d i).Nodup && (rotL n d i).all fun x => decide (x < n)) = true := by decide +kernel
theorem rot_good {n d i : Nat} (hn : n ≤ 12) (hd : d ≤ n) (hi : i < n) : (rotL n d i).Nodup ∧ ∀ x ∈ rotL n d i, x < n := by
  have h := rot_ok n hn d hd i hi
  rw [Bool.and_eq_true] at h
  exact ⟨of_decide_eq_true h.1, fun x hx => of_decide_eq_true (List.all_eq_true.mp h.2 x hx)⟩
theorem rot_len (n d i : Nat) : (rotL n d i).length = d := by
  unfold rotL
  rw [List.length_map, List.length_range]
theorem rot_step (n y z : Nat) : setV (rotL n (y + 1) z) = setV (rotL n y z) ++ [V.int (((z : Int) + (y : Int)) % (n : Int))] := by
  unfold rotL
  rw [range_rows, setV_app]
  congr 1
theorem RowsL.perm {K : PySem.W.Frag} {H : Hp} {xs ys : List V} (h : ys.Perm xs) : ∀ {rows : List (List Nat)}, RowsL K H xs rows → ∃ rows', RowsL K H ys rows' ∧ rows'.Perm rows := by
  have key : ∀ {xs ys : List V}, xs.Perm ys → ∀ {rows : List (List Nat)}, RowsL K H xs rows → ∃ rows', RowsL K H ys rows' ∧ rows'.Perm rows := by
    intro xs ys h
    induction h with
    | nil => intro rows r; exact ⟨rows, r, List.Perm.refl _⟩
    | cons x _ ih =>
      intro rows r
      cases r with
      | cons a r =>
        obtain ⟨rs, h1, h2⟩ := ih r
        exact ⟨_, .cons a h1, h2.cons _⟩
    | swap x y l =>
      intro rows r
      cases r with
      | cons a r =>
        cases r with
        | cons b r => exact ⟨_, .cons b (.cons a r), List.Perm.swap _ _ _⟩
    | trans _ _ ih1 ih2 =>
      intro rows r
      obtain ⟨r1, h1, p1⟩ := ih1 r
      obtain ⟨r2, h2, p2⟩ := ih2 h1
      exact ⟨r2, h2, p2.trans p1⟩
  intro rows r
  exact key h.symm r
theorem Good.perm {n d : Nat} {rows rows' : List (List Nat)} (h : Good n d rows) (p : rows'.Perm rows) : Good n d rows' :=
  ⟨fun e => h.1 (by rw [e] at p; exact List.Perm.eq_nil p.symm), fun r hr => h.2 r (p.mem_iff.mp hr)⟩
theorem els_rows {K : PySem.W.Frag} {H : Hp} {n d : Nat} {ts : List V} {rows : List (List Nat)} (r : RowsL K H ts rows) (g : Good n d rows) (hn : n ≤ 60) (hd : d ≤ 60) : Els K H ts := fun x hx => by
  obtain ⟨ms, hm, t, rfl, ht⟩ := r.mem hx
  obtain ⟨h1, h2, h3⟩ := g.2 ms hm
  exact ⟨_, .inr ⟨t, ms, rfl, ht, by omega, fun y hy => by have := h3 y hy; omega, rfl⟩⟩
def spRowsB (K : PySem.W.Frag) : Sp := fun vs H Q _ => ∃ (p : Addr) (m n d : Nat), vs = [.ref p, .int n, .int d] ∧ PotAt H p m ∧ m ≤ 20000 ∧ 2 ≤ n ∧ n ≤ 12 ∧ leastL n d ≤ 420 ∧ 1 ≤ d ∧ d ≤ n ∧
  ∀ H' u rows, But p H H' → H u = none → TabAt K H' u rows → Good n d rows → rows.length ≤ 900 → PotAt H' p (m + 3000) → Q (.ref u) H'
section
variable {P : Program} {w : World} {K : PySem.W.Frag} {mg : Str → Option Value} {base : Heap}
theorem ok_lawrows (T : Txt K mg) {j : Nat} : FnOk P w K mg base CX0 (j + 6) T.fLawRows T.fdLawRows ["_law_pot_here", "_law_n", "_law_depth"] (spRowsB K) := by
  refine T.FLawRows.ok scLawRows (fun vs H Q E h => ?_) (fun cdv A outer s H vs Q E hr h => ?_)
  · obtain ⟨p, m, n, d, rfl, _⟩ := h
    rfl
  · obtain ⟨p, m, n, d, rfl, P0, hm, hn2, hn7, hL4, hd1, hd, q⟩ := h
    refine ⟨_, pss_cons (ps_set (i := 3) scLawRows.nd rfl (.inl rfl) (pe_call (ok_take T) hr (by rfl) T.gTake T.FTake.kp T.bTake .nil pass0 (pa_cons (pv 0) (pa_cons pe_int pa_nil)))) (C8.pss_cut (ps_if (PW.pt (pw_and (pt_cmpR op_eq (pv 3) pe_int (nomark _)) (pw_and1 (pt_cmpR op_lt (pv 1) pe_int (nomark _))))) (pss_one (ps_set (i := 4) scLawRows.nd rfl (.inl rfl) (pe_call (ok_alllists T) hr (by rfl) T.gAllLists T.FAllLists.kp T.bAllLists .nil pass0 (pa_cons (pv 1) (pa_cons (pv 2) pa_nil))))) (pss_one (ps_if (pt_cmpR op_eq (pv 3) pe_int (nomark _)) (pss_one (ps_setLc (i := 4) (own := [("_law_first_here", 6)]) (g := (gName 6)) (tt := tYes) rfl scLawRows.nd rfl rfl (sw_true rfl rfl rfl (by decide +kernel)) (pi_range1 (by rfl) T.n_range (pa_cons (pv 1) pa_nil)) (blkOk_by (own := [("_law_first_here", 6)]) (N := NLawRows) (sc := defScope sLawRows) (by decide +kernel)) (fun _ _ _ _ _ => (pg_name (i := 6) scLawRows.nd rfl (.inr rfl))) (fun _ _ _ _ _ => pts_nil) (fun _ _ _ _ _ => (pe_callTy (call_tupleK K) (by rfl) T.n_tuple (by decide +kernel) (pa_cons (pe_lc (own := [("_law_step", 5)]) (g := (gName 5)) (tt := tYes) rfl scLawRows.nd (pi_range1 (by rfl) T.n_range (pa_cons (pv 2) pa_nil)) (blkOk_in (blkOk_by (own := [("_law_step", 5)]) (N := NLawRows) (sc := ({ kind := .function, names := [(".0", .local), ("_law_first_here", .cell), ("tuple", .globalImplicit), ("range", .globalImplicit), ("_law_depth", .free), ("_law_n", .free)], isGenerator := false, isCoroutine := false } : Scope)) (by decide +kernel))) (fun _ _ _ _ _ => (pg_name (i := 5) scLawRows.nd rfl (.inl rfl))) (fun _ _ _ _ _ => pts_nil) (fun _ _ _ _ _ => (pe_op op_mod (pe_op op_add (pv 6) (pv 5)) (pv 1)))) pa_nil))))) (pss_one (ps_if (pt_cmpR op_lt (pv 3) pe_int (nomark _)) (pss_one (ps_set (i := 4) scLawRows.nd rfl (.inl rfl) (pe_callTy (call_listK K) (by rfl) T.n_list (by decide +kernel) (pa_cons (pe_call (ok_standard T) hr (by rfl) T.gStandard T.FStandard.kp T.bStandard .nil pass0 (pa_cons (pv 1) (pa_cons (pv 2) (pa_cons (pe_op op_mul (pe_call (ok_least T) hr (by rfl) T.gLeast T.FLeast.kp T.bLeast .nil pass0 (pa_cons (pv 1) (pa_cons (pv 2) pa_nil))) (pe_op op_add pe_int (pe_call (ok_take T) hr (by rfl) T.gTake T.FTake.kp T.bTake .nil pass0 (pa_cons (pv 0) (pa_cons pe_int pa_nil))))) pa_nil)))) pa_nil)))) (pss_one (ps_setLc (i := 4) (own := [("_law_turn", 7)]) (g := (gName 7)) (tt := tYes) rfl scLawRows.nd rfl rfl (sw_true rfl rfl rfl (by decide +kernel)) (pi_range1 (by rfl) T.n_range (pa_cons (pe_op op_add pe_int (pe_call (ok_take T) hr (by rfl) T.gTake T.FTake.kp T.bTake .nil pass0 (pa_cons (pv 0) (pa_cons pe_int pa_nil)))) pa_nil)) (blkOk_by (own := [("_law_turn", 7)]) (N := NLawRows) (sc := defScope sLawRows) (by decide +kernel)) (fun _ _ _ _ _ => (pg_name (i := 7) scLawRows.nd rfl (.inl rfl))) (fun _ _ _ _ _ => pts_nil) (fun _ _ _ _ _ => (pe_callTy (call_tupleK K) (by rfl) T.n_tuple (by decide +kernel) (pa_cons (pe_slice (sl_listK (K := K)) (pe_call (ok_mixed T) hr (by rfl) T.gMixed T.FMixed.kp T.bMixed .nil pass0 (pa_cons (pv 0) (pa_cons (pe_listRg rfl (by rfl) T.n_list (prg_1 (by rfl) T.n_range (pv 1))) pa_nil))) po_none (po_some (pv 2))) pa_nil)))))))))) (C8.pss_cut (ps_for PassesOwn.never rfl (pi_range1 (by rfl) T.n_range (pa_cons (pe_call (ok_of T) hr (by rfl) T.gOf T.FOf.kp T.bOf .nil pass0 (pa_cons (pv 0) (pa_cons (pe_lst (pa_cons pe_int (pa_cons pe_int (pa_cons pe_int (pa_cons pe_int (pa_cons pe_int pa_nil)))))) pa_nil))) pa_nil)) (pg_name (i := 7) scLawRows.nd rfl (.inl rfl)) (pss_one (ps_set (i := 4) scLawRows.nd rfl (.inl rfl) (pe_call (ok_spoiled T) hr (by rfl) T.gSpoiled T.FSpoiled.kp T.bSpoiled .nil pass0 (pa_cons (pv 0) (pa_cons (pv 1) (pa_cons (pv 4) pa_nil))))))) (pss_one (ps_ret (pe_callTy (call_tupleK K) (by rfl) T.n_tuple (by decide +kernel) (pa_cons (pe_ifExp (pt_cmpR op_eq (pe_call (ok_take T) hr (by rfl) T.gTake T.FTake.kp T.bTake .nil pass0 (pa_cons (pv 0) (pa_cons pe_int pa_nil))) pe_int (nomark _)) (pv 4) (pe_call (ok_mixed T) hr (by rfl) T.gMixed T.FMixed.kp T.bMixed .nil pass0 (pa_cons (pv 0) (pa_cons (pv 4) pa_nil)))) pa_nil)))))), ?_⟩
    refine ⟨.ref p, rfl, p, _, 6, rfl, P0, by omega, by decide, by decide +kernel, fun r1 H1 r10 r1l P1 B1 => ?_⟩
    dsimp only [gName]
    refine ⟨fun σ H2 => ∃ (a : Addr) (ts : List V) (rows : List (List Nat)), σ = [some (.ref p), some (.int n), some (.int d), some (.int r1), some (.ref a), none, none, none] ∧ H2 a = some (.lst ts) ∧ a ≠ p ∧ RowsL K H2 ts rows ∧ Good n d rows ∧ rows.length ≤ 840 ∧ PotAt H2 p (m + 200) ∧ But p H H2, ?_, ?_⟩
    · have fin : ∀ (H2 : Hp) (a : Addr) (ts : List V) (rows : List (List Nat)), H2 a = some (.lst ts) → a ≠ p → RowsL K H2 ts rows → Good n d rows → rows.length ≤ 840 → PotAt H2 p (m + 200) → But p H H2 → ∃ (a : Addr) (ts : List V) (rows : List (List Nat)), ([some (V.ref p), some (V.int n), some (V.int d), some (V.int r1), none, none, none, none].set 4 (some (V.ref a)) : L2.St) = [some (.ref p), some (.int n), some (.int d), some (.int r1), some (.ref a), none, none, none] ∧ H2 a = some (.lst ts) ∧ a ≠ p ∧ RowsL K H2 ts rows ∧ Good n d rows ∧ rows.length ≤ 840 ∧ PotAt H2 p (m + 200) ∧ But p H H2 :=
        fun H2 a ts rows h1 h2 h3 h4 h5 h6 h7 => ⟨a, ts, rows, rfl, h1, h2, h3, h4, h5, h6, h7⟩
      refine ⟨_, rfl, rfl, _, rfl, ?_⟩
      dsimp only
      refine ite2 (fun h => ⟨_, rfl, _, _, rfl, rfl, _, rfl, ite2 (fun h2 => ?all) (fun h2 => ?els)⟩) (fun h => ?els2)
      case all =>
        have h3 : (n : Int) < 5 := of_decide_eq_true h2
        have sm := allL_small n (by omega) d hd
        refine ⟨_, rfl, _, rfl, n, d, rfl, by omega, by omega, fun e he => by have := allL_small n (by omega) e (by omega); omega, fun H2 a ts s2 na hA r2 => ?_⟩
        refine ⟨a, ts, allL n d, rfl, hA, (P1.ne na).symm, r2, ⟨sm.2, allL_good n d⟩, by omega, (P1.same s2).mono (by omega), B1.same s2⟩
      all_goals
        refine ⟨_, rfl, rfl, _, rfl, ?_⟩
        dsimp only
        refine ite2 (fun h5 => ?_) (fun h5 => ?_)
        · -- rotations
          refine ⟨_, rfl, (n : Int), rfl, by omega, by omega, fun D nD => ?_⟩
          have nDp := (P1.ne nD).symm
          refine lc_range (lo := 0) (fun z H3 => ∃ ts, Same H1 H3 ∧ H3 D = some (.lst ts) ∧ RowsL K H3 ts ((List.range z).map (rotL n d))) ⟨[], same_new nD, upd_same, .nil⟩ ?_ ?_
          · rintro z H3 hz ⟨ts, s3, hD, r3⟩
            rw [Int.zero_add]
            refine ⟨rfl, _, rfl, (d : Int), rfl, by omega, by omega, fun D2 nD2 => ?_⟩
            refine lc_range (lo := 0) (fun y H4 => Same H3 H4 ∧ H4 D2 = some (.lst (setV (rotL n y z)))) ⟨same_new nD2, upd_same⟩ ?_ ?_
            · rintro y H4 hy ⟨s4, hD2⟩
              rw [Int.zero_add]
              refine ⟨rfl, _, rfl, _, rfl, _, _, rfl, rfl, _, rfl, _, _, rfl, rfl, (by omega : (0 : Int) < (n : Int)), _, hD2, ?_, keep_upd s4 nD2, ?_⟩
              · rw [setV_len, rot_len]
                exact small1000 (by omega)
              · dsimp only
                rw [upd_same, rot_step]
            · rintro H4 ⟨s4, hD2⟩
              rw [Int.toNat_natCast] at hD2
              refine ⟨D2, _, rfl, .inl ⟨SqL.of hD2, fun t nt => ?_⟩⟩
              have s5 := same_new (o := .tup (setV (rotL n d z))) nt
              have hD5 := s5 _ _ (s4 _ _ hD)
              have rl := r3.len
              rw [List.length_map, List.length_range] at rl
              refine ⟨ts, hD5, small1000 (by omega), ts ++ [.ref t], keep_upd ((s3.trans s4).trans s5) nD, upd_same, ?_⟩
              rw [range_rows]
              exact RowsL.app ((r3.same (s4.trans s5)).updL hD5) (.cons ⟨t, rfl, SqT_updL (SqT.of upd_same) hD5⟩ .nil)
          · rintro H3 ⟨ts, s3, hD, r3⟩
            rw [Int.toNat_natCast] at r3
            refine ⟨D, ts, _, rfl, hD, nDp, r3, ⟨fun e => ?_, fun r hr => ?_⟩, ?_, (P1.same s3).mono (by omega), B1.same s3⟩
            · have := congrArg List.length e
              rw [List.length_map, List.length_range] at this
              simp at this
              omega
            · obtain ⟨i, hi, rfl⟩ := List.mem_map.mp hr
              exact ⟨rot_len n d i, rot_good hn7 hd (List.mem_range.mp hi)⟩
            · rw [List.length_map, List.length_range]
              omega
        · refine ⟨_, rfl, _, _, rfl, rfl, _, rfl, ?_⟩
          dsimp only
          refine ite2 (fun h6 => ?_) (fun h6 => ?_)
          · -- a standard table
            refine ⟨_, rfl, _, rfl, _, rfl, _, rfl, n, d, rfl, by omega, by omega, hd, .ref p, rfl, p, _, 2, rfl, P1, by omega, by decide, by decide +kernel, fun r2 H2 r20 r2l P2 B2 => ?_⟩
            obtain ⟨k2, rfl⟩ := Int.eq_ofNat_of_zero_le r20
            have L4 := hL4
            have st := std_of (show n ≤ 60 by omega) (show 1 ≤ n by omega) hd (1 + k2) (by omega)
            have cb : leastL n d * (1 + k2) ≤ 420 * 2 := Nat.mul_le_mul L4 (by omega)
            have e3 : ((leastL n d : Nat) : Int) * (1 + (k2 : Int)) = ((leastL n d * (1 + k2) : Nat) : Int) := by
              rw [Int.natCast_mul]
              congr 1
            refine ⟨_, _, rfl, rfl, _, _, rfl, rfl, .inr ⟨by omega, by omega⟩, ?_⟩
            dsimp only
            rw [e3]
            generalize leastL n d * (1 + k2) = c at st cb
            refine ⟨n, d, c, rfl, st, by omega, fun H3 u s3 tu => ?_⟩
            obtain ⟨ts, hu, r3⟩ := tu
            refine ⟨u, _, rfl, .inr hu, fun a na => ?_⟩
            have s4 := same_new (o := .lst ts) na
            refine ⟨a, ts, stdRows n d c, rfl, upd_same, ((P2.same s3).ne na).symm, RowsL.same s4 r3, ⟨fun e => ?_, fun r hr => ?_⟩, ?_, ((P2.same s3).same s4).mono (by omega), ((B1.trans B2).same s3).same s4⟩
            · have := congrArg List.length e
              unfold stdRows at this
              rw [List.length_map, List.length_range] at this
              have := st.c0
              simp at *
              omega
            · unfold stdRows at hr
              obtain ⟨k, hk, rfl⟩ := List.mem_map.mp hr
              exact ⟨path_len n d c k, path_nodup st (List.mem_range.mp hk), path_lt st (List.mem_range.mp hk)⟩
            · unfold stdRows
              rw [List.length_map, List.length_range]
              omega
          · -- drawn lists
            refine ⟨.ref p, rfl, p, _, 12, rfl, P1, by omega, by decide, by decide +kernel, fun r2 H2 r20 r2l P2 B2 => ?_⟩
            obtain ⟨k2, rfl⟩ := Int.eq_ofNat_of_zero_le r20
            refine ⟨_, _, rfl, rfl, _, rfl, by omega, by omega, fun D nD => ?_⟩
            have nDp := (P2.ne nD).symm
            have e1k : ((1 : Int) + (k2 : Int)).toNat = 1 + k2 := by omega
            rw [e1k]
            refine lc_range (lo := 0) (n := 1 + k2) (fun z H3 => ∃ (ts : List V) (rows : List (List Nat)), H3 D = some (.lst ts) ∧ RowsL K H3 ts rows ∧ rows.length = z ∧ (∀ r ∈ rows, r.length = d ∧ r.Nodup ∧ ∀ x ∈ r, x < n) ∧ PotAt H3 p (m + 2 + 12 * z) ∧ But p H2 H3) ⟨[], [], upd_same, .nil, rfl, fun _ h => absurd h List.not_mem_nil, P2.same (same_new nD), But.of (same_new nD)⟩ ?_ ?_
            · rintro z H3 hz ⟨ts, rows, hD, r3, rl, gr, P3, B3⟩
              refine ⟨rfl, .ref p, rfl, _, rfl, _, rfl, .of_le (by omega) (by omega) (by omega) (by omega), fun pe npe => ?_⟩
              rw [setV_range]
              have se := same_new (o := .lst (setV (List.range' 0 n))) npe
              refine ⟨p, _, pe, _, rfl, P3.same se, by omega, .inl (SqL.of upd_same), by rw [setV_len, List.length_range']; omega, Els.set (fun x hx => by have := mem_range0.mp hx; omega), fun H7 q7 ys B7 n7 h7 pm P7 => ?_⟩
              obtain ⟨ks, rfl, pk⟩ := perm_setV pm
              rw [setV_len, List.length_range'] at P7
              have B37 : But p H3 H7 := fun b o nb e => B7 b o nb (se b o e)
              refine ⟨_, rfl, _, rfl, q7, _, rfl, SqL.of h7, fun q9 n9 => ?_⟩
              rw [cut_take]
              refine ⟨q9, _, rfl, .inl ⟨SqL.of upd_same, fun t9 nt9 => ?_⟩⟩
              have s9 := (same_new (o := .lst (setV (ks.take d))) n9).trans (same_new (o := .tup (setV (ks.take d))) nt9)
              have hT9 : (upd (upd H7 q9 (.lst (setV (ks.take d)))) t9 (.tup (setV (ks.take d)))) t9 = some (.tup (setV (ks.take d))) := upd_same
              have gk := drawn_good (d := d) pk hd
              have R9 := (r3.but P3 B37).same s9
              have hD9 := s9 _ _ (B37 _ _ nDp hD)
              have P9 := P7.same s9
              have C9 := (B3.trans B37).same s9
              generalize upd (upd H7 q9 (.lst (setV (ks.take d)))) t9 (.tup (setV (ks.take d))) = H9 at s9 hT9 R9 hD9 P9 C9
              have tl := r3.len
              refine ⟨ts, hD9, small1000 (by omega), ts ++ [.ref t9], rows ++ [ks.take d], upd_same, RowsL.app (R9.updL hD9) (.cons ⟨t9, rfl, SqT_updL (SqT.of hT9) hD9⟩ .nil), by rw [List.length_append, rl]; rfl, fun r hr => ?_, (P9.upd nDp.symm).mono (by omega), but_upd C9 nD⟩
              rcases List.mem_append.mp hr with hr | hr
              · exact gr r hr
              · rw [List.mem_singleton.mp hr]
                exact gk
            · rintro H3 ⟨ts, rows, hD, r3, rl, gr, P3, B3⟩
              refine ⟨D, ts, rows, rfl, hD, nDp, r3, ⟨fun e => ?_, gr⟩, by omega, P3.mono (by omega), (B1.trans B2).trans B3⟩
              rw [e] at rl
              simp at rl
              omega
    · rintro σ H2 ⟨a, ts, rows, rfl, hA, hap, R2, G2, hl2, P2, C2⟩
      refine ⟨fun σ H3 => ∃ (a : Addr) (ts : List V) (rows : List (List Nat)) (v : Option V), σ = [some (.ref p), some (.int n), some (.int d), some (.int r1), some (.ref a), none, none, v] ∧ H3 a = some (.lst ts) ∧ a ≠ p ∧ RowsL K H3 ts rows ∧ Good n d rows ∧ rows.length ≤ 842 ∧ PotAt H3 p (m + 500) ∧ But p H H3, ?_, ?_⟩
      · refine ⟨.ref p, rfl, by show 5 ≤ sizeLine; decide, fun l nl => ?_⟩
        refine ⟨p, _, l, _, rfl, P2.same (same_new nl), by omega, upd_same, (P2.ne nl).symm, (by show 1 ≤ 5; decide), (by show 5 ≤ 1000; decide), fun v H3 hv P3 B3 => ?_⟩
        have sn := same_new (o := .lst [V.int 0, V.int 0, V.int 1, V.int 1, V.int 2]) nl
        have B23 : But p H2 H3 := fun b o nb e => B3 b o nb (sn b o e)
        obtain ⟨k, rfl, hk⟩ : ∃ k : Nat, v = .int (k : Int) ∧ k ≤ 2 := by
          simp only [List.mem_cons, List.not_mem_nil, or_false] at hv
          rcases hv with rfl | rfl | rfl | rfl | rfl
          · exact ⟨0, rfl, by decide⟩
          · exact ⟨0, rfl, by decide⟩
          · exact ⟨1, rfl, by decide⟩
          · exact ⟨1, rfl, by decide⟩
          · exact ⟨2, rfl, by decide⟩
        refine ⟨_, rfl, by omega, by omega, ?_⟩
        refine for_range (lo := 0) (n := (k : Int).toNat) (fun i σ H4 => ∃ (a : Addr) (ts : List V) (rows : List (List Nat)) (v : Option V), σ = [some (.ref p), some (.int n), some (.int d), some (.int r1), some (.ref a), none, none, v] ∧ H4 a = some (.lst ts) ∧ a ≠ p ∧ RowsL K H4 ts rows ∧ Good n d rows ∧ rows.length ≤ 840 + i ∧ PotAt H4 p (m + 201 + 100 * i) ∧ But p H H4) ⟨a, ts, rows, none, rfl, B23 _ _ hap hA, hap, R2.but P2 B23, G2, hl2, P3, C2.trans B23⟩ ?_ ?_
        · rintro i σ H4 hi ⟨a, ts, rows, v, rfl, hA, hap, R4, G4, hl4, P4, C4⟩
          refine ⟨.ref p, rfl, _, rfl, .ref a, rfl, p, a, _, n, d, ts, rows, rfl, P4, by omega, hn2, by omega, hd1, hd, hA, hap, R4, G4, by omega, fun H5 q5 ts5 rows5 B5 n5 h5 R5 G5 l5 P5 => ?_⟩
          refine ⟨q5, ts5, rows5, _, rfl, h5, (P4.ne n5).symm, R5, G5, by omega, P5.mono (by omega), C4.trans B5⟩
        · rintro σ H4 ⟨a, ts, rows, v, rfl, hA, hap, R4, G4, hl4, P4, C4⟩
          exact ⟨a, ts, rows, v, rfl, hA, hap, R4, G4, by omega, P4.mono (by omega), C4⟩
      · rintro σ H3 ⟨a, ts, rows, v, rfl, hA, hap, R3, G3, hl3, P3, C3⟩
        refine ⟨.ref p, rfl, p, _, 2, rfl, P3, by omega, by decide, by decide +kernel, fun r2 H4 r20 r2l P4 B4 => ?_⟩
        refine ⟨rfl, _, rfl, ?_⟩
        dsimp only
        refine ite2 (fun h => ?_) (fun h => ?_)
        · have hA4 := B4 _ _ hap hA
          refine ⟨.ref a, rfl, a, _, rfl, .inl ⟨SqL.of hA4, fun u nu => ?_⟩⟩
          have su := same_new (o := .tup ts) nu
          exact q _ u rows ((C3.trans B4).same su) (but_free (C3.trans B4) nu (P4.ne nu).symm) ⟨ts, SqT.of upd_same, (R3.but P3 B4).same su⟩ G3 (by omega) ((P4.same su).mono (by omega))
        · have hA4 := B4 _ _ hap hA
          have R4 := R3.but P3 B4
          have tl := R3.len
          refine ⟨.ref p, rfl, .ref a, rfl, p, _, a, _, rfl, P4, by omega, .inl (SqL.of hA4), by omega, els_rows R4 G3 (by omega) (by omega), fun H5 q5 ys B5 n5 h5 pm P5 => ?_⟩
          obtain ⟨rows5, R5, pr⟩ := RowsL.perm pm (R4.but P4 B5)
          refine ⟨q5, _, rfl, .inl ⟨SqL.of h5, fun u nu => ?_⟩⟩
          have su := same_new (o := .tup ys) nu
          have C5 := (C3.trans B4).trans B5
          exact q _ u rows5 (C5.same su) (but_free C5 nu (P5.ne nu).symm) ⟨ys, SqT.of upd_same, R5.same su⟩ (G3.perm pr) (by rw [pr.length_eq]; omega) ((P5.same su).mono (by omega))
end
/-! ### _law_asked -/
def spAsked (K : PySem.W.Frag) : Sp := fun vs H Q _ => ∃ (p : Addr) (m n d : Nat), vs = [.ref p, .int n, .int d] ∧ PotAt H p m ∧ m ≤ 100000 ∧ 2 ≤ n ∧ n ≤ 60 ∧ 2 ≤ d ∧ d ≤ n ∧
  ∀ H' m' (t : Addr) (f k : Nat), But p H H' → PotAt H' p m' → m' ≤ m + 4 → H' t = some (.tup [.int f, .int k]) → 1 ≤ f → f < n → 1 ≤ k → k ≤ n → min n (f + k) ≤ d → Q (.ref t) H'
section
variable {P : Program} {w : World} {K : PySem.W.Frag} {mg : Str → Option Value} {base : Heap}
theorem ok_asked21 (T : Txt K mg) {j : Nat} : FnOk P w K mg base CX0 (j + 4) T.fAsked21 T.fdAsked21 ["_law_pot_here", "_law_n", "_law_depth"] (spAsked K) := by
  refine T.FAsked21.ok scAsked21 (fun vs H Q E h => ?_) (fun cdv A outer s H vs Q E hr h => ?_)
  · obtain ⟨p, m, n, d, rfl, _⟩ := h
    rfl
  · obtain ⟨p, m, n, d, rfl, P0, hm, hn2, hn6, hd2, hdn, q⟩ := h
    refine ⟨_, pss_cons (ps_par (i := 3) (j := 4) rfl scAsked21.nd rfl rfl (by decide) rfl rfl (pa_cons (pe_op op_add pe_int (pe_call (ok_take T) hr (by rfl) T.gTake T.FTake.kp T.bTake .nil pass0 (pa_cons (pv 0) (pa_cons (pe_op op_sub (pv 1) pe_int) pa_nil)))) (pa_cons (pe_op op_add pe_int (pe_call (ok_take T) hr (by rfl) T.gTake T.FTake.kp T.bTake .nil pass0 (pa_cons (pv 0) (pa_cons (pv 1) pa_nil)))) pa_nil)) (by rfl)) (C8.pss_cut (ps_if (PW.pt (pw_and (pt_cmpR op_lt (pv 2) (pv 1) (nomark _)) (pw_and1 (pt_cmpR op_gt (pe_op op_add (pv 3) (pv 4)) (pv 2) (nomark _))))) (pss_cons (ps_set (i := 3) scAsked21.nd rfl (.inl rfl) (pe_op op_add pe_int (pe_call (ok_take T) hr (by rfl) T.gTake T.FTake.kp T.bTake .nil pass0 (pa_cons (pv 0) (pa_cons (pe_op op_sub (pv 2) pe_int) pa_nil))))) (pss_one (ps_set (i := 4) scAsked21.nd rfl (.inl rfl) (pe_op op_add pe_int (pe_call (ok_take T) hr (by rfl) T.gTake T.FTake.kp T.bTake .nil pass0 (pa_cons (pv 0) (pa_cons (pe_op op_sub (pv 2) (pv 3)) pa_nil))))))) pss_nil) (pss_one (ps_ret (pe_tup (pa_cons (pv 3) (pa_cons (pv 4) pa_nil)))))), ?_⟩
    have small : ∀ z : Int, z < 100 → z < 2 ^ 1000 := fun z hz => Int.lt_trans hz (by decide +kernel)
    refine ⟨.ref p, rfl, _, rfl, _, _, rfl, rfl, p, _, _, rfl, P0, by omega, by omega, small _ (by omega), fun r1 H1 r10 r1l P1 B1 => ⟨_, _, rfl, rfl, ?_⟩⟩
    obtain ⟨f0, rfl⟩ := Int.eq_ofNat_of_zero_le r10
    refine ⟨.ref p, rfl, _, rfl, p, _, _, rfl, P1, by omega, by omega, small _ (by omega), fun r2 H2 r20 r2l P2 B2 => ⟨_, _, rfl, rfl, ?_⟩⟩
    obtain ⟨k0, rfl⟩ := Int.eq_ofNat_of_zero_le r20
    refine ⟨_, _, rfl, ?_⟩
    dsimp only
    rw [show (1 : Int) + (f0 : Int) = ((1 + f0 : Nat) : Int) by omega, show (1 : Int) + (k0 : Int) = ((1 + k0 : Nat) : Int) by omega]
    have C2 := B1.trans B2
    refine ⟨fun σ H3 => ∃ (m' f k : Nat), σ = [some (.ref p), some (.int n), some (.int d), some (.int (f : Int)), some (.int (k : Int))] ∧ But p H H3 ∧ PotAt H3 p m' ∧ m' ≤ m + 4 ∧ 1 ≤ f ∧ f < n ∧ 1 ≤ k ∧ k ≤ n ∧ min n (f + k) ≤ d, ?_, ?_⟩
    · have fin : min n (1 + f0 + (1 + k0)) ≤ d → ∃ (m' f k : Nat), ([some (.ref p), some (.int n), some (.int d), some (.int ((1 + f0 : Nat) : Int)), some (.int ((1 + k0 : Nat) : Int))] : List (Option V)) = [some (.ref p), some (.int n), some (.int d), some (.int (f : Int)), some (.int (k : Int))] ∧ But p H H2 ∧ PotAt H2 p m' ∧ m' ≤ m + 4 ∧ 1 ≤ f ∧ f < n ∧ 1 ≤ k ∧ k ≤ n ∧ min n (f + k) ≤ d := fun hc => ⟨_, 1 + f0, 1 + k0, rfl, C2, P2, by omega, by omega, by omega, by omega, by omega, hc⟩
      refine ⟨_, rfl, _, rfl, _, _, rfl, rfl, _, rfl, ite2 (fun h1 => ?_) (fun h1 => ?_)⟩
      · refine ⟨_, rfl, _, rfl, _, _, rfl, rfl, _, rfl, _, _, rfl, rfl, _, rfl, ite2 (fun h2 => ?_) (fun h2 => ?_)⟩
        · refine ⟨.ref p, rfl, _, rfl, _, _, rfl, rfl, p, _, _, rfl, P2, by omega, by omega, small _ (by omega), fun r3 H3 r30 r3l P3 B3 => ⟨_, _, rfl, rfl, ?_⟩⟩
          obtain ⟨f1, rfl⟩ := Int.eq_ofNat_of_zero_le r30
          dsimp only [gName]
          rw [show (1 : Int) + (f1 : Int) = ((1 + f1 : Nat) : Int) by omega]
          refine ⟨.ref p, rfl, _, rfl, _, rfl, _, _, rfl, rfl, p, _, _, rfl, P3, by omega, by omega, small _ (by omega), fun r4 H4 r40 r4l P4 B4 => ⟨_, _, rfl, rfl, ?_⟩⟩
          obtain ⟨k1, rfl⟩ := Int.eq_ofNat_of_zero_le r40
          dsimp only [gName]
          rw [show (1 : Int) + (k1 : Int) = ((1 + k1 : Nat) : Int) by omega]
          exact ⟨_, 1 + f1, 1 + k1, rfl, (C2.trans B3).trans B4, P4, by omega, by omega, by omega, by omega, by omega, by omega⟩
        · refine fin ?_
          have : ¬ ((d : Int) < ((1 + f0 : Nat) : Int) + ((1 + k0 : Nat) : Int)) := fun z => h2 (decide_eq_true z)
          omega
      · refine iteF (fin ?_)
        have : ¬ ((d : Int) < (n : Int)) := fun z => h1 (decide_eq_true z)
        omega
    · rintro σ H3 ⟨m', f, k, rfl, B3, P3, hm', f1, f2, k1, k2, hc⟩
      refine ⟨_, rfl, _, rfl, by show 2 ≤ sizeLine; decide, fun t nt => ?_⟩
      have s4 := same_new (o := .tup [V.int (f : Int), V.int (k : Int)]) nt
      exact q _ m' t f k (B3.same s4) (P3.same s4) hm' upd_same f1 f2 k1 k2 hc
end
/-! ### a tuple of plain things with one odd thing among them -/
inductive PlL (K : PySem.W.Frag) (G : Hp) (k wt : Nat) : List V → List TD → List PyData → Prop
  | nil : PlL K G k wt [] [] []
  | cons {x : V} {t : TD} {d : PyData} {xs : List V} {ts : List TD} {ds : List PyData} : VT K G x t → Dp K G x d → De K G x d → Sh k wt d ∧ ShT1 t → PlL K G k wt xs ts ds → PlL K G k wt (x :: xs) (t :: ts) (d :: ds)
theorem PlL.len {K : PySem.W.Frag} {G : Hp} {k wt : Nat} {xs : List V} {ts : List TD} {ds : List PyData} (h : PlL K G k wt xs ts ds) : ts.length = xs.length ∧ ds.length = xs.length := by
  induction h with
  | nil => exact ⟨rfl, rfl⟩
  | cons _ _ _ _ _ ih => exact ⟨congrArg (· + 1) ih.1, congrArg (· + 1) ih.2⟩
/-- the same for lists of data -/
def SzA (k wt : Nat) (ds : List PyData) : Prop := PyData.depthAll ds ≤ k ∧ PyData.showableAll ds = true ∧ PyData.leavesShortAll 200 ds = true ∧ PyData.weightAll ds ≤ wt
theorem SzA.cons {k wt wt' : Nat} {d : PyData} {ds : List PyData} (h : Szd k wt d) (t : SzA k wt' ds) : SzA k (wt + 1 + wt') (d :: ds) := by
  obtain ⟨a1, a2, a3, a4⟩ := h
  obtain ⟨b1, b2, b3, b4⟩ := t
  refine ⟨?_, ?_, ?_, ?_⟩
  · show max (PyData.depth d) (PyData.depthAll ds) ≤ k
    omega
  · show (PyData.showable d && PyData.showableAll ds) = true
    rw [a2, b2]
    rfl
  · show (PyData.leavesShort 200 d && PyData.leavesShortAll 200 ds) = true
    rw [a3, b3]
    rfl
  · show PyData.weight d + 1 + PyData.weightAll ds ≤ _
    omega
theorem SzA.nil {k : Nat} : SzA k 0 [] := ⟨Nat.zero_le _, rfl, rfl, Nat.le_refl _⟩
theorem sh_szd {k wt : Nat} {d : PyData} (h : Sh k wt d) : Szd k wt d := ⟨h.dep, h.shw, h.lvs, h.wgt⟩
theorem SzA.tup {k wt : Nat} {ds : List PyData} (h : SzA k wt ds) : Szd (k + 1) wt (.tuple ds) := ⟨Nat.add_le_add_right h.1 1, h.2.1, h.2.2.1, h.2.2.2⟩
theorem Szd.mono {k wt k' wt' : Nat} {d : PyData} (h : Szd k wt d) (a : k ≤ k') (b : wt ≤ wt') : Szd k' wt' d := ⟨Nat.le_trans h.1 a, h.2.1, h.2.2.1, Nat.le_trans h.2.2.2 b⟩
theorem pl_short {K : PySem.W.Frag} {G : Hp} {k wt : Nat} {xs : List V} {ts : List TD} {ds : List PyData} (h : PlL K G k wt xs ts ds) : ∀ u ∈ ts, ShT1 u := by
  induction h with
  | nil => exact fun u hu => absurd hu List.not_mem_nil
  | cons _ _ _ s _ ih =>
    intro u hu
    rcases List.mem_cons.mp hu with rfl | hu
    · exact s.2
    · exact ih u hu
theorem pl_vts {K : PySem.W.Frag} {G : Hp} {k wt : Nat} {xs ys : List V} {ts us : List TD} {ds : List PyData} (h : PlL K G k wt xs ts ds) (r : VTs K G ys us) : VTs K G (xs ++ ys) (ts ++ us) := by
  induction h with
  | nil => exact r
  | cons a _ _ _ _ ih => exact .cons a ih
theorem pl_dps {K : PySem.W.Frag} {G : Hp} {k wt : Nat} {xs ys : List V} {ts : List TD} {ds es : List PyData} (h : PlL K G k wt xs ts ds) (r : DpAll K G ys es) : DpAll K G (xs ++ ys) (ds ++ es) := by
  induction h with
  | nil => exact r
  | cons _ a _ _ _ ih => exact .cons a ih
theorem pl_dds {K : PySem.W.Frag} {G : Hp} {k wt : Nat} {xs ys : List V} {ts : List TD} {ds es : List PyData} (h : PlL K G k wt xs ts ds) (r : DeAll K G ys es) : DeAll K G (xs ++ ys) (ds ++ es) := by
  induction h with
  | nil => exact r
  | cons _ _ a _ _ ih => exact .cons a ih
theorem pl_sh {K : PySem.W.Frag} {G : Hp} {k wt w2 : Nat} {xs : List V} {ts : List TD} {ds es : List PyData} (h : PlL K G k wt xs ts ds) (r : ShAll k w2 es) : ShAll k ((wt + 1) * xs.length + w2) (ds ++ es) := by
  induction h with
  | nil => exact r.mono (Nat.le_refl _) (by simp)
  | cons _ _ _ s _ ih =>
    refine (ShAll.cons s.1 ih).mono (Nat.le_refl _) ?_
    rw [List.length_cons, Nat.mul_succ]
    omega
theorem pl_sz {K : PySem.W.Frag} {G : Hp} {k wt w2 : Nat} {xs : List V} {ts : List TD} {ds es : List PyData} (h : PlL K G k wt xs ts ds) (r : SzA k w2 es) : SzA k ((wt + 1) * xs.length + w2) (ds ++ es) := by
  induction h with
  | nil => exact ⟨r.1, r.2.1, r.2.2.1, Nat.le_trans r.2.2.2 (by simp)⟩
  | cons _ _ _ s _ ih =>
    have := SzA.cons (sh_szd s.1) ih
    refine ⟨this.1, this.2.1, this.2.2.1, Nat.le_trans this.2.2.2 ?_⟩
    rw [List.length_cons, Nat.mul_succ]
    omega
theorem val_mix {K : PySem.W.Frag} {G : Hp} {k wt w2 : Nat} {pre post : List V} {t1 t2 : List TD} {d1 d2 : List PyData} {v : V} {t : Addr} (h1 : PlL K G k wt pre t1 d1) (h2 : PlL K G k wt post t2 d2) (hv : Val K G k w2 v) (hl : pre.length + post.length ≤ 900) (ht : SqT K G t (pre ++ [v] ++ post)) : Val K G (k + 1) ((wt + 1) * (pre.length + post.length) + w2 + 1) (.ref t) := by
  obtain ⟨⟨tv, a1, a3⟩, d, a2⟩ := hv
  rw [List.append_assoc] at ht
  have hn := pl_vts h2 (ys := []) (us := []) .nil
  rw [List.append_nil, List.append_nil] at hn
  have vts := pl_vts h1 (ys := [v] ++ post) (.cons a1 hn)
  refine ⟨⟨_, .tup ht vts, ?_, fun u hu => ?_⟩, ?_⟩
  · rw [List.length_append, List.length_cons, h1.len.1, h2.len.1]
    omega
  · rcases List.mem_append.mp hu with h | h
    · exact pl_short h1 u h
    · rcases List.mem_cons.mp h with rfl | h
      · exact a3.one
      · exact pl_short h2 u h
  have e0 : (wt + 1) * pre.length + (w2 + 1 + ((wt + 1) * post.length + 0)) ≤ (wt + 1) * (pre.length + post.length) + w2 + 1 := by
    rw [Nat.mul_add]
    omega
  rcases a2 with ⟨b1, b2⟩ | ⟨av, rfl, b1, b2⟩
  · have dn := pl_dps h2 (ys := []) (es := []) .nil
    rw [List.append_nil, List.append_nil] at dn
    have sn := pl_sh h2 (ShAll.nil.mono (Nat.zero_le k) (Nat.le_refl 0))
    rw [List.append_nil] at sn
    exact ⟨_, .inl ⟨.tup ht (pl_dps h1 (.cons b1 dn)), (Sh.tup (pl_sh h1 (ShAll.cons b2 sn))).mono (Nat.le_refl _) e0⟩⟩
  · have dn := pl_dds h2 (ys := []) (es := []) .nil
    rw [List.append_nil, List.append_nil] at dn
    have sn := pl_sz h2 (SzA.nil (k := k))
    rw [List.append_nil] at sn
    exact ⟨_, .inr ⟨t, rfl, .tup ht (pl_dds h1 (.cons b1 dn)), (SzA.tup (pl_sz h1 (SzA.cons b2 sn))).mono (Nat.le_refl _) e0⟩⟩
theorem pl_ints {K : PySem.W.Frag} {G : Hp} : ∀ {r : List Nat}, (∀ x ∈ r, x < 60) → ∃ ts ds, PlL K G 2 6 (setV r) ts ds
  | [], _ => ⟨[], [], .nil⟩
  | x :: r, h => by
    obtain ⟨ts, ds, p⟩ := pl_ints (K := K) (G := G) (r := r) fun y hy => h y (List.mem_cons_of_mem _ hy)
    have hx := h x List.mem_cons_self
    exact ⟨_, _, .cons (.int x) (.int x) (.int x) ⟨(Sh.int (b := 6) (by decide) (by decide) (by omega)).mono (by decide) (Nat.le_refl _), trivial⟩ p⟩
theorem dd_ints {K : PySem.W.Frag} {G : Hp} : ∀ r : List Nat, DeAll K G (setV r) (natD r)
  | [] => .nil
  | x :: r => .cons (.int _) (dd_ints r)
theorem pl_rows {K : PySem.W.Frag} {G : Hp} {ts : List V} {rows : List (List Nat)} (R : RowsL K G ts rows) (h : ∀ r ∈ rows, r.length ≤ 60 ∧ ∀ x ∈ r, x < 60) : ∃ us ds, PlL K G 3 434 ts us ds := by
  unfold RowsL at R
  induction R with
  | nil => exact ⟨[], [], .nil⟩
  | @cons v r vs rs a _ ih =>
    obtain ⟨us, ds, p⟩ := ih fun x hx => h x (List.mem_cons_of_mem _ hx)
    obtain ⟨h1, h2⟩ := h r List.mem_cons_self
    obtain ⟨t, rfl, ht⟩ := a
    exact ⟨_, _, .cons (.tup ht (vts_setV r)) (.tup ht (dp_set r)) (.tup ht (dd_ints r)) ⟨(Sh.tup (sh_rowV (by omega) h2)).mono (by decide) (Nat.le_refl _), (by rw [List.length_map]; omega : _ ≤ 1000)⟩ p⟩
theorem val_pl {K : PySem.W.Frag} {G : Hp} {k wt : Nat} {xs : List V} {t1 : List TD} {d1 : List PyData} {t : Addr} (h : PlL K G k wt xs t1 d1) (hl : xs.length ≤ 900) (ht : SqT K G t xs) : Val K G (k + 1) ((wt + 1) * xs.length) (.ref t) := by
  have hn := pl_vts h (ys := []) (us := []) .nil
  have dn := pl_dps h (ys := []) (es := []) .nil
  have sn := pl_sh h (ShAll.nil.mono (Nat.zero_le k) (Nat.le_refl 0))
  rw [List.append_nil, List.append_nil] at hn dn
  rw [List.append_nil] at sn
  exact ⟨⟨_, .tup ht hn, (by rw [h.len.1]; omega : _ ≤ 1000), pl_short h⟩, _, .inl ⟨.tup ht dn, Sh.tup sn⟩⟩
theorem val_pll {K : PySem.W.Frag} {G : Hp} {k wt : Nat} {xs : List V} {t1 : List TD} {d1 : List PyData} {t : Addr} (h : PlL K G k wt xs t1 d1) (ht : G t = some (.lst xs)) : Val K G (k + 1) ((wt + 1) * xs.length) (.ref t) := by
  have dn := pl_dps h (ys := []) (es := []) .nil
  have sn := pl_sh h (ShAll.nil.mono (Nat.zero_le k) (Nat.le_refl 0))
  rw [List.append_nil, List.append_nil] at dn
  rw [List.append_nil] at sn
  exact ⟨⟨.oth "list", .oth (.base (.lst ht)) (by decide) (by decide) (by decide), trivial⟩, _, .inl ⟨.lst (SqL.of ht) dn, Sh.lst sn⟩⟩
theorem pl_one {K : PySem.W.Frag} {G : Hp} {k wt : Nat} {xs : List V} {t1 : List TD} {d1 : List PyData} {t : Addr} (h : PlL K G k wt xs t1 d1) (hl : xs.length ≤ 1000) (ht : SqT K G t xs) : ∃ ts ds, PlL K G (k + 1) ((wt + 1) * xs.length) [.ref t] ts ds := by
  have hn := pl_vts h (ys := []) (us := []) .nil
  have dn := pl_dps h (ys := []) (es := []) .nil
  have ddn := pl_dds h (ys := []) (es := []) .nil
  have sn := pl_sh h (ShAll.nil.mono (Nat.zero_le k) (Nat.le_refl 0))
  rw [List.append_nil, List.append_nil] at hn dn ddn
  rw [List.append_nil] at sn
  exact ⟨_, _, .cons (.tup ht hn) (.tup ht dn) (.tup ht ddn) ⟨Sh.tup sn, (by rw [h.len.1]; exact hl : _ ≤ 1000)⟩ .nil⟩
theorem sh_empty13 : Sh 0 100 (.str "") := ⟨by decide +kernel, by decide +kernel, by decide +kernel, by decide +kernel, by decide +kernel⟩
theorem val_empty {K : PySem.W.Frag} {G : Hp} : Val K G 2 1000 (.str "") := ⟨⟨.oth "str", .oth (.base (.str "")) (by decide) (by decide) (by decide), trivial⟩, .str "", .inl ⟨.str "", sh_empty13.mono (by decide) (by decide)⟩⟩

theorem Val.mono22 {K : PySem.W.Frag} {G : Hp} {k wt k' wt' : Nat} {v : V} (h : Val K G k wt v) (a : k ≤ k') (b : wt ≤ wt') : Val K G k' wt' v := by
  obtain ⟨h1, d, h | ⟨x, e, h2, h3⟩⟩ := h
  · exact ⟨h1, d, .inl ⟨h.1, h.2.mono a b⟩⟩
  · exact ⟨h1, d, .inr ⟨x, e, h2, Nat.le_trans h3.1 a, h3.2.1, h3.2.2.1, Nat.le_trans h3.2.2.2 b⟩⟩
/-! ### a plain value -/
def Pl1 (K : PySem.W.Frag) (G : Hp) (k wt : Nat) (x : V) : Prop := ∃ t d, VT K G x t ∧ Dp K G x d ∧ De K G x d ∧ Sh k wt d ∧ ShT1 t
theorem pl_of {K : PySem.W.Frag} {G : Hp} {k wt : Nat} : ∀ {xs : List V}, (∀ x ∈ xs, Pl1 K G k wt x) → ∃ ts ds, PlL K G k wt xs ts ds
  | [], _ => ⟨[], [], .nil⟩
  | x :: xs, h => by
    obtain ⟨ts, ds, p⟩ := pl_of fun y hy => h y (List.mem_cons_of_mem _ hy)
    obtain ⟨t, d, a, b, c, e⟩ := h x List.mem_cons_self
    exact ⟨_, _, .cons a b c e p⟩
theorem Pl1.same {K : PySem.W.Frag} {G G' : Hp} {k wt : Nat} {x : V} (s : Same G G') (h : Pl1 K G k wt x) : Pl1 K G' k wt x := by
  obtain ⟨t, d, a, b, c, e⟩ := h
  exact ⟨t, d, VT.same s a, dp_sameV s b, de_sameV s c, e⟩
theorem Pl1.int {K : PySem.W.Frag} {G : Hp} {k wt i : Nat} (hk : 1 ≤ k) (hw : 6 ≤ wt) (hi : i < 60) : Pl1 K G k wt (.int (i : Int)) := ⟨_, _, .int i, .int i, .int i, (Sh.int (b := 6) (by decide) (by decide) (by omega)).mono (by omega) hw, trivial⟩
theorem Pl1.mono {K : PySem.W.Frag} {G : Hp} {k wt k' wt' : Nat} {x : V} (h : Pl1 K G k wt x) (a : k ≤ k') (b : wt ≤ wt') : Pl1 K G k' wt' x := by
  obtain ⟨t, d, p, q, r, s⟩ := h
  exact ⟨t, d, p, q, r, s.1.mono a b, s.2⟩
theorem Pl1.tup {K : PySem.W.Frag} {G : Hp} {k wt : Nat} {t : Addr} {xs : List V} (h : ∀ x ∈ xs, Pl1 K G k wt x) (hl : xs.length ≤ 1000) (ht : SqT K G t xs) : Pl1 K G (k + 1) ((wt + 1) * xs.length) (.ref t) := by
  obtain ⟨ts, ds, p⟩ := pl_of h
  obtain ⟨us, es, q⟩ := pl_one p hl ht
  cases q with
  | cons a b c d _ => exact ⟨_, _, a, b, c, d⟩
theorem Pl1.row {K : PySem.W.Frag} {G : Hp} {t : Addr} {r : List Nat} (ht : SqT K G t (setV r)) (hl : r.length ≤ 60) (h : ∀ x ∈ r, x < 60) : Pl1 K G 3 434 (.ref t) := by
  have := Pl1.tup (k := 2) (wt := 6) (xs := setV r) (fun x hx => by
    obtain ⟨m, hm, rfl⟩ := setV_mem hx
    exact Pl1.int (by decide) (by decide) (h m hm)) (by rw [setV_len]; omega) ht
  rw [setV_len] at this
  exact this.mono (by decide) (by omega)
theorem val_tups {K : PySem.W.Frag} {G : Hp} {k wt w : Nat} {t : Addr} {xs : List V} (h : ∀ x ∈ xs, Pl1 K G k wt x) (ht : SqT K G t xs) (hl : xs.length ≤ 900) (hw : (wt + 1) * xs.length ≤ w) : Val K G (k + 1) w (.ref t) := by
  obtain ⟨ts, ds, p⟩ := pl_of h
  exact (val_pl p hl ht).mono22 (Nat.le_refl _) hw
theorem val_lists {K : PySem.W.Frag} {G : Hp} {k wt w : Nat} {t : Addr} {xs : List V} (h : ∀ x ∈ xs, Pl1 K G k wt x) (ht : G t = some (.lst xs)) (hw : (wt + 1) * xs.length ≤ w) : Val K G (k + 1) w (.ref t) := by
  obtain ⟨ts, ds, p⟩ := pl_of h
  exact (val_pll p ht).mono22 (Nat.le_refl _) hw
theorem val_dicV {K : PySem.W.Frag} {G : Hp} {k wt : Nat} {p : Addr} {v : V} (hp : G p = some (.dK [(.inl 0, v)])) (h : Pl1 K G k wt v) : Val K G (k + 1) (wt + 2) (.ref p) := by
  obtain ⟨t, e, _, _, c, s, _⟩ := h
  refine ⟨⟨.oth "dict", .oth (.base (.dK hp)) (by decide) (by decide) (by decide), trivial⟩, _, .inr ⟨p, rfl, .dicV hp c, ?_⟩⟩
  refine ⟨?_, ?_, ?_, ?_⟩
  · show max (max (PyData.depth (.int 0)) (PyData.depth e)) 0 + 1 ≤ k + 1
    have := s.dep
    have z : PyData.depth (.int 0) = 0 := by decide +kernel
    omega
  · show (PyData.showable (.int 0) && PyData.showable e && true) = true
    rw [s.shw]
    decide +kernel
  · show (PyData.leavesShort 200 (.int 0) && PyData.leavesShort 200 e && true) = true
    rw [s.lvs]
    decide +kernel
  · show PyData.weight (.int 0) + PyData.weight e + 2 + 0 ≤ wt + 2
    have := s.wgt
    have z : PyData.weight (.int 0) = 0 := by decide +kernel
    omega
/-- one: a server, or a tuple of plain things -/
def One22 (K : PySem.W.Frag) (G : Hp) (v : V) : Prop := (∃ i : Nat, v = .int i ∧ i < 60) ∨ ∃ (t : Addr) (xs : List V) (k wt : Nat), v = .ref t ∧ SqT K G t xs ∧ 1 ≤ xs.length ∧ xs.length ≤ 60 ∧ (∀ x ∈ xs, Pl1 K G k wt x) ∧ 2 ≤ k ∧ k ≤ 3 ∧ 6 ≤ wt ∧ (wt + 1) * (xs.length + 1) ≤ 2000
theorem One22.same {K : PySem.W.Frag} {G G' : Hp} {v : V} (s : Same G G') (h : One22 K G v) : One22 K G' v := by
  rcases h with h | ⟨t, xs, k, wt, e, h1, h2, h3, h4, h5⟩
  · exact .inl h
  · exact .inr ⟨t, xs, k, wt, e, Same.seqT s h1, h2, h3, fun x hx => (h4 x hx).same s, h5⟩
theorem One22.pl {K : PySem.W.Frag} {G : Hp} {v : V} (h : One22 K G v) : Pl1 K G 4 2000 v := by
  rcases h with ⟨i, rfl, hi⟩ | ⟨t, xs, k, wt, rfl, h1, h2, h3, h4, h5, h6, h7, h8⟩
  · exact Pl1.int (by decide) (by decide) hi
  · refine (Pl1.tup h4 (by omega) h1).mono (by omega) (Nat.le_trans (Nat.mul_le_mul_left _ (Nat.le_succ _)) h8)
/-! ### another value in the place of one -/
def spOdd22 (K : PySem.W.Frag) : Sp := fun vs H Q _ => ∃ (p : Addr) (m : Nat) (one : V) (G : Hp), vs = [.ref p, one] ∧ PotAt H p m ∧ m ≤ 100000 ∧ Same G H ∧ G p = none ∧ One22 K G one ∧
  ∀ H' G' v, Grow p G H G' H' → PotAt H' p (m + 1) → Val K G' 5 3000 v → Q v H'
section
variable {P : Program} {w : World} {K : PySem.W.Frag} {mg : Str → Option Value} {base : Heap}
theorem ok_odd22 (T : Txt K mg) {j : Nat} : FnOk P w K mg base CX0 (j + 3) T.fOdd22 T.fdOdd22 ["_law_pot_here", "_law_one"] (spOdd22 K) := by
  refine T.FOdd22.ok scOdd22 (fun vs H Q E h => ?_) (fun cdv A outer s H vs Q E hr h => ?_)
  · obtain ⟨p, m, one, G, rfl, _⟩ := h
    rfl
  · obtain ⟨p, m, one, G, rfl, hP, hm, sG, gp, h1, q⟩ := h
    refine ⟨_, pss_cons (ps_set (i := 2) scOdd22.nd rfl (.inl rfl) (pe_lst (pa_cons pe_non (pa_cons pe_bl (pa_cons pe_bl (pa_cons (pe_un un_neg pe_int) (pa_cons pe_int (pa_cons pe_int (pa_cons pe_int (pa_cons pe_str (pa_cons (pe_tup pa_nil) (pa_cons (pe_lst pa_nil) (pa_cons pe_dnewK (pa_cons (pe_tup (pa_cons (pv 1) pa_nil)) pa_nil)))))))))))))) (C8.pss_cut (ps_if (pt_val (pe_callB (call_isiK1 K) (by rfl) T.n_isinstance (by decide +kernel) (pa_cons (pv 1) (pa_cons (pe_bltn (v := .ty "tuple") (by rfl) T.n_tuple (by decide +kernel) rfl) pa_nil)))) (pss_one (ps_set (i := 2) scOdd22.nd rfl (.inl rfl) (pe_op op_cat (pe_slice (sl_listK (K := K)) (pv 2) po_none (po_some pe_int)) (pe_lst (pa_cons (pe_callTy (call_listK K) (by rfl) T.n_list (by decide +kernel) (pa_cons (pv 1) pa_nil)) (pa_cons (pe_revT (pv 1)) (pa_cons (pe_op op_catT (pv 1) (pe_slice (sl_tupS K) (pv 1) po_none (po_some pe_int))) (pa_cons (pe_slice sl_tup (pv 1) (po_some pe_int) po_none) (pa_cons (pe_tup pa_nil) (pa_cons (pe_op op_catT (pv 1) (pe_tup (pa_cons pe_int pa_nil))) (pa_cons (pe_tup (pa_cons (pv 1) pa_nil)) (pa_cons (pe_disp (pps_cons pe_int (pv 1) pps_nil) rfl rfl (List.cons_ne_nil _ _) (by show 1 ≤ 15; decide)) pa_nil)))))))))))) pss_nil) (pss_one (ps_ret (pe_call (ok_of T) hr (by rfl) T.gOf T.FOf.kp T.bOf .nil pass0 (pa_cons (pv 0) (pa_cons (pv 2) pa_nil)))))), ?_⟩
    have hp : H p ≠ none := by
      obtain ⟨a, b, c, h, _⟩ := hP
      rw [h]
      exact fun z => by cases z
    let NV : Hp → V → Prop := fun Hx v => ∀ G', Same G G' → (∀ x o, Hx x = some o → H x = none → G' x = some o) → Val K G' 5 3000 v
    have nvm : ∀ {Hx Hy : Hp} {v : V}, Same Hx Hy → NV Hx v → NV Hy v := fun s h G' a b => h G' a fun x o e n => b x o (s _ _ e) n
    have up : ∀ {G' : Hp} {v : V}, Val K G' 2 1000 v → Val K G' 5 3000 v := fun h => h.mono22 (by decide) (by decide)
    refine ⟨_, rfl, by show 0 ≤ sizeLine; decide, fun t1 nt1 => ?_⟩
    have s1 := same_new (o := .tup []) nt1
    have h1t : (upd H t1 (.tup [])) t1 = some (.tup []) := upd_same
    show tCons _ _ _ (upd H t1 (.tup [])) _
    generalize upd H t1 (.tup []) = H1 at s1 h1t ⊢
    refine ⟨by show 0 ≤ sizeLine; decide, fun t2 nt2 => ?_⟩
    have s2 := same_new (o := .lst []) nt2
    have h2t : (upd H1 t2 (.lst [])) t2 = some (.lst []) := upd_same
    show tCons _ _ _ (upd H1 t2 (.lst [])) _
    generalize upd H1 t2 (.lst []) = H2 at s2 h2t ⊢
    intro t3 nt3
    have s3 := same_new (o := .dK []) nt3
    have h3t : (upd H2 t3 (.dK [])) t3 = some (.dK []) := upd_same
    show tCons _ _ _ (upd H2 t3 (.dK [])) _
    generalize upd H2 t3 (.dK []) = H3 at s3 h3t ⊢
    refine ⟨_, rfl, by show 1 ≤ sizeLine; decide, fun t4 nt4 => ?_⟩
    have s4 := same_new (o := .tup [one]) nt4
    have h4t : (upd H3 t4 (.tup [one])) t4 = some (.tup [one]) := upd_same
    show tNil _ (upd H3 t4 (.tup [one])) _
    generalize upd H3 t4 (.tup [one]) = H4 at s4 h4t ⊢
    have s14 := (s2.trans s3).trans s4
    have sH2 := s1.trans s2
    have sH3 := sH2.trans s3
    have sH4 := sH3.trans s4
    refine ⟨by show 12 ≤ sizeLine; decide, fun l nl => ?_⟩
    generalize hvs : [V.non, V.bl true, V.bl false, V.int (-1), V.int 0, V.int 1, V.int 9, V.str "0", V.ref t1, V.ref t2, V.ref t3, V.ref t4] = vs0
    have NV0 : ∀ v ∈ vs0, NV H4 v := by
      rw [← hvs]
      intro v hv G' sGG new
      have f1 := new t1 _ (s14 _ _ h1t) nt1
      have f2 := new t2 _ ((s3.trans s4) _ _ h2t) (s1.free nt2)
      have f3 := new t3 _ (s4 _ _ h3t) (sH2.free nt3)
      have f4 := new t4 _ h4t (sH3.free nt4)
      simp only [List.mem_cons, List.not_mem_nil, or_false] at hv
      rcases hv with rfl | rfl | rfl | rfl | rfl | rfl | rfl | rfl | rfl | rfl | rfl | rfl
      · exact up val_non
      · exact up (val_bl true)
      · exact up (val_bl false)
      · exact up (val_int (by decide))
      · exact up (val_int (by decide))
      · exact up (val_int (by decide))
      · exact up (val_int (by decide))
      · exact up val_zero
      · exact up (val_row (r := []) (SqT.of f1) (by decide) (by simp))
      · exact up (val_listV (r := []) f2 (by decide) (by simp))
      · exact up (val_dic0 f3)
      · exact val_tups (xs := [one]) (k := 4) (wt := 2000) (fun x hx => by rw [List.mem_singleton.mp hx]; exact (h1.same sGG).pl) (SqT.of f4) (by show 1 ≤ 900; decide) (by show 2001 * 1 ≤ 3000; decide)
    have vl0 : vs0.length = 12 := by rw [← hvs]; rfl
    have t6 : ∀ v ∈ vs0.take 6, NV H4 v := fun v hv => NV0 v (List.mem_of_mem_take hv)
    have s6 := same_new (o := .lst vs0) nl
    have hl : (upd H4 l (.lst vs0)) l = some (.lst vs0) := upd_same
    show gName 2 (.ref l) _ (upd H4 l (.lst vs0)) _
    generalize upd H4 l (.lst vs0) = H6 at s6 hl ⊢
    have sH6 := sH4.trans s6
    clear hvs s1 s2 s3 s4 s14 sH2 sH3 h1t h2t h3t h4t nt1 nt2 nt3 nt4
    dsimp only [gName]
    have nlH : H l = none := sH4.free nl
    refine ⟨fun σ Hx => ∃ l2 vs, σ = [some (.ref p), some one, some (.ref l2)] ∧ Same H Hx ∧ H l2 = none ∧ Hx l2 = some (.lst vs) ∧ 1 ≤ vs.length ∧ vs.length ≤ 20 ∧ ∀ v ∈ vs, NV Hx v, ?_, ?_⟩
    · rcases id h1 with ⟨i1, rfl, hi1⟩ | ⟨t, r, kk, wt, rfl, ht, hr1, hr2, hr3, hk2, hk3, hw6, hw⟩
      · refine ⟨_, rfl, _, .ty "tuple", _, _, _, rfl, .ty _, .base (.int _), kit_tuple (t := "int") (by decide), _, rfl, iteF ?_⟩
        exact ⟨l, vs0, rfl, sH6, nlH, hl, by omega, by omega, fun v hv => nvm s6 (NV0 v hv)⟩
      have htH := Same.seqT (sG.trans sH6) ht
      obtain ⟨pts, pds, ppl⟩ := pl_of hr3
      have vts : VTs K H6 r pts := by
        have := pl_vts ppl (ys := []) (us := []) .nil
        rw [List.append_nil, List.append_nil] at this
        exact VTs.same (sG.trans sH6) this
      refine ⟨_, rfl, _, .ty "tuple", _, _, _, rfl, .ty _, (VT.ty (.tup htH vts)).1, kit_tuple (t := "tuple") (by decide), _, rfl, iteT ?_⟩
      refine ⟨.ref l, rfl, 6, rfl, l, _, rfl, SqL.of hl, fun a0 na0 => ?_⟩
      rw [show cutV vs0 none (some (6 : Int)) = vs0.take 6 by
        unfold cutV
        rw [HT.sIx_none, show (6 : Int) = ((6 : Nat) : Int) from rfl, HT.sIx_nat, Nat.min_eq_left (by omega)]
        rfl]
      have za0 := same_new (o := .lst (vs0.take 6)) na0
      have fa0 : (upd H6 a0 (.lst (vs0.take 6))) a0 = some (.lst (vs0.take 6)) := upd_same
      show tLst _ _ (upd H6 a0 (.lst (vs0.take 6))) _
      generalize upd H6 a0 (.lst (vs0.take 6)) = H7 at za0 fa0 ⊢
      refine ⟨_, rfl, t, _, rfl, .inr (Same.seqT za0 htH), fun a1 na1 => ?_⟩
      have za1 := same_new (o := .lst r) na1
      have fa1 : (upd H7 a1 (.lst r)) a1 = some (.lst r) := upd_same
      show tCons _ _ _ (upd H7 a1 (.lst r)) _
      generalize upd H7 a1 (.lst r) = H8 at za1 fa1 ⊢
      have ht8 := Same.seqT (za0.trans za1) htH
      refine ⟨_, rfl, t, _, rfl, ht8, fun a2 na2 => ?_⟩
      have za2 := same_new (o := .tup r.reverse) na2
      have fa2 : (upd H8 a2 (.tup r.reverse)) a2 = some (.tup r.reverse) := upd_same
      show tCons _ _ _ (upd H8 a2 (.tup r.reverse)) _
      generalize upd H8 a2 (.tup r.reverse) = H9 at za2 fa2 ⊢
      have ht9 := Same.seqT za2 ht8
      refine ⟨_, rfl, _, rfl, 1, rfl, t, _, rfl, ht9, fun a3 H10 s10 h3 => ?_⟩
      have c1 : cutV r none (some (1 : Int)) = r.take 1 := by
        unfold cutV
        rw [HT.sIx_none, show (1 : Int) = ((1 : Nat) : Int) from rfl, HT.sIx_nat, Nat.min_eq_left hr1]
        rfl
      rw [c1] at h3
      have ht10 := Same.seqT s10 ht9
      have l1 : (r.take 1).length = 1 := by rw [List.length_take]; omega
      have rne : ¬ r = [] := fun e => by rw [e] at hr1; exact absurd hr1 (by decide)
      refine ⟨t, a3, _, _, rfl, rfl, ht10, h3, fun e => absurd e rne, by rw [l1, sizeLine_eq]; omega, fun e => absurd (congrArg List.length e) (by rw [l1]; decide), fun _ a4 na4 => ?_⟩
      have za4 := same_new (o := .tup (r ++ r.take 1)) na4
      have fa4 : (upd H10 a4 (.tup (r ++ r.take 1))) a4 = some (.tup (r ++ r.take 1)) := upd_same
      show tCons _ _ _ (upd H10 a4 (.tup (r ++ r.take 1))) _
      generalize upd H10 a4 (.tup (r ++ r.take 1)) = H11 at za4 fa4 ⊢
      have ht11 := Same.seqT za4 ht10
      have cd : cutV r (some (1 : Int)) none = r.drop 1 := by
        unfold cutV
        rw [HT.sIx_none, show (1 : Int) = ((1 : Nat) : Int) from rfl, HT.sIx_nat, Nat.min_eq_left hr1, List.take_of_length_le (by rw [List.length_drop]; exact Nat.le_refl _)]
      refine ⟨_, rfl, 1, rfl, t, _, rfl, ht11, fun z => ?_, fun a5 na5 => ?_⟩
      · have z1 := z.1
        rw [show (1 : Int) = ((1 : Nat) : Int) from rfl, HT.sIx_nat, Nat.min_eq_left hr1] at z1
        cases z1
      rw [cd]
      have za5 := same_new (o := .tup (r.drop 1)) na5
      have fa5 : (upd H11 a5 (.tup (r.drop 1))) a5 = some (.tup (r.drop 1)) := upd_same
      show tCons _ _ _ (upd H11 a5 (.tup (r.drop 1))) _
      generalize upd H11 a5 (.tup (r.drop 1)) = H12 at za5 fa5 ⊢
      have ht12 := Same.seqT za5 ht11
      refine ⟨by show 0 ≤ sizeLine; decide, fun a6 na6 => ?_⟩
      have za6 := same_new (o := .tup []) na6
      have fa6 : (upd H12 a6 (.tup [])) a6 = some (.tup []) := upd_same
      show tCons _ _ _ (upd H12 a6 (.tup [])) _
      generalize upd H12 a6 (.tup []) = H13 at za6 fa6 ⊢
      refine ⟨_, rfl, by show 1 ≤ sizeLine; decide, fun a7 na7 => ?_⟩
      have za7 := same_new (o := .tup [V.int 0]) na7
      have fa7 : (upd H13 a7 (.tup [V.int 0])) a7 = some (.tup [V.int 0]) := upd_same
      show rCatT _ _ _ (upd H13 a7 (.tup [V.int 0])) _
      generalize upd H13 a7 (.tup [V.int 0]) = H14 at za7 fa7 ⊢
      have ht14 := Same.seqT ((za6.trans za7)) ht12
      refine ⟨t, a7, _, _, rfl, rfl, ht14, SqT.of fa7, fun e => absurd e rne, by show r.length + 1 ≤ sizeLine; rw [sizeLine_eq]; omega, fun e => (by cases e), fun _ a8 na8 => ?_⟩
      have za8 := same_new (o := .tup (r ++ [V.int 0])) na8
      have fa8 : (upd H14 a8 (.tup (r ++ [V.int 0]))) a8 = some (.tup (r ++ [V.int 0])) := upd_same
      show tCons _ _ _ (upd H14 a8 (.tup (r ++ [V.int 0]))) _
      generalize upd H14 a8 (.tup (r ++ [V.int 0])) = H15 at za8 fa8 ⊢
      refine ⟨_, rfl, by show 1 ≤ sizeLine; decide, fun a9 na9 => ?_⟩
      have za9 := same_new (o := .tup [V.ref t]) na9
      have fa9 : (upd H15 a9 (.tup [V.ref t])) a9 = some (.tup [V.ref t]) := upd_same
      show tCons _ _ _ (upd H15 a9 (.tup [V.ref t])) _
      generalize upd H15 a9 (.tup [V.ref t]) = H16 at za9 fa9 ⊢
      intro b0 nb0
      refine ⟨_, rfl, upd_same, [(.inl 0, .ref t)], rfl, by show 1 ≤ 15; decide, ?_⟩
      have zb0 : Same H16 (upd (upd H16 b0 (.dK [])) b0 (.dK [(.inl 0, .ref t)])) := keep_upd (same_new nb0) nb0
      have fb0 : (upd (upd H16 b0 (.dK [])) b0 (.dK [(.inl 0, .ref t)])) b0 = some (.dK [(.inl 0, .ref t)]) := upd_same
      show tNil _ (upd (upd H16 b0 (.dK [])) b0 (.dK [(.inl 0, .ref t)])) _
      generalize upd (upd H16 b0 (.dK [])) b0 (.dK [(.inl 0, .ref t)]) = H17 at zb0 fb0 ⊢
      refine ⟨by show 8 ≤ sizeLine; decide, fun b1 nb1 => ?_⟩
      generalize hv8 : [V.ref a1, V.ref a2, V.ref a4, V.ref a5, V.ref a6, V.ref a8, V.ref a9, V.ref b0] = v8
      have zb1 := same_new (o := .lst v8) nb1
      have fb1 : (upd H17 b1 (.lst v8)) b1 = some (.lst v8) := upd_same
      show rCat _ _ (upd H17 b1 (.lst v8)) _
      generalize upd H17 b1 (.lst v8) = H18 at zb1 fb1 ⊢
      have k7 := sH6.trans za0
      have k8 := k7.trans za1
      have k9 := k8.trans za2
      have k10 := k9.trans s10
      have k11 := k10.trans za4
      have k12 := k11.trans za5
      have k13 := k12.trans za6
      have k14 := k13.trans za7
      have k15 := k14.trans za8
      have k16 := k15.trans za9
      have k17 := k16.trans zb0
      have k18 := k17.trans zb1
      have m16 := zb0.trans zb1
      have m15 := za9.trans m16
      have m14 := za8.trans m15
      have m13 := za7.trans m14
      have m12 := za6.trans m13
      have m11 := za5.trans m12
      have m10 := za4.trans m11
      have m9 := s10.trans m10
      have m8 := za2.trans m9
      have m7 := za1.trans m8
      have len8 : v8.length = 8 := by rw [← hv8]; rfl
      have w0 : ∀ k, k ≤ r.length + 1 → (wt + 1) * k ≤ 3000 := fun k hk => Nat.le_trans (Nat.mul_le_mul_left _ hk) (by omega)
      have pe : ∀ {G'}, Same G G' → ∀ x ∈ r, Pl1 K G' 4 wt x := fun s x hx => ((hr3 x hx).same s).mono (by omega) (Nat.le_refl _)
      have NV8 : ∀ v ∈ v8, NV H18 v := by
        rw [← hv8]
        intro v hv G' sGG new
        have g1 := new a1 _ (m8 _ _ fa1) (k7.free na1)
        have g2 := new a2 _ (m9 _ _ fa2) (k8.free na2)
        have g4 := new a4 _ (m11 _ _ fa4) (k10.free na4)
        have g5 := new a5 _ (m12 _ _ fa5) (k11.free na5)
        have g6 := new a6 _ (m13 _ _ fa6) (k12.free na6)
        have g8 := new a8 _ (m15 _ _ fa8) (k14.free na8)
        have g9 := new a9 _ (m16 _ _ fa9) (k15.free na9)
        have g10 := new b0 _ (zb1 _ _ fb0) (k16.free nb0)
        have pl := (h1.same sGG).pl
        have pe := pe sGG
        simp only [List.mem_cons, List.not_mem_nil, or_false] at hv
        rcases hv with rfl | rfl | rfl | rfl | rfl | rfl | rfl | rfl
        · exact val_lists pe g1 (w0 _ (by omega))
        · exact val_tups (fun x hx => pe x (List.mem_reverse.mp hx)) (SqT.of g2) (by rw [List.length_reverse]; omega) (w0 _ (by rw [List.length_reverse]; omega))
        · exact val_tups (fun x hx => (List.mem_append.mp hx).elim (pe x) fun h => pe x (List.mem_of_mem_take h)) (SqT.of g4) (by rw [List.length_append, l1]; omega) (w0 _ (by rw [List.length_append, l1]; omega))
        · exact val_tups (fun x hx => pe x (List.mem_of_mem_drop hx)) (SqT.of g5) (by rw [List.length_drop]; omega) (w0 _ (by rw [List.length_drop]; omega))
        · exact up (val_row (r := []) (SqT.of g6) (by decide) (by simp))
        · exact val_tups (fun x hx => (List.mem_append.mp hx).elim (pe x) fun h => by rw [List.mem_singleton.mp h]; exact Pl1.int (i := 0) (by decide) hw6 (by decide)) (SqT.of g8) (by rw [List.length_append]; show r.length + 1 ≤ 900; omega) (w0 _ (by rw [List.length_append]; exact Nat.le_refl _))
        · exact val_tups (xs := [V.ref t]) (k := 4) (wt := 2000) (fun x hx => by rw [List.mem_singleton.mp hx]; exact pl) (SqT.of g9) (by show 1 ≤ 900; decide) (by show 2001 * 1 ≤ 3000; decide)
        · exact (val_dicV g10 pl).mono22 (by decide) (by decide)
      refine ⟨a0, b1, _, _, rfl, rfl, m7 _ _ fa0, fb1, by rw [len8, List.length_take, vl0, sizeLine_eq]; decide, fun l2 nl2 => ?_⟩
      have zl2 := same_new (o := .lst (vs0.take 6 ++ v8)) nl2
      have fl2 : (upd H18 l2 (.lst (vs0.take 6 ++ v8))) l2 = some (.lst (vs0.take 6 ++ v8)) := upd_same
      show gName 2 (.ref l2) _ (upd H18 l2 (.lst (vs0.take 6 ++ v8))) _
      generalize upd H18 l2 (.lst (vs0.take 6 ++ v8)) = H19 at zl2 fl2 ⊢
      refine ⟨l2, _, rfl, k18.trans zl2, k18.free nl2, fl2, by rw [List.length_append, len8]; omega, by rw [List.length_append, len8, List.length_take]; omega, fun v hv => ?_⟩
      rcases List.mem_append.mp hv with h | h
      · exact nvm (s6.trans (za0.trans (m7.trans zl2))) (t6 v h)
      · exact nvm zl2 (NV8 v h)
    rintro σ Hx ⟨l2, vs, rfl, sx, nl2, hl2, v1, v2, nv⟩
    refine ⟨.ref p, rfl, .ref l2, rfl, p, _, l2, vs, rfl, hP.same sx, by omega, hl2, fun e => hp (by rw [← e]; exact nl2), v1, by omega, fun v H' hv P' B' => ?_⟩
    obtain ⟨gr, new⟩ := grow_mk sG gp hp sx B'
    exact q _ _ v gr P' (nv v hv _ gr.1 new)
end
/-! ### one place of a tuple bent -/
/-- d levels of tuples over servers -/
def B22 (K : PySem.W.Frag) (G : Hp) : Nat → V → Prop
  | 0, v => ∃ i : Nat, v = .int i ∧ i < 60
  | d + 1, v => ∃ (t : Addr) (xs : List V), v = .ref t ∧ SqT K G t xs ∧ 1 ≤ xs.length ∧ xs.length ≤ (if d = 0 then 60 else 3) ∧ ∀ x ∈ xs, B22 K G d x
def kB : Nat → Nat
  | 0 => 1
  | 1 => 2
  | _ => 3
def wB : Nat → Nat
  | 0 => 6
  | 1 => 6
  | _ => 434
theorem B22.same {K : PySem.W.Frag} {G G' : Hp} (s : Same G G') : ∀ {d : Nat} {v : V}, B22 K G d v → B22 K G' d v
  | 0, _, h => h
  | d + 1, _, ⟨t, xs, e, h, l1, l2, a⟩ => ⟨t, xs, e, Same.seqT s h, l1, l2, fun x hx => B22.same s (a x hx)⟩
theorem B22.pl0 {K : PySem.W.Frag} {G : Hp} {v : V} (h : B22 K G 0 v) : Pl1 K G 2 6 v := by
  obtain ⟨i, rfl, hi⟩ := h
  exact Pl1.int (by decide) (by decide) hi
theorem B22.pl1 {K : PySem.W.Frag} {G : Hp} {v : V} (h : B22 K G 1 v) : Pl1 K G 3 434 v := by
  obtain ⟨t, xs, rfl, h, l1, l2, a⟩ := h
  have l2 : xs.length ≤ 60 := l2
  exact (Pl1.tup (fun x hx => (a x hx).pl0) (by omega) h).mono (Nat.le_refl _) (by omega)
theorem B22.one0 {K : PySem.W.Frag} {G : Hp} {v : V} (h : B22 K G 0 v) : One22 K G v := .inl h
theorem B22.one1 {K : PySem.W.Frag} {G : Hp} {v : V} (h : B22 K G 1 v) : One22 K G v := by
  obtain ⟨t, xs, e, h, l1, l2, a⟩ := h
  have l2 : xs.length ≤ 60 := l2
  exact Or.inr ⟨t, xs, 2, 6, e, h, l1, l2, fun x hx => (a x hx).pl0, Nat.le_refl _, by omega, Nat.le_refl _, by omega⟩
theorem B22.one2 {K : PySem.W.Frag} {G : Hp} {v : V} (h : B22 K G 2 v) : One22 K G v := by
  obtain ⟨t, xs, e, h, l1, l2, a⟩ := h
  have l2 : xs.length ≤ 3 := l2
  exact Or.inr ⟨t, xs, 3, 434, e, h, l1, by omega, fun x hx => (a x hx).pl1, by omega, Nat.le_refl _, by omega, by omega⟩
theorem B22.one {K : PySem.W.Frag} {G : Hp} {d : Nat} {v : V} (hd : d ≤ 2) (h : B22 K G d v) : One22 K G v := by
  rcases (by omega : d = 0 ∨ d = 1 ∨ d = 2) with rfl | rfl | rfl
  · exact h.one0
  · exact h.one1
  · exact h.one2
theorem step_new {p t : Addr} {G H : Hp} {o : HO} (s : Same G H) (gp : G p = none) (hp : H p ≠ none) (ht : H t = none) : ∃ G', Grow p G H G' (upd H t o) ∧ G' t = some o := by
  obtain ⟨a, b⟩ := grow_mk s gp hp (same_new (o := o) ht) (But.refl p _)
  exact ⟨_, a, b t o upd_same ht⟩
theorem grow_but {p : Addr} {G H H' : Hp} (s : Same G H) (gp : G p = none) (b : But p H H') : Grow p G H G H' := ⟨Same.refl _, fun x o e => b x o (fun z => by rw [z, gp] at e; cases e) (s x o e), gp, fun x g _ => g, b⟩
theorem cat_g {K : PySem.W.Frag} {p0 a b : Addr} {G H : Hp} {xs ys : List V} {Q : VK} (s : Same G H) (gp : G p0 = none) (hp : H p0 ≠ none) (ha : SqT K G a xs) (hb : SqT K G b ys) (l : xs.length + ys.length ≤ sizeLine) (q : ∀ t G' H', Grow p0 G H G' H' → Same H H' → SqT K G' t (xs ++ ys) → Q (.ref t) H') : rCatA K (.ref a) (.ref b) H Q := by
  refine ⟨a, b, xs, ys, rfl, rfl, Same.seqT s ha, Same.seqT s hb, l, fun e => ?_, fun _ e => ?_, fun _ _ t nt => ?_⟩
  · subst e
    exact q b G H (Grow.refl s gp) (Same.refl _) hb
  · subst e
    exact q a G H (Grow.refl s gp) (Same.refl _) (by rw [List.append_nil]; exact ha)
  · obtain ⟨G', g, e⟩ := step_new (o := .tup (xs ++ ys)) s gp hp nt
    exact q t G' _ g (same_new nt) (SqT.of e)
theorem sl_g {K : PySem.W.Frag} {p0 a : Addr} {G H : Hp} {xs : List V} {lo hi : Option Int} {Q : VK} (s : Same G H) (gp : G p0 = none) (hp : H p0 ≠ none) (ha : SqT K G a xs) (q : ∀ t G' H', Grow p0 G H G' H' → Same H H' → SqT K G' t (cutV xs lo hi) → Q (.ref t) H') : rSlA K (.ref a) lo hi H Q := by
  refine ⟨a, xs, rfl, Same.seqT s ha, fun w => ?_, fun _ t nt => ?_⟩
  · exact q a G H (Grow.refl s gp) (Same.refl _) (by rw [cut_whole w]; exact ha)
  · obtain ⟨G', g, e⟩ := step_new (o := .tup (cutV xs lo hi)) s gp hp nt
    exact q t G' _ g (same_new nt) (SqT.of e)
def spBent22 (K : PySem.W.Frag) (d : Nat) : Sp := fun vs H Q _ => ∃ (p : Addr) (m : Nat) (one : V) (G : Hp), vs = [.ref p, one, .int d] ∧ PotAt H p m ∧ m + 4 * d ≤ 99000 ∧ Same G H ∧ G p = none ∧ B22 K G d one ∧
  ∀ H' G' v, Grow p G H G' H' → PotAt H' p (m + 1 + 2 * d) → Val K G' (5 + d) (3000 + 2000 * d) v → Q v H'
section
variable {P : Program} {w : World} {K : PySem.W.Frag} {mg : Str → Option Value} {base : Heap}
theorem bent_step (T : Txt K mg) {j d : Nat} (hd : d ≤ 2) {sp : Sp} (hsp : ∀ d', d = d' + 1 → sp = spBent22 K d') (ok_bent22 : ∀ T : Txt K mg, FnOk P w K mg base CX0 (j + 3) T.fBent22 T.fdBent22 ["_law_pot_here", "_law_one", "_law_deep"] sp) : FnOk P w K mg base CX0 (j + 4) T.fBent22 T.fdBent22 ["_law_pot_here", "_law_one", "_law_deep"] (spBent22 K d) := by
  refine T.FBent22.ok scBent22 (fun vs H Q E h => ?_) (fun cdv A outer s H vs Q E hr h => ?_)
  · obtain ⟨p, m, one, G, rfl, _⟩ := h
    rfl
  · obtain ⟨p, m, one, G, rfl, hP, hm, sG, gp, hB, q⟩ := h
    have hu0 : (A.deeper (envOfC "_law_bent" (defScope sBent22) s.heap.objs.size T.fBent22 cdv)).units < cLine := by
      have := hr.un
      omega
    refine ⟨_, pss_cons (ps_if (PW.pt (pw_or (pt_not (pt_val (pe_callB (call_isiK1 K) (by rfl) T.n_isinstance (by decide +kernel) (pa_cons (pv 1) (pa_cons (pe_bltn (v := .ty "tuple") (by rfl) T.n_tuple (by decide +kernel) rfl) pa_nil))))) (pw_or (pt_cmpR (op_eqNil K hu0) (pv 1) (pe_tup pa_nil) (nomark _)) (pw_or (pt_cmpR op_eq (pv 2) pe_int (nomark _)) (pw_or1 (pt_cmpR op_eq (pe_call (ok_take T) hr (by rfl) T.gTake T.FTake.kp T.bTake .nil pass0 (pa_cons (pv 0) (pa_cons pe_int pa_nil))) pe_int (nomark _))))))) (pss_one (ps_ret (pe_call (ok_odd22 T) hr (by rfl) T.gOdd22 T.FOdd22.kp T.bOdd22 .nil pass0 (pa_cons (pv 0) (pa_cons (pv 1) pa_nil))))) pss_nil) (pss_cons (ps_set (i := 3) scBent22.nd rfl (.inl rfl) (pe_call (ok_take T) hr (by rfl) T.gTake T.FTake.kp T.bTake .nil pass0 (pa_cons (pv 0) (pa_cons (pe_callB (call_lenK K) (by rfl) T.n_len PySem.boot_len (pa_cons (pv 1) pa_nil)) pa_nil)))) (pss_one (ps_ret (pe_op op_catA (pe_op op_catA (pe_slice sl_tupA (pv 1) po_none (po_some (pv 3))) (pe_tup (pa_cons (pe_call (ok_bent22 T) hr (by rfl) T.gBent22 T.FBent22.kp T.bBent22 .nil pass0 (pa_cons (pv 0) (pa_cons (pe_ix (ix_tupK K) (pv 1) (pv 3) (fun _ _ => rfl)) (pa_cons (pe_op op_sub (pv 2) pe_int) pa_nil)))) pa_nil))) (pe_slice sl_tupA (pv 1) (po_some (pe_op op_add (pv 3) pe_int)) po_none))))), ?_⟩
    have hp : ∀ {H' : Hp} {m' : Nat}, PotAt H' p m' → H' p ≠ none := fun h e => by
      obtain ⟨a, b, c, h, _⟩ := h
      rw [e] at h
      cases h
    have h1 := hB.one hd
    have od : ∀ (H1 : Hp) (m1 : Nat), Grow p G H G H1 → PotAt H1 p m1 → m1 ≤ m + 2 * d → tRet (tCall (spOdd22 K) [] E0 (tCons (tVar 0) (tCons (tVar 1) tNil))) { nx := fun x H' => Q V.non H', rt := Q } (L2.start NBent22 [V.ref p, one, V.int ↑d]) H1 := fun H1 m1 g P1 l => by
      refine ⟨.ref p, rfl, one, rfl, p, m1, one, G, rfl, P1, by omega, g.2.1, gp, h1, fun H2 G2 v g2 P2 v2 => ?_⟩
      exact q _ _ _ (g.trans g2) (P2.mono (by omega)) (v2.mono22 (by omega) (by omega))
    cases d with
    | zero =>
      obtain ⟨i, rfl, hi⟩ := hB
      refine ⟨_, rfl, _, .ty "tuple", _, _, _, rfl, .ty _, .base (.int _), kit_tuple (t := "int") (by decide), _, rfl, iteT ?_⟩
      exact od H m (Grow.refl sG gp) hP (by omega)
    | succ d =>
    obtain ⟨t, xs, rfl, hx, l1, l2, al⟩ := id hB
    have hw : ∃ wt, (∀ x ∈ xs, Pl1 K G (5 + d) wt x) ∧ (wt + 1) * xs.length ≤ 1500 := by
      rcases (by omega : d = 0 ∨ d = 1) with rfl | rfl
      · have l2 : xs.length ≤ 60 := l2
        exact ⟨6, fun x hx => (al x hx).pl0.mono (by omega) (Nat.le_refl _), by omega⟩
      · have l2 : xs.length ≤ 3 := l2
        exact ⟨434, fun x hx => (al x hx).pl1.mono (by omega) (Nat.le_refl _), by omega⟩
    obtain ⟨wt, pls, wl⟩ := hw
    have lx : xs.length ≤ 60 := Nat.le_trans l2 (by split <;> omega)
    obtain ⟨pts, pds, ppl⟩ := pl_of pls
    have vts : VTs K G xs pts := by
      have := pl_vts ppl (ys := []) (us := []) .nil
      rw [List.append_nil, List.append_nil] at this
      exact this
    refine ⟨_, rfl, _, .ty "tuple", _, _, _, rfl, .ty _, (VT.ty (.tup (Same.seqT sG hx) (VTs.same sG vts))).1, kit_tuple (t := "tuple") (by decide), _, rfl, iteF ?_⟩
    refine ⟨.ref t, rfl, by show 0 ≤ sizeLine; decide, fun t1 n1 => ?_⟩
    have g1 := grow_but sG gp (But.of (p := p) (same_new (o := .tup []) n1))
    have P1 := hP.same (same_new (o := .tup []) n1)
    have f1 : (upd H t1 (.tup [])) t1 = some (.tup []) := upd_same
    show rEqNil _ _ _ (upd H t1 (.tup [])) _
    generalize upd H t1 (.tup []) = H1 at g1 P1 f1 ⊢
    refine ⟨t, t1, xs, rfl, rfl, Same.seqT g1.2.1 hx, SqT.of f1, ?_⟩
    refine ⟨_, rfl, ?_⟩
    rw [show (xs.length == 0) = false from beq_eq_false_iff_ne.mpr (by omega)]
    refine iteF ?_
    refine ⟨_, rfl, rfl, _, rfl, ?_⟩
    rw [show decide (V.int ((d + 1 : Nat) : Int) = V.int 0) = false from decide_eq_false (fun e => by injection e with e; omega)]
    refine iteF ?_
    refine ⟨.ref p, rfl, p, _, 4, rfl, P1, by omega, by decide, by decide +kernel, fun r1 H2 r10 r1l P2 B2 => ⟨rfl, _, rfl, ite2 (fun c => ?_) (fun c => ?_)⟩⟩
    · exact od H2 (m + 1) (g1.trans (grow_but g1.2.1 gp B2)) P2 (by omega)
    have g2 := g1.trans (grow_but g1.2.1 gp B2)
    refine ⟨.ref p, rfl, .ref t, rfl, t, xs, rfl, .inr (Same.seqT g2.2.1 hx), p, _, (xs.length : Int), rfl, P2, by omega, by omega, ?_, fun r2 H3 r20 r2l P3 B3 => ?_⟩
    · exact Int.lt_of_le_of_lt (Int.ofNat_le.mpr lx) (by decide +kernel)
    obtain ⟨at1, rfl⟩ := Int.eq_ofNat_of_zero_le r20
    have hat : at1 < xs.length := by omega
    have g3 := g2.trans (grow_but g2.2.1 gp B3)
    dsimp only [gName]
    have hx1 : xs[at1]? = some xs[at1] := List.getElem?_eq_getElem hat
    have ca : cutV xs none (some (at1 : Int)) = xs.take at1 := by
      unfold cutV
      rw [HT.sIx_none, HT.sIx_nat, Nat.min_eq_left (by omega)]
      rfl
    have cb : cutV xs (some ((at1 : Int) + 1)) none = xs.drop (at1 + 1) := by
      unfold cutV
      rw [HT.sIx_none, show (at1 : Int) + 1 = ((at1 + 1 : Nat) : Int) from rfl, HT.sIx_nat, Nat.min_eq_left (by omega), List.take_of_length_le (by rw [List.length_drop]; exact Nat.le_refl _)]
    have lt1 : (xs.take at1).length = at1 := by rw [List.length_take]; omega
    have lt2 : (xs.drop (at1 + 1)).length = xs.length - (at1 + 1) := by rw [List.length_drop]
    have big : ∀ {x : Nat}, x ≤ 1000 → x ≤ sizeLine := fun h => Nat.le_trans h (by decide)
    refine ⟨.ref t, rfl, _, rfl, _, rfl, sl_g g3.2.1 g3.2.2.1 (hp P3) (Same.seqT g3.1 hx) fun t4 G4 H4 g4 k4 h4 => ?_⟩
    rw [ca] at h4
    have T4 := g3.trans g4
    have P4 := P3.same k4
    refine ⟨.ref p, rfl, .ref t, rfl, _, rfl, t, xs, _, _, rfl, rfl, Same.seqT (T4.1.trans T4.2.1) hx, atI_nat hx1, ?_⟩
    refine ⟨_, rfl, _, _, rfl, rfl, ?_⟩
    obtain rfl := hsp d rfl
    refine ⟨p, _, xs[at1], G4, by show [V.ref p, xs[at1], V.int (((d + 1 : Nat) : Int) - 1)] = _; rw [show (((d + 1 : Nat) : Int) - 1) = (d : Int) by omega], P4, by omega, T4.2.1, T4.2.2.1, (al _ (List.getElem_mem hat)).same T4.1, fun H5 G5 v g5 P5 v5 => ?_⟩
    have T5 := T4.trans g5
    refine ⟨by show 1 ≤ sizeLine; decide, fun t6 n6 => ?_⟩
    obtain ⟨G6, g6, e6⟩ := step_new (o := .tup [v]) T5.2.1 T5.2.2.1 (hp P5) n6
    have T6 := T5.trans g6
    have P6 := P5.same (same_new (o := .tup [v]) n6)
    refine cat_g T6.2.1 T6.2.2.1 (hp P6) (Same.seqT (g5.1.trans g6.1) h4) (SqT.of e6) (big (by rw [lt1]; show at1 + 1 ≤ 1000; omega)) fun t7 G7 H7 g7 k7 h7 => ?_
    have T7 := T6.trans g7
    have P7 := P6.same k7
    refine ⟨.ref t, rfl, _, rfl, _, _, rfl, rfl, _, rfl, ?_⟩
    dsimp only [tNoPart]
    refine sl_g T7.2.1 T7.2.2.1 (hp P7) (Same.seqT T7.1 hx) fun t8 G8 H8 g8 k8 h8 => ?_
    rw [cb] at h8
    have T8 := T7.trans g8
    have P8 := P7.same k8
    refine cat_g T8.2.1 T8.2.2.1 (hp P8) (Same.seqT g8.1 h7) h8 (big (by rw [List.length_append, lt1, lt2]; show at1 + 1 + _ ≤ 1000; omega)) fun t9 G9 H9 g9 k9 h9 => ?_
    have T9 := T8.trans g9
    have P9 := P8.same k9
    obtain ⟨ta, da, pa⟩ := pl_of (K := K) (G := G9) (k := 5 + d) (wt := wt) (xs := xs.take at1) fun x hx => (pls x (List.mem_of_mem_take hx)).same T9.1
    obtain ⟨tb, db, pb⟩ := pl_of (K := K) (G := G9) (k := 5 + d) (wt := wt) (xs := xs.drop (at1 + 1)) fun x hx => (pls x (List.mem_of_mem_drop hx)).same T9.1
    have vall := val_mix pa pb (v5.same (((g6.1.trans g7.1).trans g8.1).trans g9.1)) (by rw [lt1, lt2]; omega) h9
    rw [lt1, lt2] at vall
    refine q _ _ _ T9 (P9.mono (by omega)) (vall.mono22 (by omega) ?_)
    have w1 : (wt + 1) * (at1 + (xs.length - (at1 + 1))) ≤ (wt + 1) * xs.length := Nat.mul_le_mul_left _ (by omega)
    omega
theorem ok_bentd (T : Txt K mg) {j : Nat} : ∀ {d : Nat}, d ≤ 2 → FnOk P w K mg base CX0 (j + d + 4) T.fBent22 T.fdBent22 ["_law_pot_here", "_law_one", "_law_deep"] (spBent22 K d)
  | 0, hd => bent_step T hd (sp := fun _ _ _ _ => False) (fun d' e => by cases e) (fun T => ⟨fun _ _ _ _ h => h.elim, fun _ _ _ _ _ _ _ _ _ _ _ _ _ h => h.elim⟩)
  | d + 1, hd => bent_step (j := j + d + 1) T hd (sp := spBent22 K d) (fun d' e => by rw [show d = d' by omega]) (fun T => ok_bentd (j := j) (d := d) T (by omega))
theorem ok_bent22 (T : Txt K mg) {j : Nat} : FnOk P w K mg base CX0 (j + 6) T.fBent22 T.fdBent22 ["_law_pot_here", "_law_one", "_law_deep"] (spBent22 K 2) := ok_bentd T (j := j) (d := 2) (Nat.le_refl 2)
end
/-! ### a witness drawn -/
theorem grow_updD {p D : Addr} {G H G' H' : Hp} {o : HO} (g : Grow p G H G' H') (gd : G' D = none) (hd : H D = none) : Grow p G H G' (upd H' D o) := by
  obtain ⟨a, b, c, d, e⟩ := g
  exact ⟨a, fun x u h => by rw [upd_ne (fun z => by rw [z, gd] at h; cases h)]; exact b x u h, c, d, fun x u n h => by rw [upd_ne (fun z => by rw [z, hd] at h; cases h)]; exact e x u n h⟩
def spDrawn22 (K : PySem.W.Frag) : Sp := fun vs H Q _ => ∃ (p : Addr) (m n : Nat) (G : Hp), vs = [.ref p, .int n] ∧ PotAt H p m ∧ m ≤ 90000 ∧ 2 ≤ n ∧ n ≤ 60 ∧ Same G H ∧ G p = none ∧
  ∀ H' G' t a b c L A B, Grow p G H G' H' → PotAt H' p (m + 200) → SqT K G' t [.ref a, .ref b, .ref c] → SqT K G' a (setV L) → SqT K G' b (setV A) → SqT K G' c (setV B) → (∀ M ∈ [L, A, B], 1 ≤ M.length ∧ M.length ≤ 60 ∧ ∀ y ∈ M, y < n) → Q (.ref t) H'
section
variable {P : Program} {w : World} {K : PySem.W.Frag} {mg : Str → Option Value} {base : Heap}
theorem ok_drawn22 (T : Txt K mg) {j : Nat} : FnOk P w K mg base CX0 (j + 3) T.fDrawn22 T.fdDrawn22 ["_law_pot_here", "_law_n"] (spDrawn22 K) := by
  refine T.FDrawn22.ok scDrawn22 (fun vs H Q E h => ?_) (fun cdv A outer s H vs Q E hr h => ?_)
  · obtain ⟨p, m, n, G, rfl, _⟩ := h
    rfl
  · obtain ⟨p, m, n, G, rfl, hP, hm, hn2, hn, sG, gp, q⟩ := h
    refine ⟨_, pss_cons (ps_set (i := 2) scDrawn22.nd rfl (.inr rfl) (pe_callB (cr_sortTI K) (by rfl) T.n_sorted (by decide +kernel) (pa_cons (pe_slice (sl_listK (K := K)) (pe_call (ok_mixed T) hr (by rfl) T.gMixed T.FMixed.kp T.bMixed .nil pass0 (pa_cons (pv 0) (pa_cons (pe_listRg rfl (by rfl) T.n_list (prg_1 (by rfl) T.n_range (pv 1))) pa_nil))) po_none (po_some (pe_callB (call_max2 rfl) (by rfl) T.n_max (by decide +kernel) (pa_cons pe_int (pa_cons (pe_op op_sub (pv 1) (pe_call (ok_take T) hr (by rfl) T.gTake T.FTake.kp T.bTake .nil pass0 (pa_cons (pv 0) (pa_cons pe_int pa_nil)))) pa_nil))))) pa_nil))) (pss_cons (ps_set (i := 3) scDrawn22.nd rfl (.inr rfl) (pe_op op_add pe_int (pe_call (ok_take T) hr (by rfl) T.gTake T.FTake.kp T.bTake .nil pass0 (pa_cons (pv 0) (pa_cons (pe_callB (call_lenK K) (by rfl) T.n_len PySem.boot_len (pa_cons (pv 2) pa_nil)) pa_nil))))) (pss_cons (ps_setLc (i := 4) (own := [("_law_turn", 5)]) (g := (gName 5)) (tt := tYes) rfl scDrawn22.nd rfl rfl (sw_true rfl rfl rfl (by decide +kernel)) (pi_range1 (by rfl) T.n_range (pa_cons pe_int pa_nil)) (blkOk_by (own := [("_law_turn", 5)]) (N := NDrawn22) (sc := defScope sDrawn22) (by decide +kernel)) (fun _ _ _ _ _ => (pg_name (i := 5) scDrawn22.nd rfl (.inl rfl))) (fun _ _ _ _ _ => pts_nil) (fun _ _ _ _ _ => (pe_callTy (call_tupleK K) (by rfl) T.n_tuple (by decide +kernel) (pa_cons (pe_callB (cr_sortTI K) (by rfl) T.n_sorted (by decide +kernel) (pa_cons (pe_slice (sl_listK (K := K)) (pe_call (ok_mixed T) hr (by rfl) T.gMixed T.FMixed.kp T.bMixed .nil pass0 (pa_cons (pv 0) (pa_cons (pv 2) pa_nil))) po_none (po_some (pv 3))) pa_nil)) pa_nil)))) (pss_one (ps_ret (pe_tup (pa_cons (pe_callTy (call_tupleK K) (by rfl) T.n_tuple (by decide +kernel) (pa_cons (pv 2) pa_nil)) (pa_cons (pe_ix (ix_listK K) (pv 4) pe_int (fun _ _ => rfl)) (pa_cons (pe_ix (ix_listK K) (pv 4) pe_int (fun _ _ => rfl)) pa_nil)))))))), ?_⟩
    refine ⟨.ref p, rfl, _, rfl, _, rfl, .of_le (by omega) (by omega) (by omega) (by omega), fun l1 n1 => ?_⟩
    rw [setV_range]
    have s1 := same_new (o := .lst (setV (List.range' 0 n))) n1
    have h1 : (upd H l1 (.lst (setV (List.range' 0 n)))) l1 = some (.lst (setV (List.range' 0 n))) := upd_same
    have g1 := grow_but sG gp (But.of (p := p) s1)
    have P1 := hP.same s1
    show tNil _ (upd H l1 (.lst (setV (List.range' 0 n)))) _
    generalize upd H l1 (.lst (setV (List.range' 0 n))) = H1 at h1 g1 P1 ⊢
    refine ⟨p, _, l1, _, rfl, P1, by omega, .inl (SqL.of h1), by rw [setV_len, List.length_range']; omega, Els.set (fun x hx => by have := mem_range0.mp hx; omega), fun H2 l2 ys B2 n2 h2 pm P2 => ?_⟩
    rw [setV_len, List.length_range'] at P2
    obtain ⟨zs, rfl, pz⟩ := perm_setV pm
    have g2 := g1.trans (grow_but g1.2.1 gp B2)
    have hpp : ∀ {H' : Hp} {m' : Nat}, PotAt H' p m' → H' p ≠ none := fun h e => by
      obtain ⟨a, b, c, h, _⟩ := h
      rw [e] at h
      cases h
    have l2p : l2 ≠ p := fun e => hpp P1 (by rw [← e]; exact n2)
    refine ⟨_, rfl, .ref p, rfl, p, _, 3, rfl, P2, by omega, by decide, by decide +kernel, fun r H3 r0 rl P3 B3 => ?_⟩
    refine ⟨_, _, rfl, rfl, _, _, rfl, _, rfl, l2, _, rfl, SqL.of (B3 _ _ l2p h2), fun l3 n3 => ?_⟩
    obtain ⟨r, rfl⟩ := Int.eq_ofNat_of_zero_le r0
    obtain ⟨k, ek, k1, k2⟩ : ∃ k : Nat, (if (n : Int) - (r : Int) > 1 then (n : Int) - (r : Int) else 1) = (k : Int) ∧ 1 ≤ k ∧ k ≤ n := by
      split
      · exact ⟨n - r, by omega, by omega, by omega⟩
      · exact ⟨1, rfl, by omega, by omega⟩
    rw [ek, cut_take]
    have g3 := g2.trans (grow_but g2.2.1 gp B3)
    have s3 := same_new (o := .lst (setV (zs.take k))) n3
    have h3 : (upd H3 l3 (.lst (setV (zs.take k)))) l3 = some (.lst (setV (zs.take k))) := upd_same
    have g4 := g3.trans (grow_but g3.2.1 gp (But.of (p := p) s3))
    have P4 := P3.same s3
    show tNil _ (upd H3 l3 (.lst (setV (zs.take k)))) _
    generalize upd H3 l3 (.lst (setV (zs.take k))) = H4 at h3 g4 P4 ⊢
    have lz := pz.length_eq
    rw [List.length_range'] at lz
    have lt : (zs.take k).length = k := by rw [List.length_take]; omega
    rw [setV_ints] at h3
    refine ⟨l3, _, rfl, .inl (SqL.of h3), by rw [List.length_map]; omega, fun ns lv pn _ nlv => ?_⟩
    obtain ⟨L, rfl, pL⟩ := ints_back pn
    rw [← setV_ints]
    have lL := pL.length_eq
    rw [lt] at lL
    have inL : ∀ y ∈ L, y < n := fun y hy => mem_range0.mp (pz.mem_iff.mp (List.mem_of_mem_take (pL.mem_iff.mp hy)))
    have s5 := same_new (o := .lst (setV L)) nlv
    have h5 : (upd H4 lv (.lst (setV L))) lv = some (.lst (setV L)) := upd_same
    have g5 := g4.trans (grow_but g4.2.1 gp (But.of (p := p) s5))
    have P5 := P4.same s5
    have lvp : lv ≠ p := fun e => hpp P4 (by rw [← e]; exact nlv)
    show gName 2 _ _ (upd H4 lv (.lst (setV L))) _
    generalize upd H4 lv (.lst (setV L)) = H5 at h5 g5 P5 ⊢
    dsimp only [gName]
    refine ⟨.ref p, rfl, .ref lv, rfl, lv, _, rfl, .inl (SqL.of h5), p, _, ((setV L).length : Int), rfl, P5, by omega, by rw [setV_len]; omega, ?_, fun r2 H6 r20 r2l P6 B6 => ⟨_, _, rfl, rfl, ?_⟩⟩
    · rw [setV_len]
      exact Int.lt_of_le_of_lt (Int.ofNat_le.mpr (show L.length ≤ 60 by omega)) (by decide +kernel)
    rw [setV_len] at r2l
    dsimp only [gName]
    obtain ⟨r2, rfl⟩ := Int.eq_ofNat_of_zero_le r20
    rw [show (1 : Int) + (r2 : Int) = ((1 + r2 : Nat) : Int) by omega]
    have hm1 : 1 ≤ 1 + r2 := by omega
    have hm2 : 1 + r2 ≤ L.length := by omega
    generalize 1 + r2 = mm at hm1 hm2 ⊢
    have g6 := g5.trans (grow_but g5.2.1 gp B6)
    have h6 := B6 _ _ lvp h5
    refine ⟨2, rfl, by omega, by omega, fun D nD => ?_⟩
    have Dp0 : D ≠ p := fun e => hpp P6 (by rw [← e]; exact nD)
    have n0D : H D = none := by
      cases h : H D with
      | none => rfl
      | some o =>
        have := g6.2.2.2.2 _ _ Dp0 h
        rw [nD] at this
        cases this
    have gD : G D = none := by
      cases h : G D with
      | none => rfl
      | some o =>
        have := sG _ _ h
        rw [n0D] at this
        cases this
    have lvD : lv ≠ D := fun e => by rw [e, nD] at h6; cases h6
    refine lc_range (lo := 0) (n := 2) (fun z H7 => ∃ G7 vs Ms, Grow p G H G7 H7 ∧ G7 D = none ∧ H7 D = some (.lst vs) ∧ RowsL K G7 vs Ms ∧ Ms.length = z ∧ (∀ M ∈ Ms, 1 ≤ M.length ∧ M.length ≤ 60 ∧ ∀ y ∈ M, y < n) ∧ PotAt H7 p (m + 62 + 60 * z) ∧ H7 lv = some (.lst (setV L))) ⟨G, [], [], grow_updD g6 gD n0D, gD, upd_same, .nil, rfl, fun r h => absurd h List.not_mem_nil, (P6.mono (by omega)).upd Dp0.symm, by rw [upd_ne lvD]; exact h6⟩ ?_ ?_
    · rintro z H7 hz ⟨G7, vs, Ms, g7, gD7, hD7, R7, lM, aM, P7, hL7⟩
      refine ⟨rfl, .ref p, rfl, .ref lv, rfl, p, _, lv, _, rfl, P7, by omega, .inl (SqL.of hL7), by rw [setV_len]; omega, Els.set (fun x hx => by have := inL x hx; omega), fun H8 l8 ys B8 n8 h8 pm8 P8 => ?_⟩
      obtain ⟨ks, rfl, pk⟩ := perm_setV pm8
      rw [setV_len] at P8
      have lk := pk.length_eq
      refine ⟨_, rfl, _, rfl, l8, _, rfl, SqL.of h8, fun l9 n9 => ?_⟩
      rw [cut_take]
      have s9 := same_new (o := .lst (setV (ks.take mm))) n9
      have h9 : (upd H8 l9 (.lst (setV (ks.take mm)))) l9 = some (.lst (setV (ks.take mm))) := upd_same
      have P9 := P8.same s9
      have C9 : But p H7 (upd H8 l9 (.lst (setV (ks.take mm)))) := B8.trans (But.of s9)
      show tNil _ (upd H8 l9 (.lst (setV (ks.take mm)))) _
      generalize upd H8 l9 (.lst (setV (ks.take mm))) = H9 at h9 P9 C9 ⊢
      rw [setV_ints] at h9
      have lt9 : (ks.take mm).length = mm := by rw [List.length_take]; omega
      refine ⟨l9, _, rfl, .inl (SqL.of h9), by rw [List.length_map]; omega, fun ns u pn _ nu => ?_⟩
      obtain ⟨M, rfl, pM⟩ := ints_back pn
      rw [← setV_ints]
      have lMM := pM.length_eq
      rw [lt9] at lMM
      have s10 := same_new (o := .lst (setV M)) nu
      have h10 : (upd H9 u (.lst (setV M))) u = some (.lst (setV M)) := upd_same
      have P10 := P9.same s10
      have C10 := C9.trans (But.of (p := p) s10)
      show tNil _ (upd H9 u (.lst (setV M))) _
      generalize upd H9 u (.lst (setV M)) = H10 at h10 P10 C10 ⊢
      refine ⟨u, _, rfl, .inl ⟨SqL.of h10, fun t nt => ?_⟩⟩
      have g11 := g7.trans (grow_but g7.2.1 g7.2.2.1 C10)
      obtain ⟨G12, g12, e12⟩ := step_new (o := .tup (setV M)) g11.2.1 g11.2.2.1 (hpp P10) nt
      have T12 := g11.trans g12
      have P12 := P10.same (same_new (o := .tup (setV M)) nt)
      have hD12 := same_new (o := .tup (setV M)) nt _ _ (C10 _ _ Dp0 hD7)
      have hL12 := same_new (o := .tup (setV M)) nt _ _ (C10 _ _ lvp hL7)
      have gD12 : G12 D = none := g12.2.2.2.1 D gD7 (by rw [C10 _ _ Dp0 hD7]; exact fun z => by cases z)
      have vl := R7.len
      refine ⟨vs, hD12, by rw [vl, lM, sizeLine_eq]; omega, G12, vs ++ [.ref t], Ms ++ [M], grow_updD T12 gD12 n0D, gD12, upd_same, RowsL.app (PySem.Paired.mono (fun v ms ⟨t, e, z⟩ => ⟨t, e, Same.seqT g12.1 z⟩) R7) (.cons ⟨t, rfl, SqT.of e12⟩ .nil), by rw [List.length_append, lM]; rfl, fun r hr => ?_, (P12.mono (by omega)).upd Dp0.symm, by rw [upd_ne lvD]; exact hL12⟩
      rcases List.mem_append.mp hr with h | h
      · exact aM r h
      · rw [List.mem_singleton.mp h]
        exact ⟨by omega, by omega, fun y hy => inL y (pk.mem_iff.mp (List.mem_of_mem_take (pM.mem_iff.mp hy)))⟩
    rintro H7 ⟨G7, vs, Ms, g7, gD7, hD7, R7, lM, aM, P7, hL7⟩
    obtain ⟨A0, B0, rfl⟩ : ∃ A0 B0, Ms = [A0, B0] := by
      match Ms, lM with
      | [x, y], _ => exact ⟨_, _, rfl⟩
    obtain ⟨b0, c0, rfl, hb0, hc0⟩ : ∃ b c, vs = [V.ref b, V.ref c] ∧ SqT K G7 b (setV A0) ∧ SqT K G7 c (setV B0) := by
      unfold RowsL at R7
      cases R7 with
      | cons h1 r =>
      cases r with
      | cons h2 r =>
      cases r
      obtain ⟨b, rfl, hb⟩ := h1
      obtain ⟨c, rfl, hc⟩ := h2
      exact ⟨b, c, rfl, hb, hc⟩
    dsimp only [gName]
    refine ⟨.ref lv, rfl, lv, _, rfl, .inl ⟨SqL.of hL7, fun a na => ?_⟩⟩
    obtain ⟨G8, g8, e8⟩ := step_new (o := .tup (setV L)) g7.2.1 g7.2.2.1 (hpp P7) na
    have T8 := g7.trans g8
    have P8 := P7.same (same_new (o := .tup (setV L)) na)
    have hD8 := same_new (o := .tup (setV L)) na _ _ hD7
    show tCons _ _ _ (upd H7 a (.tup (setV L))) _
    generalize upd H7 a (.tup (setV L)) = H8 at T8 P8 hD8 g8 ⊢
    refine ⟨.ref D, rfl, D, _, ((0 : Nat) : Int), _, rfl, rfl, SqL.of hD8, atI_nat (j := 0) rfl, ?_⟩
    refine ⟨.ref D, rfl, D, _, ((1 : Nat) : Int), _, rfl, rfl, SqL.of hD8, atI_nat (j := 1) rfl, ?_⟩
    refine ⟨by show 3 ≤ sizeLine; decide, fun t nt => ?_⟩
    obtain ⟨G9, g9, e9⟩ := step_new (o := .tup [V.ref a, V.ref b0, V.ref c0]) T8.2.1 T8.2.2.1 (hpp P8) nt
    have P9 := P8.same (same_new (o := .tup [V.ref a, V.ref b0, V.ref c0]) nt)
    refine q _ G9 t a b0 c0 L A0 B0 (T8.trans g9) (P9.mono (by omega)) (SqT.of e9) (Same.seqT g9.1 (SqT.of e8)) (Same.seqT (g8.1.trans g9.1) hb0) (Same.seqT (g8.1.trans g9.1) hc0) fun M hM => ?_
    rcases List.mem_cons.mp hM with rfl | hM
    · exact ⟨by omega, by omega, inL⟩
    · exact aM M hM
end
/-! ### the law -/
theorem least_k22 : ∀ n, n ≤ 12 → ∀ d, d ≤ n → (n ≤ 7 ∨ d ≤ 2 ∨ (n ≤ 8 ∧ d ≤ 3)) → leastL n d ≤ 420 := by decide +kernel
section
variable {K : PySem.W.Frag} {H H' : Hp}
theorem SqT_but22 {a q : Addr} {xs ys : List V} (h : SqT K H a xs) (hq : H q = some (.lst ys)) (b : But q H H') : SqT K H' a xs := by
  rcases h with (h | ⟨o, h⟩) | h
  · exact .inl (.inl (b _ _ (fun z => by rw [z, hq] at h; cases h) h))
  · exact .inl (.inr ⟨o, b _ _ (fun z => by rw [z, hq] at h; cases h) h⟩)
  · exact .inr h
theorem rows_but22 {q : Addr} {ys : List V} {ts : List V} {rows : List (List Nat)} (h : RowsL K H ts rows) (hq : H q = some (.lst ys)) (b : But q H H') : RowsL K H' ts rows := PySem.Paired.mono (fun v ms ⟨t, e, z⟩ => ⟨t, e, SqT_but22 z hq b⟩) h
end
def spLaw (K : PySem.W.Frag) : Sp := fun vs H Q _ => ∃ (a : Addr) (ns : List Int), vs = [.ref a] ∧ SqL K H a (ns.map V.int) ∧ ns.length ≤ 63 ∧ ∀ H', Q (.bl true) H'
section
variable {P : Program} {w : World} {K : PySem.W.Frag} {mg : Str → Option Value} {base : Heap}
theorem ok_law {f : Addr} {fd : FuncData} (F : Fun K "law" "law" sLaw f fd) (T : Txt K mg) : FnG P w K mg base CX0 12 f fd ["_law_script"] (spLaw K) := by
  refine Fun_ok0 F scLaw (fun vs H Q E h => ?_) (fun cdv A outer s H vs Q E gd hr h => ?_)
  · obtain ⟨a, ns, rfl, _⟩ := h
    rfl
  · obtain ⟨a, ns, rfl, hS, hlen, q⟩ := h
    have hu66 : (A.deeper (envOfC "law" (defScope sLaw) s.heap.objs.size f cdv)).units + 66 < cLine := by
      have := hr.un
      omega
    refine ⟨_, pss_cons (ps_for PassesOwn.never rfl (pi_range1 (by rfl) T.n_range (pa_cons (pe_callB (call_max2 rfl) (by rfl) T.n_max (by decide +kernel) (pa_cons pe_int (pa_cons (pe_callB (call_min2 rfl) (by rfl) T.n_min (by decide +kernel) (pa_cons pe_int (pa_cons (pe_callB (call_lenK K) (by rfl) T.n_len PySem.boot_len (pa_cons (pv 0) pa_nil)) pa_nil))) pa_nil))) pa_nil)) (pg_name (i := 1) scLaw.nd rfl (.inl rfl)) (pss_cons (ps_set (i := 2) scLaw.nd rfl (.inr rfl) (pe_call (ok_pot T) hr (by rfl) T.gPot T.FPot.kp T.bPot .nil pass0 (pa_cons (pv 0) (pa_cons (pv 1) pa_nil)))) (pss_cons (ps_set (i := 3) scLaw.nd rfl (.inr rfl) (pe_op op_add pe_int (pe_call (ok_take T) hr (by rfl) T.gTake T.FTake.kp T.bTake .nil pass0 (pa_cons (pv 2) (pa_cons pe_int pa_nil))))) (pss_cons (ps_set (i := 4) scLaw.nd rfl (.inl rfl) (pe_op op_add pe_int (pe_call (ok_take T) hr (by rfl) T.gTake T.FTake.kp T.bTake .nil pass0 (pa_cons (pv 2) (pa_cons (pe_op op_sub (pv 3) pe_int) pa_nil))))) (C8.pss_cut (ps_if (pt_cmpR op_eq (pe_call (ok_take T) hr (by rfl) T.gTake T.FTake.kp T.bTake .nil pass0 (pa_cons (pv 2) (pa_cons pe_int pa_nil))) pe_int (nomark _)) (pss_cons (ps_set (i := 3) scLaw.nd rfl (.inr rfl) (pe_call (ok_of T) hr (by rfl) T.gOf T.FOf.kp T.bOf .nil pass0 (pa_cons (pv 2) (pa_cons (pe_lst (pa_cons pe_int (pa_cons pe_int (pa_cons pe_int (pa_cons (pe_op op_add pe_int (pe_call (ok_take T) hr (by rfl) T.gTake T.FTake.kp T.bTake .nil pass0 (pa_cons (pv 2) (pa_cons pe_int pa_nil)))) pa_nil))))) pa_nil)))) (pss_one (ps_set (i := 4) scLaw.nd rfl (.inl rfl) (pe_op op_add pe_int (pe_op op_mul (pe_call (ok_take T) hr (by rfl) T.gTake T.FTake.kp T.bTake .nil pass0 (pa_cons (pv 2) (pa_cons pe_int pa_nil))) (pe_callTy call_int1 (by rfl) T.n_int (by decide +kernel) (pa_cons (pe_cmpR op_lt (pv 3) pe_int (nomark _)) pa_nil))))))) pss_nil) (pss_cons (ps_set (i := 5) scLaw.nd rfl (.inl rfl) (pe_call (ok_lawrows T) hr (by rfl) T.gLawRows T.FLawRows.kp T.bLawRows .nil pass0 (pa_cons (pv 2) (pa_cons (pv 3) (pa_cons (pv 4) pa_nil))))) (C8.pss_cut (ps_if (pt_cmpR op_eq (pe_call (ok_take T) hr (by rfl) T.gTake T.FTake.kp T.bTake .nil pass0 (pa_cons (pv 2) (pa_cons pe_int pa_nil))) pe_int (nomark _)) (pss_cons (ps_set (i := 3) scLaw.nd rfl (.inr rfl) (pe_op op_add pe_int (pe_call (ok_take T) hr (by rfl) T.gTake T.FTake.kp T.bTake .nil pass0 (pa_cons (pv 2) (pa_cons pe_int pa_nil))))) (pss_one (ps_par (i := 4) (j := 5) rfl scLaw.nd rfl rfl (by decide) rfl rfl (pa_cons (pv 3) (pa_cons (pe_callTy (call_tupleK K) (by rfl) T.n_tuple (by decide +kernel) (pa_cons (pe_lc (own := [("_law_turn", 6)]) (g := (gName 6)) (tt := tYes) rfl scLaw.nd (pi_range1 (by rfl) T.n_range (pa_cons (pe_op op_add pe_int (pe_call (ok_take T) hr (by rfl) T.gTake T.FTake.kp T.bTake .nil pass0 (pa_cons (pv 2) (pa_cons pe_int pa_nil)))) pa_nil)) (blkOk_by (own := [("_law_turn", 6)]) (N := NLaw) (sc := defScope sLaw) (by decide +kernel)) (fun _ _ _ _ _ => (pg_name (i := 6) scLaw.nd rfl (.inl rfl))) (fun _ _ _ _ _ => pts_nil) (fun _ _ _ _ _ => (pe_callTy (call_tupleK K) (by rfl) T.n_tuple (by decide +kernel) (pa_cons (pe_call (ok_mixed T) hr (by rfl) T.gMixed T.FMixed.kp T.bMixed .nil pass0 (pa_cons (pv 2) (pa_cons (pe_listRg rfl (by rfl) T.n_list (prg_1 (by rfl) T.n_range (pv 3))) pa_nil))) pa_nil)))) pa_nil)) pa_nil)) (by rfl)))) pss_nil) (pss_cons (ps_asg (pe_call (ok_asked21 T) hr (by rfl) T.gAsked21 T.FAsked21.kp T.bAsked21 .nil pass0 (pa_cons (pv 2) (pa_cons (pv 3) (pa_cons (pv 4) pa_nil)))) (pg_tup rfl (pgs_cons (pg_name (i := 7) scLaw.nd rfl (.inl rfl)) (pgs_cons (pg_name (i := 8) scLaw.nd rfl (.inl rfl)) pgs_nil)))) (pss_cons (ps_set (i := 9) scLaw.nd rfl (.inl rfl) (pe_lst (pa_cons pe_non (pa_cons pe_bl (pa_cons pe_int (pa_cons pe_str (pa_cons (pe_tup pa_nil) (pa_cons (pe_lst pa_nil) (pa_cons pe_dnewK (pa_cons (pe_tup (pa_cons (pe_tup pa_nil) (pa_cons (pe_tup pa_nil) (pa_cons (pe_tup pa_nil) pa_nil)))) (pa_cons (pe_tup (pa_cons (pe_tup (pa_cons pe_int pa_nil)) (pa_cons (pe_tup (pa_cons pe_int pa_nil)) (pa_cons (pe_tup (pa_cons pe_int pa_nil)) pa_nil)))) (pa_cons (pe_tup (pa_cons (pe_tup (pa_cons pe_int (pa_cons pe_int pa_nil))) (pa_cons (pe_tup (pa_cons pe_int pa_nil)) pa_nil))) (pa_cons (pe_tup (pa_cons pe_int (pa_cons pe_int (pa_cons pe_int pa_nil)))) pa_nil))))))))))))) (pss_cons (ps_for PassesOwn.never rfl (pi_range1 (by rfl) T.n_range (pa_cons pe_int pa_nil)) (pg_name (i := 6) scLaw.nd rfl (.inl rfl)) (pss_cons (ps_set (i := 10) scLaw.nd rfl (.inl rfl) (pe_call (ok_drawn22 T) hr (by rfl) T.gDrawn22 T.FDrawn22.kp T.bDrawn22 .nil pass0 (pa_cons (pv 2) (pa_cons (pv 3) pa_nil)))) (pss_one (ps_expr (pe_bm PySem.F.plainAttrs_list PySem.F.slot_list_extend PySem.F.type_list_extend mt_extend (pv 9) (pa_cons (pe_lst (pa_cons (pv 10) (pa_cons (pe_tup (pa_cons (pe_ix (ix_tupK K) (pv 10) pe_int (fun _ _ => rfl)) (pa_cons (pe_ix (ix_tupK K) (pv 10) pe_int (fun _ _ => rfl)) (pa_cons (pe_ix (ix_tupK K) (pv 10) pe_int (fun _ _ => rfl)) pa_nil)))) (pa_cons (pe_call (ok_bent22 T) hr (by rfl) T.gBent22 T.FBent22.kp T.bBent22 .nil pass0 (pa_cons (pv 2) (pa_cons (pv 10) (pa_cons pe_int pa_nil)))) (pa_cons (pe_callTy (call_listK K) (by rfl) T.n_list (by decide +kernel) (pa_cons (pv 10) pa_nil)) pa_nil))))) pa_nil)))))) (pss_one (ps_for PassesOwn.never rfl (pi_list (pv 9)) (pg_name (i := 11) scLaw.nd rfl (.inl rfl)) (pss_cons (ps_par (i := 12) (j := 13) rfl scLaw.nd rfl rfl (by decide) rfl rfl (pa_cons (pe_callB (call_reprE K gd hu66) (by rfl) T.n_repr (by decide +kernel) (pa_cons (pv 11) pa_nil)) (pa_cons (pe_call (ok_isw22 T) hr (by rfl) T.gIsW22 T.FIsW22.kp T.bIsW22 .nil pass0 (pa_cons (pv 3) (pa_cons (pv 5) (pa_cons (pv 7) (pa_cons (pv 8) (pa_cons (pv 11) pa_nil)))))) pa_nil)) (by rfl)) (pss_one (ps_if (PW.pt (pw_or (pt_cmpR op_ne (pe_callB (call_reprE K gd hu66) (by rfl) T.n_repr (by decide +kernel) (pa_cons (pe_call (ok_shows22 T) hr (by rfl) T.gShows22 T.FShows22.kp T.bShows22 .nil passF (pa_cons (pv 3) (pa_cons (pv 5) (pa_cons (pv 7) (pa_cons (pv 8) (pa_cons (pv 11) pa_nil)))))) pa_nil)) (pe_callB (call_reprE K gd hu66) (by rfl) T.n_repr (by decide +kernel) (pa_cons (pv 13) pa_nil)) (nomark _)) (pw_or1 (pt_cmpR op_ne (pe_callB (call_reprE K gd hu66) (by rfl) T.n_repr (by decide +kernel) (pa_cons (pv 11) pa_nil)) (pv 12) (nomark _))))) (pss_one (ps_ret pe_bl)) pss_nil))))))))))))))) (pss_one (ps_ret pe_bl)), ?_⟩
    refine ⟨.ref a, rfl, a, _, rfl, .inl hS, _, _, rfl, _, _, rfl, _, rfl, ?_, ?_, ?_⟩
    · split <;> split <;> omega
    · split <;> split <;> omega
    refine for_range (lo := 0) (fun i σ H2 => ∃ v1 v2 v3 v4 v5 v6 v7 v8 v9 v10 v11 v12 v13, σ = [some (.ref a), v1, v2, v3, v4, v5, v6, v7, v8, v9, v10, v11, v12, v13] ∧ Same H H2) ⟨none, none, none, none, none, none, none, none, none, none, none, none, none, rfl, Same.refl _⟩ ?_ ?_
    · rintro i σ H2 hi ⟨v1, v2, v3, v4, v5, v6, v7, v8, v9, v10, v11, v12, v13, rfl, s2⟩
      have hi3 : i < 4 := by
        refine Nat.lt_of_lt_of_le hi ?_
        split <;> split <;> omega
      rw [Int.zero_add]
      refine ⟨.ref a, rfl, _, rfl, a, ns, i, rfl, s2.seq hS, by omega, fun H3 p s3 np P3 => ?_⟩
      dsimp only [gName]
      have fp : H p = none := s2.free np
      have small : ∀ z : Int, z < 100 → z < 2 ^ 1000 := fun z hz => Int.lt_trans hz (by decide +kernel)
      -- n, depth
      refine ⟨.ref p, rfl, p, _, 4, rfl, P3, by omega, by decide, by decide +kernel, fun r1 H4 r10 r1l P4 B4 => ⟨_, _, rfl, rfl, ?_⟩⟩
      obtain ⟨k1, rfl⟩ := Int.eq_ofNat_of_zero_le r10
      dsimp only [gName]
      rw [show (2 : Int) + (k1 : Int) = ((2 + k1 : Nat) : Int) by omega]
      refine ⟨.ref p, rfl, _, rfl, _, _, rfl, rfl, p, _, _, rfl, P4, by omega, by omega, small _ (by omega), fun r2 H5 r20 r2l P5 B5 => ⟨_, _, rfl, rfl, ?_⟩⟩
      obtain ⟨k2, rfl⟩ := Int.eq_ofNat_of_zero_le r20
      dsimp only [gName]
      rw [show (2 : Int) + (k2 : Int) = ((2 + k2 : Nat) : Int) by omega]
      have C5 := B4.trans B5
      refine ⟨fun σ H6 => ∃ (n d m : Nat), σ = [some (.ref a), some (.int (i : Int)), some (.ref p), some (.int (n : Int)), some (.int (d : Int)), v5, v6, v7, v8, v9, v10, v11, v12, v13] ∧ 2 ≤ n ∧ n ≤ 12 ∧ 2 ≤ d ∧ d ≤ n ∧ (n ≤ 7 ∨ d ≤ 2 ∨ (n ≤ 8 ∧ d ≤ 3)) ∧ PotAt H6 p m ∧ m ≤ 10 ∧ But p H3 H6, ?_, ?_⟩
      · refine ⟨.ref p, rfl, p, _, 3, rfl, P5, by omega, by decide, by decide +kernel, fun r3 H6 r30 r3l P6 B6 => ?_⟩
        have C6 := C5.trans B6
        refine ⟨rfl, _, rfl, ite2 (fun hb => ?_) (fun hb => ?_)⟩
        · refine ⟨.ref p, rfl, .ref p, rfl, p, _, 7, rfl, P6, by omega, by decide, by decide +kernel, fun r4 H7 r40 r4l P7 B7 => ⟨_, _, rfl, rfl, ?_⟩⟩
          obtain ⟨k4, rfl⟩ := Int.eq_ofNat_of_zero_le r40
          refine ⟨by show 4 ≤ sizeLine; decide, fun l nl => ?_⟩
          dsimp only
          have s8 := same_new (o := .lst [V.int 6, V.int 7, V.int 8, V.int ((6 : Int) + (k4 : Int))]) nl
          refine ⟨p, _, l, _, rfl, P7.same s8, by omega, upd_same, (P7.ne nl).symm, (by show 1 ≤ 4; decide), (by show 4 ≤ 1000; decide), fun v H8 hv P8 B8 => ?_⟩
          have C8 : But p H3 H8 := (C6.trans B7).trans (fun b o nb e => B8 b o nb (s8 b o e))
          obtain ⟨n, rfl, hn6, hn12⟩ : ∃ n : Nat, v = .int (n : Int) ∧ 6 ≤ n ∧ n ≤ 12 := by
            simp only [List.mem_cons, List.not_mem_nil, or_false] at hv
            rcases hv with rfl | rfl | rfl | rfl
            · exact ⟨6, rfl, by omega, by omega⟩
            · exact ⟨7, rfl, by omega, by omega⟩
            · exact ⟨8, rfl, by omega, by omega⟩
            · exact ⟨6 + k4, by rw [show (6 : Int) + (k4 : Int) = ((6 + k4 : Nat) : Int) by omega], by omega, by omega⟩
          dsimp only [gName]
          refine ⟨.ref p, rfl, p, _, 2, rfl, P8, by omega, by decide, by decide +kernel, fun r5 H9 r50 r5l P9 B9 => ?_⟩
          obtain ⟨k5, rfl⟩ := Int.eq_ofNat_of_zero_le r50
          refine ⟨_, rfl, _, _, rfl, rfl, .inr ⟨_, rfl, ?_⟩⟩
          generalize hg : (if decide ((n : Int) < 9) = true then (1 : Int) else 0) = g
          have gk : ∃ g' : Nat, g = (g' : Int) ∧ g' ≤ 1 ∧ (g' = 1 → n ≤ 8) := by
            rw [← hg]
            by_cases c : n < 9
            · rw [if_pos (decide_eq_true (by omega))]
              exact ⟨1, rfl, by omega, fun _ => by omega⟩
            · rw [if_neg (by rw [decide_eq_false (by omega)]; exact Bool.false_ne_true)]
              exact ⟨0, rfl, by omega, fun z => by omega⟩
          obtain ⟨g', rfl, g1, g8⟩ := gk
          have kg : k5 * g' ≤ 1 * 1 := Nat.mul_le_mul (by omega) g1
          have kg8 : k5 * g' = 1 → n ≤ 8 := fun z => g8 (by
            rcases Nat.eq_zero_or_pos g' with h | h
            · rw [h, Nat.mul_zero] at z
              omega
            · omega)
          refine ⟨_, _, rfl, rfl, .inl ⟨by omega, by omega⟩, _, _, rfl, rfl, ?_⟩
          dsimp only [gName]
          rw [show (2 : Int) + (k5 : Int) * (g' : Int) = ((2 + k5 * g' : Nat) : Int) by rw [Int.natCast_add, Int.natCast_mul]; rfl]
          generalize k5 * g' = e at kg kg8
          exact ⟨n, 2 + e, _, rfl, by omega, hn12, by omega, by omega, by omega, P9, by omega, C8.trans B9⟩
        · exact ⟨2 + k1, 2 + k2, _, rfl, by omega, by omega, by omega, by omega, .inl (by omega), P6, by omega, C6⟩
      rintro σ H6 ⟨n, d, m, rfl, hn2, hn12, hd2, hdn, hnd, P6, hm6, C6⟩
      have L4 := least_k22 n hn12 d hdn hnd
      -- rows
      refine ⟨.ref p, rfl, _, rfl, _, rfl, p, _, n, d, rfl, P6, by omega, by omega, by omega, L4, by omega, hdn, fun H7 u rows B7 nu tab G0 hl P7 => ?_⟩
      dsimp only [gName]
      have C7 := C6.trans B7
      clear hnd L4 C5 B4 B5 P4 P5
      refine ⟨fun σ H8 => ∃ (n d m : Nat) (u : Addr) (ts : List V) (rows : List (List Nat)) (v6 : Option V), σ = [some (.ref a), some (.int (i : Int)), some (.ref p), some (.int (n : Int)), some (.int (d : Int)), some (.ref u), v6, v7, v8, v9, v10, v11, v12, v13] ∧ 2 ≤ n ∧ n ≤ 60 ∧ 2 ≤ d ∧ d ≤ n ∧ SqT K H8 u ts ∧ RowsL K H8 ts rows ∧ Good n d rows ∧ rows.length ≤ 900 ∧ PotAt H8 p m ∧ m ≤ 6000 ∧ But p H3 H8, ?_, ?_⟩
      · obtain ⟨ts, hu, R7⟩ := tab
        replace R7 : RowsL K H7 ts rows := R7
        refine ⟨.ref p, rfl, p, _, 4, rfl, P7, by omega, by decide, by decide +kernel, fun r3 H8 r30 r3l P8 B8 => ?_⟩
        have C8 := C7.trans B8
        refine ⟨rfl, _, rfl, ite2 (fun h2 => ?_) (fun h2 => ⟨n, d, _, u, ts, rows, v6, rfl, hn2, by omega, hd2, hdn, SqT_but22 hu P7.lst.choose_spec B8, rows_but22 R7 P7.lst.choose_spec B8, G0, hl, P8, by omega, C8⟩)⟩
        refine ⟨.ref p, rfl, p, _, 48, rfl, P8, by omega, by decide, by decide +kernel, fun r4 HA r40 r4l PA BA => ⟨_, _, rfl, rfl, ?_⟩⟩
        obtain ⟨k4, rfl⟩ := Int.eq_ofNat_of_zero_le r40
        dsimp only [gName]
        rw [show (13 : Int) + (k4 : Int) = ((13 + k4 : Nat) : Int) by omega]
        have hd2' : 13 ≤ 13 + k4 := by omega
        have hdn' : 13 + k4 ≤ 60 := by omega
        generalize 13 + k4 = n' at hd2' hdn'
        have CA := C8.trans BA
        refine ⟨_, rfl, .ref p, rfl, p, _, 3, rfl, PA, by omega, by decide, by decide +kernel, fun r5 HB r50 r5l PB BB => ?_⟩
        obtain ⟨k5, rfl⟩ := Int.eq_ofNat_of_zero_le r50
        have CB := CA.trans BB
        refine ⟨_, _, rfl, rfl, ?_⟩
        refine ⟨_, rfl, by omega, by omega, fun D nD => ?_⟩
        have nDp := (PB.ne nD).symm
        have e1k : ((1 : Int) + (k5 : Int)).toNat = 1 + k5 := by omega
        rw [e1k]
        refine lc_range (lo := 0) (n := 1 + k5) (fun z H3 => ∃ (us : List V) (rows : List (List Nat)), H3 D = some (.lst us) ∧ RowsL K H3 us rows ∧ rows.length = z ∧ (∀ r ∈ rows, r.length = n' ∧ r.Nodup ∧ ∀ x ∈ r, x < n') ∧ PotAt H3 p (4000 + 60 * z) ∧ But p HB H3) ⟨[], [], upd_same, .nil, rfl, fun _ h => absurd h List.not_mem_nil, (PB.same (same_new nD)).mono (by omega), But.of (same_new nD)⟩ ?_ ?_
        · rintro z H3 hz ⟨us, rows, hD, R3, rl, G3, P3, B3⟩
          refine ⟨rfl, .ref p, rfl, _, rfl, _, rfl, .of_le (by omega) (by omega) (by omega) (by omega), fun pe npe => ?_⟩
          rw [setV_range]
          have se := same_new (o := .lst (setV (List.range' 0 n'))) npe
          refine ⟨p, _, pe, _, rfl, P3.same se, by omega, .inl (SqL.of upd_same), by rw [setV_len, List.length_range']; omega, Els.set (fun x hx => by have := mem_range0.mp hx; omega), fun H7 q7 ys B7 n7 h7 pm P7 => ?_⟩
          obtain ⟨ks, rfl, pk⟩ := perm_setV pm
          rw [setV_len, List.length_range'] at P7
          have B37 : But p H3 H7 := fun b o nb e => B7 b o nb (se b o e)
          refine ⟨q7, _, rfl, .inl ⟨SqL.of h7, fun t9 nt9 => ?_⟩⟩
          have s9 := same_new (o := .tup (setV ks)) nt9
          have hT9 : (upd H7 t9 (.tup (setV ks))) t9 = some (.tup (setV ks)) := upd_same
          have lk := pk.length_eq
          rw [List.length_range'] at lk
          have R9 := (rows_but22 R3 P3.lst.choose_spec B37).same s9
          have hD9 := s9 _ _ (B37 _ _ nDp hD)
          have P9 := P7.same s9
          have C9 := (B3.trans B37).same s9
          generalize upd H7 t9 (.tup (setV ks)) = H9 at s9 hT9 R9 hD9 P9 C9
          have tl := R3.len
          refine ⟨us, hD9, small1000 (by omega), us ++ [.ref t9], rows ++ [ks], upd_same, RowsL.app (PySem.Paired.mono (fun v ms ⟨t, e, z⟩ => ⟨t, e, SqT_updL z hD9⟩) R9) (.cons ⟨t9, rfl, SqT_updL (SqT.of hT9) hD9⟩ .nil), by rw [List.length_append, rl]; rfl, fun r hr => ?_, (P9.upd nDp.symm).mono (by omega), but_new C9 nD⟩
          rcases List.mem_append.mp hr with hr | hr
          · exact G3 r hr
          · rw [List.mem_singleton.mp hr]
            exact ⟨lk, pk.nodup_iff.mpr List.nodup_range', fun x hx => mem_range0.mp (pk.mem_iff.mp hx)⟩
        rintro HC ⟨us, rows, hD, RC, rl, GC, PC, BC⟩
        refine ⟨D, _, rfl, .inl ⟨SqL.of hD, fun t9 nt9 => ?_⟩⟩
        have s9 := same_new (o := .tup us) nt9
        refine ⟨_, _, rfl, n', n', _, t9, us, rows, v6, rfl, by omega, by omega, by omega, by omega, SqT.of upd_same, RC.same s9, ⟨fun e => by rw [e] at rl; simp at rl; omega, GC⟩, by omega, PC.same s9, by omega, (CB.trans BC).same s9⟩
      rintro σ H8 ⟨n, d, m, u, ts, rows, v6, rfl, hn2, hn60, hd2, hdn, hu, R8, Gd, hl, P8, hm8, C8⟩
      clear C7 B7 C6 P6 P7
      refine ⟨.ref p, rfl, _, rfl, _, rfl, p, m, n, d, rfl, P8, by omega, hn2, hn60, hd2, hdn, fun HA m' t ff kk BA PA hmA ht f1 f2 kk1 kk2 hc => ?_⟩
      refine ⟨t, _, rfl, SqT.of ht, rfl, ?_⟩
      dsimp only [gCons, gName, gNil]
      refine ⟨_, _, rfl, _, _, rfl, rfl, ?_⟩
      have huA := SqT_but22 hu P8.lst.choose_spec BA
      have RA := rows_but22 R8 P8.lst.choose_spec BA
      have CA := C8.trans BA
      have P0 := PA.mono (n := 6100) (by omega)
      clear hu R8 P8 C8 BA PA ht hm8 hmA
      obtain ⟨G0, eG0⟩ : ∃ G0 : Hp, G0 = fun b => if b = p then none else HA b := ⟨_, rfl⟩
      have gp0 : G0 p = none := by rw [eG0]; exact if_pos rfl
      have sG0 : Same G0 HA := fun b o e => by
        have e : (if b = p then none else HA b) = some o := by
          rw [eG0] at e
          exact e
        by_cases c : b = p
        · rw [if_pos c] at e
          cases e
        · rw [if_neg c] at e
          exact e
      have bG0 : But p HA G0 := fun b o c e => by
        rw [eG0]
        exact (if_neg c).trans e
      have huG := SqT_but22 huA P0.lst.choose_spec bG0
      have RG := rows_but22 RA P0.lst.choose_spec bG0
      clear eG0 bG0
      have hpp : ∀ {H' : Hp} {m' : Nat}, PotAt H' p m' → H' p ≠ none := fun h e => by
        obtain ⟨a, b, c, h, _⟩ := h
        rw [e] at h
        cases h
      have T0 := Grow.refl sG0 gp0
      refine ⟨by show 0 ≤ sizeLine; decide, fun t1 n1 => ?_⟩
      obtain ⟨G1, g1, e1⟩ := step_new (o := .tup []) T0.2.1 T0.2.2.1 (hpp P0) n1
      have T1 := T0.trans g1
      have P1 := P0.same (same_new (o := .tup []) n1)
      show tCons _ _ _ (upd HA t1 (.tup [])) _
      generalize upd HA t1 (.tup []) = J1 at g1 T1 P1 ⊢
      refine ⟨by show 0 ≤ sizeLine; decide, fun t2 n2 => ?_⟩
      obtain ⟨G2, g2, e2⟩ := step_new (o := .lst []) T1.2.1 T1.2.2.1 (hpp P1) n2
      have T2 := T1.trans g2
      have P2 := P1.same (same_new (o := .lst []) n2)
      replace e1 := g2.1 _ _ e1
      show tCons _ _ _ (upd J1 t2 (.lst [])) _
      generalize upd J1 t2 (.lst []) = J2 at g2 T2 P2 ⊢
      clear g1 T1 P1 n1
      intro t3 n3
      obtain ⟨G3, g3, e3⟩ := step_new (o := .dK []) T2.2.1 T2.2.2.1 (hpp P2) n3
      have T3 := T2.trans g3
      have P3 := P2.same (same_new (o := .dK []) n3)
      replace e1 := g3.1 _ _ e1
      replace e2 := g3.1 _ _ e2
      show tCons _ _ _ (upd J2 t3 (.dK [])) _
      generalize upd J2 t3 (.dK []) = J3 at g3 T3 P3 ⊢
      clear g2 T2 P2 n2
      refine ⟨by show 0 ≤ sizeLine; decide, fun t4 n4 => ?_⟩
      obtain ⟨G4, g4, e4⟩ := step_new (o := .tup []) T3.2.1 T3.2.2.1 (hpp P3) n4
      have T4 := T3.trans g4
      have P4 := P3.same (same_new (o := .tup []) n4)
      replace e1 := g4.1 _ _ e1
      replace e2 := g4.1 _ _ e2
      replace e3 := g4.1 _ _ e3
      show tCons _ _ _ (upd J3 t4 (.tup [])) _
      generalize upd J3 t4 (.tup []) = J4 at g4 T4 P4 ⊢
      clear g3 T3 P3 n3
      refine ⟨by show 0 ≤ sizeLine; decide, fun t5 n5 => ?_⟩
      obtain ⟨G5, g5, e5⟩ := step_new (o := .tup []) T4.2.1 T4.2.2.1 (hpp P4) n5
      have T5 := T4.trans g5
      have P5 := P4.same (same_new (o := .tup []) n5)
      replace e1 := g5.1 _ _ e1
      replace e2 := g5.1 _ _ e2
      replace e3 := g5.1 _ _ e3
      replace e4 := g5.1 _ _ e4
      show tCons _ _ _ (upd J4 t5 (.tup [])) _
      generalize upd J4 t5 (.tup []) = J5 at g5 T5 P5 ⊢
      clear g4 T4 P4 n4
      refine ⟨by show 0 ≤ sizeLine; decide, fun t6 n6 => ?_⟩
      obtain ⟨G6, g6, e6⟩ := step_new (o := .tup []) T5.2.1 T5.2.2.1 (hpp P5) n6
      have T6 := T5.trans g6
      have P6 := P5.same (same_new (o := .tup []) n6)
      replace e1 := g6.1 _ _ e1
      replace e2 := g6.1 _ _ e2
      replace e3 := g6.1 _ _ e3
      replace e4 := g6.1 _ _ e4
      replace e5 := g6.1 _ _ e5
      show tNil _ (upd J5 t6 (.tup [])) _
      generalize upd J5 t6 (.tup []) = J6 at g6 T6 P6 ⊢
      clear g5 T5 P5 n5
      refine ⟨by show 3 ≤ sizeLine; decide, fun t7 n7 => ?_⟩
      obtain ⟨G7, g7, e7⟩ := step_new (o := .tup [V.ref t4, V.ref t5, V.ref t6]) T6.2.1 T6.2.2.1 (hpp P6) n7
      have T7 := T6.trans g7
      have P7 := P6.same (same_new (o := .tup [V.ref t4, V.ref t5, V.ref t6]) n7)
      replace e1 := g7.1 _ _ e1
      replace e2 := g7.1 _ _ e2
      replace e3 := g7.1 _ _ e3
      replace e4 := g7.1 _ _ e4
      replace e5 := g7.1 _ _ e5
      replace e6 := g7.1 _ _ e6
      show tCons _ _ _ (upd J6 t7 (.tup [V.ref t4, V.ref t5, V.ref t6])) _
      generalize upd J6 t7 (.tup [V.ref t4, V.ref t5, V.ref t6]) = J7 at g7 T7 P7 ⊢
      clear g6 T6 P6 n6
      refine ⟨by show 1 ≤ sizeLine; decide, fun t8 n8 => ?_⟩
      obtain ⟨G8, g8, e8⟩ := step_new (o := .tup [V.int 0]) T7.2.1 T7.2.2.1 (hpp P7) n8
      have T8 := T7.trans g8
      have P8 := P7.same (same_new (o := .tup [V.int 0]) n8)
      replace e1 := g8.1 _ _ e1
      replace e2 := g8.1 _ _ e2
      replace e3 := g8.1 _ _ e3
      replace e4 := g8.1 _ _ e4
      replace e5 := g8.1 _ _ e5
      replace e6 := g8.1 _ _ e6
      replace e7 := g8.1 _ _ e7
      show tCons _ _ _ (upd J7 t8 (.tup [V.int 0])) _
      generalize upd J7 t8 (.tup [V.int 0]) = J8 at g8 T8 P8 ⊢
      clear g7 T7 P7 n7
      refine ⟨by show 1 ≤ sizeLine; decide, fun t9 n9 => ?_⟩
      obtain ⟨G9, g9, e9⟩ := step_new (o := .tup [V.int 0]) T8.2.1 T8.2.2.1 (hpp P8) n9
      have T9 := T8.trans g9
      have P9 := P8.same (same_new (o := .tup [V.int 0]) n9)
      replace e1 := g9.1 _ _ e1
      replace e2 := g9.1 _ _ e2
      replace e3 := g9.1 _ _ e3
      replace e4 := g9.1 _ _ e4
      replace e5 := g9.1 _ _ e5
      replace e6 := g9.1 _ _ e6
      replace e7 := g9.1 _ _ e7
      replace e8 := g9.1 _ _ e8
      show tCons _ _ _ (upd J8 t9 (.tup [V.int 0])) _
      generalize upd J8 t9 (.tup [V.int 0]) = J9 at g9 T9 P9 ⊢
      clear g8 T8 P8 n8
      refine ⟨by show 1 ≤ sizeLine; decide, fun t10 n10 => ?_⟩
      obtain ⟨G10, g10, e10⟩ := step_new (o := .tup [V.int 0]) T9.2.1 T9.2.2.1 (hpp P9) n10
      have T10 := T9.trans g10
      have P10 := P9.same (same_new (o := .tup [V.int 0]) n10)
      replace e1 := g10.1 _ _ e1
      replace e2 := g10.1 _ _ e2
      replace e3 := g10.1 _ _ e3
      replace e4 := g10.1 _ _ e4
      replace e5 := g10.1 _ _ e5
      replace e6 := g10.1 _ _ e6
      replace e7 := g10.1 _ _ e7
      replace e8 := g10.1 _ _ e8
      replace e9 := g10.1 _ _ e9
      show tNil _ (upd J9 t10 (.tup [V.int 0])) _
      generalize upd J9 t10 (.tup [V.int 0]) = J10 at g10 T10 P10 ⊢
      clear g9 T9 P9 n9
      refine ⟨by show 3 ≤ sizeLine; decide, fun t11 n11 => ?_⟩
      obtain ⟨G11, g11, e11⟩ := step_new (o := .tup [V.ref t8, V.ref t9, V.ref t10]) T10.2.1 T10.2.2.1 (hpp P10) n11
      have T11 := T10.trans g11
      have P11 := P10.same (same_new (o := .tup [V.ref t8, V.ref t9, V.ref t10]) n11)
      replace e1 := g11.1 _ _ e1
      replace e2 := g11.1 _ _ e2
      replace e3 := g11.1 _ _ e3
      replace e4 := g11.1 _ _ e4
      replace e5 := g11.1 _ _ e5
      replace e6 := g11.1 _ _ e6
      replace e7 := g11.1 _ _ e7
      replace e8 := g11.1 _ _ e8
      replace e9 := g11.1 _ _ e9
      replace e10 := g11.1 _ _ e10
      show tCons _ _ _ (upd J10 t11 (.tup [V.ref t8, V.ref t9, V.ref t10])) _
      generalize upd J10 t11 (.tup [V.ref t8, V.ref t9, V.ref t10]) = J11 at g11 T11 P11 ⊢
      clear g10 T10 P10 n10
      refine ⟨by show 2 ≤ sizeLine; decide, fun t12 n12 => ?_⟩
      obtain ⟨G12, g12, e12⟩ := step_new (o := .tup [V.int 0, V.int 1]) T11.2.1 T11.2.2.1 (hpp P11) n12
      have T12 := T11.trans g12
      have P12 := P11.same (same_new (o := .tup [V.int 0, V.int 1]) n12)
      replace e1 := g12.1 _ _ e1
      replace e2 := g12.1 _ _ e2
      replace e3 := g12.1 _ _ e3
      replace e4 := g12.1 _ _ e4
      replace e5 := g12.1 _ _ e5
      replace e6 := g12.1 _ _ e6
      replace e7 := g12.1 _ _ e7
      replace e8 := g12.1 _ _ e8
      replace e9 := g12.1 _ _ e9
      replace e10 := g12.1 _ _ e10
      replace e11 := g12.1 _ _ e11
      show tCons _ _ _ (upd J11 t12 (.tup [V.int 0, V.int 1])) _
      generalize upd J11 t12 (.tup [V.int 0, V.int 1]) = J12 at g12 T12 P12 ⊢
      clear g11 T11 P11 n11
      refine ⟨by show 1 ≤ sizeLine; decide, fun t13 n13 => ?_⟩
      obtain ⟨G13, g13, e13⟩ := step_new (o := .tup [V.int 0]) T12.2.1 T12.2.2.1 (hpp P12) n13
      have T13 := T12.trans g13
      have P13 := P12.same (same_new (o := .tup [V.int 0]) n13)
      replace e1 := g13.1 _ _ e1
      replace e2 := g13.1 _ _ e2
      replace e3 := g13.1 _ _ e3
      replace e4 := g13.1 _ _ e4
      replace e5 := g13.1 _ _ e5
      replace e6 := g13.1 _ _ e6
      replace e7 := g13.1 _ _ e7
      replace e8 := g13.1 _ _ e8
      replace e9 := g13.1 _ _ e9
      replace e10 := g13.1 _ _ e10
      replace e11 := g13.1 _ _ e11
      replace e12 := g13.1 _ _ e12
      show tNil _ (upd J12 t13 (.tup [V.int 0])) _
      generalize upd J12 t13 (.tup [V.int 0]) = J13 at g13 T13 P13 ⊢
      clear g12 T12 P12 n12
      refine ⟨by show 2 ≤ sizeLine; decide, fun t14 n14 => ?_⟩
      obtain ⟨G14, g14, e14⟩ := step_new (o := .tup [V.ref t12, V.ref t13]) T13.2.1 T13.2.2.1 (hpp P13) n14
      have T14 := T13.trans g14
      have P14 := P13.same (same_new (o := .tup [V.ref t12, V.ref t13]) n14)
      replace e1 := g14.1 _ _ e1
      replace e2 := g14.1 _ _ e2
      replace e3 := g14.1 _ _ e3
      replace e4 := g14.1 _ _ e4
      replace e5 := g14.1 _ _ e5
      replace e6 := g14.1 _ _ e6
      replace e7 := g14.1 _ _ e7
      replace e8 := g14.1 _ _ e8
      replace e9 := g14.1 _ _ e9
      replace e10 := g14.1 _ _ e10
      replace e11 := g14.1 _ _ e11
      replace e12 := g14.1 _ _ e12
      replace e13 := g14.1 _ _ e13
      show tCons _ _ _ (upd J13 t14 (.tup [V.ref t12, V.ref t13])) _
      generalize upd J13 t14 (.tup [V.ref t12, V.ref t13]) = J14 at g14 T14 P14 ⊢
      clear g13 T13 P13 n13
      refine ⟨by show 3 ≤ sizeLine; decide, fun t15 n15 => ?_⟩
      obtain ⟨G15, g15, e15⟩ := step_new (o := .tup [V.int 0, V.int 1, V.int 2]) T14.2.1 T14.2.2.1 (hpp P14) n15
      have T15 := T14.trans g15
      have P15 := P14.same (same_new (o := .tup [V.int 0, V.int 1, V.int 2]) n15)
      replace e1 := g15.1 _ _ e1
      replace e2 := g15.1 _ _ e2
      replace e3 := g15.1 _ _ e3
      replace e4 := g15.1 _ _ e4
      replace e5 := g15.1 _ _ e5
      replace e6 := g15.1 _ _ e6
      replace e7 := g15.1 _ _ e7
      replace e8 := g15.1 _ _ e8
      replace e9 := g15.1 _ _ e9
      replace e10 := g15.1 _ _ e10
      replace e11 := g15.1 _ _ e11
      replace e12 := g15.1 _ _ e12
      replace e13 := g15.1 _ _ e13
      replace e14 := g15.1 _ _ e14
      show tNil _ (upd J14 t15 (.tup [V.int 0, V.int 1, V.int 2])) _
      generalize upd J14 t15 (.tup [V.int 0, V.int 1, V.int 2]) = J15 at g15 T15 P15 ⊢
      clear g14 T14 P14 n14
      refine ⟨by show 11 ≤ sizeLine; decide, fun l nl => ?_⟩
      generalize hw0 : [V.non, V.bl true, V.int 0, V.str "", V.ref t1, V.ref t2, V.ref t3, V.ref t7, V.ref t11, V.ref t14, V.ref t15] = w0
      have val0 : ∀ v ∈ w0, Val K G15 7 7000 v := by
        rw [← hw0]
        intro v hv
        have up : ∀ {v : V}, Val K G15 2 1000 v → Val K G15 7 7000 v := fun h => h.mono22 (by decide) (by decide)
        have emp : ∀ {t : Addr}, G15 t = some (.tup []) → Pl1 K G15 3 434 (.ref t) := fun h => Pl1.row (r := []) (SqT.of h) (by decide) (by simp)
        have zer : ∀ {t : Addr}, G15 t = some (.tup [V.int 0]) → Pl1 K G15 3 434 (.ref t) := fun h => Pl1.row (r := [0]) (SqT.of h) (by show 1 ≤ 60; decide) (by simp)
        simp only [List.mem_cons, List.not_mem_nil, or_false] at hv
        rcases hv with rfl | rfl | rfl | rfl | rfl | rfl | rfl | rfl | rfl | rfl | rfl
        · exact up val_non
        · exact up (val_bl true)
        · exact up (val_int (by decide))
        · exact up val_empty
        · exact up (val_row (r := []) (SqT.of e1) (by decide) (by simp))
        · exact up (val_listV (r := []) e2 (by decide) (by simp))
        · exact up (val_dic0 e3)
        · exact (val_tups (w := 7000) (k := 3) (wt := 434) (fun x hx => by
            simp only [List.mem_cons, List.not_mem_nil, or_false] at hx
            rcases hx with rfl | rfl | rfl
            · exact emp e4
            · exact emp e5
            · exact emp e6) (SqT.of e7) (by show 3 ≤ 900; decide) (by show 435 * 3 ≤ 7000; decide)).mono22 (by decide) (Nat.le_refl _)
        · exact (val_tups (w := 7000) (k := 3) (wt := 434) (fun x hx => by
            simp only [List.mem_cons, List.not_mem_nil, or_false] at hx
            rcases hx with rfl | rfl | rfl
            · exact zer e8
            · exact zer e9
            · exact zer e10) (SqT.of e11) (by show 3 ≤ 900; decide) (by show 435 * 3 ≤ 7000; decide)).mono22 (by decide) (Nat.le_refl _)
        · exact (val_tups (w := 7000) (k := 3) (wt := 434) (fun x hx => by
            simp only [List.mem_cons, List.not_mem_nil, or_false] at hx
            rcases hx with rfl | rfl
            · exact Pl1.row (r := [0, 1]) (SqT.of e12) (by show 2 ≤ 60; decide) (by simp)
            · exact zer e13) (SqT.of e14) (by show 2 ≤ 900; decide) (by show 435 * 2 ≤ 7000; decide)).mono22 (by decide) (Nat.le_refl _)
        · exact up (val_row (r := [0, 1, 2]) (SqT.of e15) (by show 3 ≤ 62; decide) (by simp))
      have wl0 : w0.length = 11 := by rw [← hw0]; rfl
      have lp : l ≠ p := fun e => hpp P15 (by rw [← e]; exact nl)
      have n0l : HA l = none := by
        cases h : HA l with
        | none => rfl
        | some o =>
          have := T15.2.2.2.2 _ _ lp h
          rw [nl] at this
          cases this
      have gl : G15 l = none := T15.2.1.free nl
      have T16 := grow_updD (o := .lst w0) T15 gl n0l
      have P16 := P15.upd (o := .lst w0) lp.symm
      have hl16 : (upd J15 l (.lst w0)) l = some (.lst w0) := upd_same
      show gName 9 (.ref l) _ (upd J15 l (.lst w0)) _
      generalize upd J15 l (.lst w0) = J16 at T16 P16 hl16 ⊢
      clear hw0 T15 P15 nl g15 n15 e1 e2 e3 e4 e5 e6 e7 e8 e9 e10 e11 e12 e13 e14 e15
      dsimp only [gName]
      refine ⟨_, rfl, by decide, by decide, ?_⟩
      refine for_range (lo := 0) (n := (12 : Int).toNat) (fun z σ H9 => ∃ G ws v6 v10, σ = [some (.ref a), some (.int (i : Int)), some (.ref p), some (.int (n : Int)), some (.int (d : Int)), some (.ref u), v6, some (.int (ff : Int)), some (.int (kk : Int)), some (.ref l), v10, v11, v12, v13] ∧ Grow p G0 HA G H9 ∧ G l = none ∧ H9 l = some (.lst ws) ∧ ws.length = 11 + 4 * z ∧ (∀ v ∈ ws, Val K G 7 7000 v) ∧ PotAt H9 p (6100 + 210 * z)) ⟨G15, w0, v6, v10, rfl, T16, gl, hl16, wl0, val0, P16⟩ ?_ ?_
      · rintro z σ H9 hz ⟨G, ws, v6, v10, rfl, g9, gl9, hl9, wl9, va, P9⟩
        have hz12 : z < 12 := by simpa using hz
        dsimp only [gName]
        refine ⟨.ref p, rfl, _, rfl, p, _, n, G, rfl, P9, by omega, hn2, hn60, g9.2.1, g9.2.2.1, fun HB GB t3 a3 b3 c3 M1 M2 M3 gB PB hT ha hb hc3 hM => ?_⟩
        have TB := g9.trans gB
        have hlB := gB.2.2.2.2 _ _ lp hl9
        have glB : GB l = none := gB.2.2.2.1 l gl9 (by rw [hl9]; exact fun z => by cases z)
        have m1 := hM M1 (by simp)
        have m2 := hM M2 (by simp)
        have m3 := hM M3 (by simp)
        clear hM
        have row : ∀ {t : Addr} {M : List Nat}, SqT K GB t (setV M) → (1 ≤ M.length ∧ M.length ≤ 60 ∧ ∀ y ∈ M, y < n) → B22 K GB 1 (.ref t) := fun {t M} ht hM => ⟨t, setV M, rfl, ht, by rw [setV_len]; exact hM.1, by rw [setV_len]; exact hM.2.1, fun x hx => by
          obtain ⟨y, hy, rfl⟩ := setV_mem hx
          exact ⟨y, rfl, by have := hM.2.2 y hy; omega⟩⟩
        have r1 := row ha m1
        have r2 := row hb m2
        have r3 := row hc3 m3
        dsimp only [gName]
        refine ⟨.ref l, rfl, .inl ⟨rfl, _, SqL.of hlB⟩, ?_⟩
        have hTB := Same.seqT TB.2.1 hT
        refine ⟨.ref t3, rfl, .ref t3, rfl, t3, _, ((0 : Nat) : Int), _, rfl, rfl, hTB, atI_nat (j := 0) rfl, ?_⟩
        refine ⟨.ref t3, rfl, t3, _, ((2 : Nat) : Int), _, rfl, rfl, hTB, atI_nat (j := 2) rfl, ?_⟩
        refine ⟨.ref t3, rfl, t3, _, ((1 : Nat) : Int), _, rfl, rfl, hTB, atI_nat (j := 1) rfl, ?_⟩
        refine ⟨by show 3 ≤ sizeLine; decide, fun w1 nw1 => ?_⟩
        obtain ⟨GC, gC, eC⟩ := step_new (o := .tup [V.ref a3, V.ref c3, V.ref b3]) TB.2.1 TB.2.2.1 (hpp PB) nw1
        have TC := TB.trans gC
        have PC := PB.same (same_new (o := .tup [V.ref a3, V.ref c3, V.ref b3]) nw1)
        have hlC := same_new (o := .tup [V.ref a3, V.ref c3, V.ref b3]) nw1 _ _ hlB
        have glC : GC l = none := gC.2.2.2.1 l glB (by rw [hlB]; exact fun z => by cases z)
        show tCons _ _ _ (upd HB w1 (.tup [V.ref a3, V.ref c3, V.ref b3])) _
        generalize upd HB w1 (.tup [V.ref a3, V.ref c3, V.ref b3]) = HC at gC TC PC hlC ⊢
        have b2 : B22 K GC 2 (.ref t3) := ⟨t3, _, rfl, Same.seqT gC.1 hT, by show 1 ≤ 3; decide, by show 3 ≤ 3; decide, fun x hx => by
          simp only [List.mem_cons, List.not_mem_nil, or_false] at hx
          rcases hx with rfl | rfl | rfl
          · exact r1.same gC.1
          · exact r2.same gC.1
          · exact r3.same gC.1⟩
        refine ⟨.ref p, rfl, .ref t3, rfl, p, _, .ref t3, GC, rfl, PC, by omega, TC.2.1, TC.2.2.1, b2, fun HD GD v gD PD vD => ?_⟩
        have TD := TC.trans gD
        have hlD := gD.2.2.2.2 _ _ lp hlC
        have glD : GD l = none := gD.2.2.2.1 l glC (by rw [hlC]; exact fun z => by cases z)
        have hTD := Same.seqT (gC.1.trans gD.1) hT
        refine ⟨.ref t3, rfl, t3, _, rfl, .inr (Same.seqT TD.2.1 hTD), fun w2 nw2 => ?_⟩
        obtain ⟨GE, gE, eE⟩ := step_new (o := .lst [V.ref a3, V.ref b3, V.ref c3]) TD.2.1 TD.2.2.1 (hpp PD) nw2
        have TE' := TD.trans gE
        have PE' := PD.same (same_new (o := .lst [V.ref a3, V.ref b3, V.ref c3]) nw2)
        have hlE := same_new (o := .lst [V.ref a3, V.ref b3, V.ref c3]) nw2 _ _ hlD
        have glE : GE l = none := gE.2.2.2.1 l glD (by rw [hlD]; exact fun z => by cases z)
        show tNil _ (upd HD w2 (.lst [V.ref a3, V.ref b3, V.ref c3])) _
        generalize upd HD w2 (.lst [V.ref a3, V.ref b3, V.ref c3]) = HE at gE TE' PE' hlE ⊢
        have mBE : Same GB GE := (gC.1.trans gD.1).trans gE.1
        have mCE : Same GC GE := gD.1.trans gE.1
        have prow : ∀ x ∈ [V.ref a3, V.ref b3, V.ref c3], Pl1 K GE 3 434 x := fun x hx => by
          simp only [List.mem_cons, List.not_mem_nil, or_false] at hx
          rcases hx with rfl | rfl | rfl
          · exact (r1.same mBE).pl1
          · exact (r2.same mBE).pl1
          · exact (r3.same mBE).pl1
        refine ⟨by show 4 ≤ sizeLine; decide, fun w3 nw3 => ?_⟩
        generalize hzs : [V.ref t3, V.ref w1, v, V.ref w2] = zs
        have vz : ∀ x ∈ zs, Val K GE 7 7000 x := by
          rw [← hzs]
          intro x hx
          simp only [List.mem_cons, List.not_mem_nil, or_false] at hx
          rcases hx with rfl | rfl | rfl | rfl
          · exact (val_tups (w := 7000) prow (Same.seqT mBE hT) (by show 3 ≤ 900; decide) (by show 435 * 3 ≤ 7000; decide)).mono22 (by decide) (Nat.le_refl _)
          · exact (val_tups (w := 7000) (fun x hx => prow x (by
              simp only [List.mem_cons, List.not_mem_nil, or_false] at hx ⊢
              rcases hx with rfl | rfl | rfl <;> simp)) (Same.seqT mCE (SqT.of eC)) (by show 3 ≤ 900; decide) (by show 435 * 3 ≤ 7000; decide)).mono22 (by decide) (Nat.le_refl _)
          · exact (vD.same gE.1).mono22 (by decide) (by decide)
          · exact (val_lists (w := 7000) prow eE (by show 435 * 3 ≤ 7000; decide)).mono22 (by decide) (Nat.le_refl _)
        have zl : zs.length = 4 := by rw [← hzs]; rfl
        have s3w := same_new (o := .lst zs) nw3
        have TF := TE'.trans (grow_but TE'.2.1 TE'.2.2.1 (But.of (p := p) s3w))
        have PF := PE'.same s3w
        have hlF := s3w _ _ hlE
        have hw3 : (upd HE w3 (.lst zs)) w3 = some (.lst zs) := upd_same
        show tNil _ (upd HE w3 (.lst zs)) _
        generalize upd HE w3 (.lst zs) = HF at TF PF hlF hw3 ⊢
        refine ⟨l, w3, ws, zs, rfl, rfl, hlF, hw3, by rw [wl9, zl, sizeLine_eq]; omega, ?_⟩
        refine ⟨GE, ws ++ zs, _, _, rfl, grow_updD TF glE n0l, glE, upd_same, by rw [List.length_append, wl9, zl]; omega, fun x hx => ?_, (PF.upd lp.symm).mono (by omega)⟩
        rcases List.mem_append.mp hx with h | h
        · exact (va x h).same (gB.1.trans mBE)
        · exact vz x h
      rintro σ H9 ⟨G, ws, v6, v10, rfl, g9, gl9, hl9, wl9, va, P9⟩
      have hG := Same.seqT g9.1 huG
      have RGG := RG.same g9.1
      have rl60 : ∀ r ∈ rows, r.length ≤ 60 := fun r hr => by rw [(Gd.2 r hr).1]; omega
      refine ⟨.ref l, rfl, l, rfl, ⟨_, SqL.of hl9⟩, ?_⟩
      refine for_list (K := K) (a := l) (xs := ws) (fun z σ HB => ∃ v6 v10 v11 v12 v13, σ = [some (.ref a), some (.int (i : Int)), some (.ref p), some (.int (n : Int)), some (.int (d : Int)), some (.ref u), v6, some (.int (ff : Int)), some (.int (kk : Int)), some (.ref l), v10, v11, v12, v13] ∧ Same H9 HB) ⟨v6, v10, v11, v12, v13, rfl, Same.refl _⟩ (fun _ σ HB _ ⟨_, _, _, _, _, _, sB⟩ => SqL.of (sB _ _ hl9)) ?_ ?_
      · rintro z v σ HB hz ⟨v6, v10, v11, v12, v13, rfl, sB⟩
        have vv := va v (List.mem_of_getElem? hz)
        obtain ⟨⟨t, vt, sh⟩, _⟩ := id vv
        obtain ⟨dd, sd⟩ := vv.show (by decide) (by decide)
        have sGB : Same G HB := g9.2.1.trans sB
        dsimp only [gName]
        refine ⟨v, rfl, v, dd, rfl, showd_same sGB sd, ?_⟩
        dsimp only [gName]
        have bs : ∀ {Hx : Hp} (b : Bool), ShowE K Hx (.bl b) (.bool b) := fun b => .inl ⟨.bl b, (Sh.bool b).mono (by decide) (by decide)⟩
        refine ⟨_, rfl, .ref u, rfl, _, rfl, _, rfl, v, rfl, n, ff, kk, u, ts, rows, v, t, rfl, Same.seqT sGB hG, RGG.same sGB, by omega, rl60, VT.same sGB vt, sh, hn60, fun HC b sC hb => ?_⟩
        have sGC := sGB.trans sC
        refine ⟨_, _, rfl, ?_⟩
        refine ⟨_, rfl, .ref u, rfl, _, rfl, _, rfl, v, rfl, n, ff, kk, d, u, ts, rows, v, t, rfl, Same.seqT sGC hG, RGG.same sGC, by omega, Gd, hdn, hc, VT.same sGC vt, hn60, f2, fun HD b2 sD hb2 => ?_⟩
        obtain rfl : b2 = b := by
          have := hb2.trans hb.symm
          cases b <;> cases b2 <;> simp_all
        refine ⟨_, _, rfl, bs _, ?_⟩
        refine ⟨_, rfl, _, _, rfl, bs _, ?_⟩
        refine ⟨rfl, _, rfl, iteNS rfl ?_⟩
        refine ⟨v, rfl, v, dd, rfl, showd_same (sGC.trans sD) sd, _, rfl, rfl, _, rfl, iteNS rfl ?_⟩
        exact ⟨_, _, _, _, _, rfl, sB.trans (sC.trans sD)⟩
      rintro σ HB ⟨v6, v10, v11, v12, v13, rfl, sB⟩
      exact ⟨_, _, _, _, _, _, _, _, _, _, _, _, _, rfl, fun b o e => sB b o (g9.2.2.2.2 b o (ne_of_none e fp) (CA b o (ne_of_none e fp) (s3 b o (s2 b o e))))⟩
    · rintro σ H2 ⟨v1, v2, v3, v4, v5, v6, v7, v8, v9, v10, v11, v12, v13, rfl, s2⟩
      exact q _
end
theorem all_mk {l : PySem.W.OpenLaw} {w : World} {K : PySem.W.Frag} {h : Heap} {mg : Str → Option Value} {fa f1 f2 f3 f4 f5 f6 f7 f8 f9 f10 f11 f12 f13 f14 f15 f16 f17 f18 f19 f20 f21 f22 f23 f24 f25 f26 f27 : Addr} (X : K.In h) (G : h.Ns mainGlobals mg) (hfa : mg "law" = some (.ref fa))
    {od1 an1 od2 an2 od3 an3 od4 an4 od5 an5 od6 an6 od7 an7 od8 an8 od9 an9 od10 an10 od11 an11 od12 an12 od13 an13 od14 an14 od15 an15 od16 an16 od17 an17 od18 an18 od19 an19 od20 an20 od21 an21 od22 an22 od23 an23 od24 an24 od25 an25 od26 an26 od27 an27 : Option Addr} {sl1 sl2 sl3 sl4 sl5 sl6 sl7 sl8 sl9 sl10 sl11 sl12 sl13 sl14 sl15 sl16 sl17 sl18 sl19 sl20 sl21 sl22 sl23 sl24 sl25 sl26 sl27 : Array (Option Value)} {oc1 kV1 dc1 pm1 cd1 ct1 oc2 kV2 dc2 pm2 cd2 ct2 oc3 kV3 dc3 pm3 cd3 ct3 oc4 kV4 dc4 pm4 cd4 ct4 oc5 kV5 dc5 pm5 cd5 ct5 oc6 kV6 dc6 pm6 cd6 ct6 oc7 kV7 dc7 pm7 cd7 ct7 oc8 kV8 dc8 pm8 cd8 ct8 oc9 kV9 dc9 pm9 cd9 ct9 oc10 kV10 dc10 pm10 cd10 ct10 oc11 kV11 dc11 pm11 cd11 ct11 oc12 kV12 dc12 pm12 cd12 ct12 oc13 kV13 dc13 pm13 cd13 ct13 oc14 kV14 dc14 pm14 cd14 ct14 oc15 kV15 dc15 pm15 cd15 ct15 oc16 kV16 dc16 pm16 cd16 ct16 oc17 kV17 dc17 pm17 cd17 ct17 oc18 kV18 dc18 pm18 cd18 ct18 oc19 kV19 dc19 pm19 cd19 ct19 oc20 kV20 dc20 pm20 cd20 ct20 oc21 kV21 dc21 pm21 cd21 ct21 oc22 kV22 dc22 pm22 cd22 ct22 oc23 kV23 dc23 pm23 cd23 ct23 oc24 kV24 dc24 pm24 cd24 ct24 oc25 kV25 dc25 pm25 cd25 ct25 oc26 kV26 dc26 pm26 cd26 ct26 oc27 kV27 dc27 pm27 cd27 ct27 : Value}
    {CBase CTooS fi2 : Addr}
    {nm2 q2 : Str} {N2 : Addr} {bs2 : List Value} {sn2 : List Str} {sub2 : List Value} {ab2 : Bool} {col2 : Option Bool} {dd2 : Option Addr} {m0_2 m1_2 m2_2 m3_2 m5_2 : Option Value} {odi2 ani2 : Option Addr} {sli2 : Array (Option Value)} {oci2 kVi2 dci2 pmi2 cdi2 cti2 : Value}
    (a1 : PySem.W.nsIn K mainGlobals "is_plain_int" = some (some (.ref f1)))
    (l1 : K.lookup f1 = some ⟨oc1, od1, .func (PySem.W.fnOf "is_plain_int" "is_plain_int" (defArgs sPlain) (defBody sPlain) (defScope sPlain) .none kV1 dc1 pm1 an1 cd1 ct1), sl1⟩)
    (c1 : PySem.W.codeIn K cd1 "is_plain_int" = true)
    (k1 : PySem.W.keepIn K (.ref f1) = true)
    (a2 : PySem.W.nsIn K mainGlobals "reach_of" = some (some (.ref f2)))
    (l2 : K.lookup f2 = some ⟨oc2, od2, .func (PySem.W.fnOf "reach_of" "reach_of" (defArgs sReachOf) (defBody sReachOf) (defScope sReachOf) .none kV2 dc2 pm2 an2 cd2 ct2), sl2⟩)
    (c2 : PySem.W.codeIn K cd2 "reach_of" = true)
    (k2 : PySem.W.keepIn K (.ref f2) = true)
    (a3 : PySem.W.nsIn K mainGlobals "is_set" = some (some (.ref f3)))
    (l3 : K.lookup f3 = some ⟨oc3, od3, .func (PySem.W.fnOf "is_set" "is_set" (defArgs sSet22) (defBody sSet22) (defScope sSet22) .none kV3 dc3 pm3 an3 cd3 ct3), sl3⟩)
    (c3 : PySem.W.codeIn K cd3 "is_set" = true)
    (k3 : PySem.W.keepIn K (.ref f3) = true)
    (a4 : PySem.W.nsIn K mainGlobals "holders" = some (some (.ref f4)))
    (l4 : K.lookup f4 = some ⟨oc4, od4, .func (PySem.W.fnOf "holders" "holders" (defArgs sHold) (defBody sHold) (defScope sHold) .none kV4 dc4 pm4 an4 cd4 ct4), sl4⟩)
    (c4 : PySem.W.codeIn K cd4 "holders" = true)
    (k4 : PySem.W.keepIn K (.ref f4) = true)
    (a5 : PySem.W.nsIn K mainGlobals "held_by_sets" = some (some (.ref f5)))
    (l5 : K.lookup f5 = some ⟨oc5, od5, .func (PySem.W.fnOf "held_by_sets" "held_by_sets" (defArgs sHelds) (defBody sHelds) (defScope sHelds) .none kV5 dc5 pm5 an5 cd5 ct5), sl5⟩)
    (c5 : PySem.W.codeIn K cd5 "held_by_sets" = true)
    (k5 : PySem.W.keepIn K (.ref f5) = true)
    (a6 : PySem.W.nsIn K mainGlobals "check_reached" = some (some (.ref f6)))
    (l6 : K.lookup f6 = some ⟨oc6, od6, .func (PySem.W.fnOf "check_reached" "check_reached" (defArgs sChkR) (defBody sChkR) (defScope sChkR) .none kV6 dc6 pm6 an6 cd6 ct6), sl6⟩)
    (c6 : PySem.W.codeIn K cd6 "check_reached" = true)
    (k6 : PySem.W.keepIn K (.ref f6) = true)
    (a7 : PySem.W.nsIn K mainGlobals "is_claim" = some (some (.ref f7)))
    (l7 : K.lookup f7 = some ⟨oc7, od7, .func (PySem.W.fnOf "is_claim" "is_claim" (defArgs sClaim22) (defBody sClaim22) (defScope sClaim22) .none kV7 dc7 pm7 an7 cd7 ct7), sl7⟩)
    (c7 : PySem.W.codeIn K cd7 "is_claim" = true)
    (k7 : PySem.W.keepIn K (.ref f7) = true)
    (a8 : PySem.W.nsIn K mainGlobals "shows_uneven" = some (some (.ref f8)))
    (l8 : K.lookup f8 = some ⟨oc8, od8, .func (PySem.W.fnOf "shows_uneven" "shows_uneven" (defArgs sShows22) (defBody sShows22) (defScope sShows22) .none kV8 dc8 pm8 an8 cd8 ct8), sl8⟩)
    (c8 : PySem.W.codeIn K cd8 "shows_uneven" = true)
    (k8 : PySem.W.keepIn K (.ref f8) = true)
    (a9 : PySem.W.nsIn K mainGlobals "_law_pot" = some (some (.ref f9)))
    (l9 : K.lookup f9 = some ⟨oc9, od9, .func (PySem.W.fnOf "_law_pot" "_law_pot" (defArgs sPot) (defBody sPot) (defScope sPot) .none kV9 dc9 pm9 an9 cd9 ct9), sl9⟩)
    (c9 : PySem.W.codeIn K cd9 "_law_pot" = true)
    (k9 : PySem.W.keepIn K (.ref f9) = true)
    (a10 : PySem.W.nsIn K mainGlobals "_law_take" = some (some (.ref f10)))
    (l10 : K.lookup f10 = some ⟨oc10, od10, .func (PySem.W.fnOf "_law_take" "_law_take" (defArgs sTake) (defBody sTake) (defScope sTake) .none kV10 dc10 pm10 an10 cd10 ct10), sl10⟩)
    (c10 : PySem.W.codeIn K cd10 "_law_take" = true)
    (k10 : PySem.W.keepIn K (.ref f10) = true)
    (a11 : PySem.W.nsIn K mainGlobals "_law_of" = some (some (.ref f11)))
    (l11 : K.lookup f11 = some ⟨oc11, od11, .func (PySem.W.fnOf "_law_of" "_law_of" (defArgs sOf) (defBody sOf) (defScope sOf) .none kV11 dc11 pm11 an11 cd11 ct11), sl11⟩)
    (c11 : PySem.W.codeIn K cd11 "_law_of" = true)
    (k11 : PySem.W.keepIn K (.ref f11) = true)
    (a12 : PySem.W.nsIn K mainGlobals "_law_mixed" = some (some (.ref f12)))
    (l12 : K.lookup f12 = some ⟨oc12, od12, .func (PySem.W.fnOf "_law_mixed" "_law_mixed" (defArgs sMixed) (defBody sMixed) (defScope sMixed) .none kV12 dc12 pm12 an12 cd12 ct12), sl12⟩)
    (c12 : PySem.W.codeIn K cd12 "_law_mixed" = true)
    (k12 : PySem.W.keepIn K (.ref f12) = true)
    (a13 : PySem.W.nsIn K mainGlobals "_law_choose" = some (some (.ref f13)))
    (l13 : K.lookup f13 = some ⟨oc13, od13, .func (PySem.W.fnOf "_law_choose" "_law_choose" (defArgs sChoose) (defBody sChoose) (defScope sChoose) .none kV13 dc13 pm13 an13 cd13 ct13), sl13⟩)
    (c13 : PySem.W.codeIn K cd13 "_law_choose" = true)
    (k13 : PySem.W.keepIn K (.ref f13) = true)
    (a14 : PySem.W.nsIn K mainGlobals "_law_least" = some (some (.ref f14)))
    (l14 : K.lookup f14 = some ⟨oc14, od14, .func (PySem.W.fnOf "_law_least" "_law_least" (defArgs sLeast) (defBody sLeast) (defScope sLeast) .none kV14 dc14 pm14 an14 cd14 ct14), sl14⟩)
    (c14 : PySem.W.codeIn K cd14 "_law_least" = true)
    (k14 : PySem.W.keepIn K (.ref f14) = true)
    (a15 : PySem.W.nsIn K mainGlobals "_law_standard_list" = some (some (.ref f15)))
    (l15 : K.lookup f15 = some ⟨oc15, od15, .func (PySem.W.fnOf "_law_standard_list" "_law_standard_list" (defArgs sStandardList) (defBody sStandardList) (defScope sStandardList) .none kV15 dc15 pm15 an15 cd15 ct15), sl15⟩)
    (c15 : PySem.W.codeIn K cd15 "_law_standard_list" = true)
    (k15 : PySem.W.keepIn K (.ref f15) = true)
    (a16 : PySem.W.nsIn K mainGlobals "_law_standard" = some (some (.ref f16)))
    (l16 : K.lookup f16 = some ⟨oc16, od16, .func (PySem.W.fnOf "_law_standard" "_law_standard" (defArgs sStandard) (defBody sStandard) (defScope sStandard) .none kV16 dc16 pm16 an16 cd16 ct16), sl16⟩)
    (c16 : PySem.W.codeIn K cd16 "_law_standard" = true)
    (k16 : PySem.W.keepIn K (.ref f16) = true)
    (a17 : PySem.W.nsIn K mainGlobals "_law_all_lists" = some (some (.ref f17)))
    (l17 : K.lookup f17 = some ⟨oc17, od17, .func (PySem.W.fnOf "_law_all_lists" "_law_all_lists" (defArgs sAllLists) (defBody sAllLists) (defScope sAllLists) .none kV17 dc17 pm17 an17 cd17 ct17), sl17⟩)
    (c17 : PySem.W.codeIn K cd17 "_law_all_lists" = true)
    (k17 : PySem.W.keepIn K (.ref f17) = true)
    (a18 : PySem.W.nsIn K mainGlobals "_law_spoiled" = some (some (.ref f18)))
    (l18 : K.lookup f18 = some ⟨oc18, od18, .func (PySem.W.fnOf "_law_spoiled" "_law_spoiled" (defArgs sSpoiled) (defBody sSpoiled) (defScope sSpoiled) .none kV18 dc18 pm18 an18 cd18 ct18), sl18⟩)
    (c18 : PySem.W.codeIn K cd18 "_law_spoiled" = true)
    (k18 : PySem.W.keepIn K (.ref f18) = true)
    (a19 : PySem.W.nsIn K mainGlobals "_law_rows" = some (some (.ref f19)))
    (l19 : K.lookup f19 = some ⟨oc19, od19, .func (PySem.W.fnOf "_law_rows" "_law_rows" (defArgs sLawRows) (defBody sLawRows) (defScope sLawRows) .none kV19 dc19 pm19 an19 cd19 ct19), sl19⟩)
    (c19 : PySem.W.codeIn K cd19 "_law_rows" = true)
    (k19 : PySem.W.keepIn K (.ref f19) = true)
    (a20 : PySem.W.nsIn K mainGlobals "_law_first" = some (some (.ref f20)))
    (l20 : K.lookup f20 = some ⟨oc20, od20, .func (PySem.W.fnOf "_law_first" "_law_first" (defArgs sFirst) (defBody sFirst) (defScope sFirst) .none kV20 dc20 pm20 an20 cd20 ct20), sl20⟩)
    (c20 : PySem.W.codeIn K cd20 "_law_first" = true)
    (k20 : PySem.W.keepIn K (.ref f20) = true)
    (a21 : PySem.W.nsIn K mainGlobals "_law_held" = some (some (.ref f21)))
    (l21 : K.lookup f21 = some ⟨oc21, od21, .func (PySem.W.fnOf "_law_held" "_law_held" (defArgs sHeldW) (defBody sHeldW) (defScope sHeldW) .none kV21 dc21 pm21 an21 cd21 ct21), sl21⟩)
    (c21 : PySem.W.codeIn K cd21 "_law_held" = true)
    (k21 : PySem.W.keepIn K (.ref f21) = true)
    (a22 : PySem.W.nsIn K mainGlobals "_law_asked" = some (some (.ref f22)))
    (l22 : K.lookup f22 = some ⟨oc22, od22, .func (PySem.W.fnOf "_law_asked" "_law_asked" (defArgs sAsked21) (defBody sAsked21) (defScope sAsked21) .none kV22 dc22 pm22 an22 cd22 ct22), sl22⟩)
    (c22 : PySem.W.codeIn K cd22 "_law_asked" = true)
    (k22 : PySem.W.keepIn K (.ref f22) = true)
    (a23 : PySem.W.nsIn K mainGlobals "_law_is_witness" = some (some (.ref f23)))
    (l23 : K.lookup f23 = some ⟨oc23, od23, .func (PySem.W.fnOf "_law_is_witness" "_law_is_witness" (defArgs sIsW22) (defBody sIsW22) (defScope sIsW22) .none kV23 dc23 pm23 an23 cd23 ct23), sl23⟩)
    (c23 : PySem.W.codeIn K cd23 "_law_is_witness" = true)
    (k23 : PySem.W.keepIn K (.ref f23) = true)
    (a24 : PySem.W.nsIn K mainGlobals "_law_odd" = some (some (.ref f24)))
    (l24 : K.lookup f24 = some ⟨oc24, od24, .func (PySem.W.fnOf "_law_odd" "_law_odd" (defArgs sOdd22) (defBody sOdd22) (defScope sOdd22) .none kV24 dc24 pm24 an24 cd24 ct24), sl24⟩)
    (c24 : PySem.W.codeIn K cd24 "_law_odd" = true)
    (k24 : PySem.W.keepIn K (.ref f24) = true)
    (a25 : PySem.W.nsIn K mainGlobals "_law_bent" = some (some (.ref f25)))
    (l25 : K.lookup f25 = some ⟨oc25, od25, .func (PySem.W.fnOf "_law_bent" "_law_bent" (defArgs sBent22) (defBody sBent22) (defScope sBent22) .none kV25 dc25 pm25 an25 cd25 ct25), sl25⟩)
    (c25 : PySem.W.codeIn K cd25 "_law_bent" = true)
    (k25 : PySem.W.keepIn K (.ref f25) = true)
    (a26 : PySem.W.nsIn K mainGlobals "_law_drawn" = some (some (.ref f26)))
    (l26 : K.lookup f26 = some ⟨oc26, od26, .func (PySem.W.fnOf "_law_drawn" "_law_drawn" (defArgs sDrawn22) (defBody sDrawn22) (defScope sDrawn22) .none kV26 dc26 pm26 an26 cd26 ct26), sl26⟩)
    (c26 : PySem.W.codeIn K cd26 "_law_drawn" = true)
    (k26 : PySem.W.keepIn K (.ref f26) = true)
    (a27 : PySem.W.nsIn K mainGlobals "law" = some (some (.ref f27)))
    (l27 : K.lookup f27 = some ⟨oc27, od27, .func (PySem.W.fnOf "law" "law" (defArgs sLaw) (defBody sLaw) (defScope sLaw) .none kV27 dc27 pm27 an27 cd27 ct27), sl27⟩)
    (c27 : PySem.W.codeIn K cd27 "law" = true)
    (k27 : PySem.W.keepIn K (.ref f27) = true)
    (ac1 : PySem.W.nsIn K mainGlobals "FailoverError" = some (some (.ref CBase)))
    (bsp : PySem.W.specialIn K (.ref CBase) "__getattribute__" = some (some (.builtin "type.__getattribute__")))
    (bty : PySem.W.typeIn K (.ref CBase) = some (.type "type"))
    (brd : PySem.W.readsIn K CBase (.type "type") = true)
    (bfc : PySem.W.findCls K (.ref CBase) (.type "type") "__init__" = some (.val (.builtin "ValueError.__init__")))
    (bex : PySem.W.subIn K (.ref CBase) (.type "BaseException") = some true)
    (bhd : PySem.W.hasDictIn K CBase = true)
    (ac2 : PySem.W.nsIn K mainGlobals "TooShort" = some (some (.ref CTooS)))
    (e2_xL : K.lookup CTooS = some (excClassObj nm2 q2 CTooS N2 bs2 [.ref CBase, .type "ValueError", .type "Exception", .type "BaseException", .type "object"] true sn2 sub2 ab2 col2 dd2 m0_2 m1_2 m2_2 m3_2 m5_2 "ValueError.__new__"))
    (e2_sa : PySem.W.findIn K (.ref CTooS) "__setattr__" = some (some (.builtin "object.__setattr__")))
    (e2_ga : PySem.W.findIn K (.ref CTooS) "__getattribute__" = some (some (.builtin "BaseException.__getattribute__")))
    (e2_gg : PySem.W.findIn K (.ref CTooS) "__getattr__" = some none)
    (e2_nb : PySem.W.findIn K (.ref CTooS) "order" = some none)
    (e2_ai : PySem.W.findIn K (.ref CTooS) "__init__" = some (some (.ref fi2)))
    (e2_ti : PySem.W.typeIn K (.ref fi2) = some (.type "function"))
    (e2_li : K.lookup fi2 = some ⟨oci2, odi2, .func (PySem.W.fnOf "__init__" "TooShort.__init__" (defArgs sTooS) (defBody sTooS) (defScope sTooS) .none kVi2 dci2 pmi2 ani2 cdi2 cti2), sli2⟩)
    (e2_ci : PySem.W.codeIn K cdi2 "TooShort.__init__" = true)
    (e2_ki : PySem.W.keepIn K (.ref fi2) = true)
    (e2_kC : PySem.W.keepIn K (.ref CTooS) = true)
    (e2_eC : PySem.W.subIn K (.ref CTooS) (.type "BaseException") = some true)
    (e2_tC : PySem.W.typeIn K (.ref CTooS) = some (.type "type"))
    (e2_hC : PySem.W.hasDictIn K CTooS = true)
    (e2_cC : PySem.W.findIn K (.ref CTooS) "__class__" = some (some (.builtin "object.__class__")))
    (e2_gC : PySem.W.specialIn K (.builtin "object.__class__") "__get__" = some (some (.builtin "getset_descriptor.__get__")))
    (e2_kk : PySem.W.takesIn K (.builtin "object.__class__") = some true)
    (e2_mC : PySem.W.mroIn K CTooS (.type "object") = some true)
    (e2_sB : PySem.W.subIn K (.ref CTooS) (.ref CBase) = some true)
    (z1 : PySem.W.nsIn K mainGlobals "ValueError" = some none)
    (z2 : PySem.W.nsIn K mainGlobals "abs" = some none)
    (z3 : PySem.W.nsIn K mainGlobals "all" = some none)
    (z4 : PySem.W.nsIn K mainGlobals "bool" = some none)
    (z5 : PySem.W.nsIn K mainGlobals "int" = some none)
    (z6 : PySem.W.nsIn K mainGlobals "isinstance" = some none)
    (z7 : PySem.W.nsIn K mainGlobals "len" = some none)
    (z8 : PySem.W.nsIn K mainGlobals "list" = some none)
    (z9 : PySem.W.nsIn K mainGlobals "max" = some none)
    (z10 : PySem.W.nsIn K mainGlobals "min" = some none)
    (z11 : PySem.W.nsIn K mainGlobals "range" = some none)
    (z12 : PySem.W.nsIn K mainGlobals "repr" = some none)
    (z13 : PySem.W.nsIn K mainGlobals "set" = some none)
    (z14 : PySem.W.nsIn K mainGlobals "sorted" = some none)
    (z15 : PySem.W.nsIn K mainGlobals "tuple" = some none)
    : ∃ fd : FuncData, (∀ (s : Shared) (v : Value), BindsTo s fd ⟨[v], []⟩ [("_law_script", v)]) ∧ ∀ base : Heap, K.In base → base.Ns mainGlobals mg → FnG l.prog w K mg base CX0 12 fa fd ["_law_script"] (spLaw K) := by
  have e := hfa.symm.trans (PySem.W.mg_of X G a27)
  cases e
  have F1 := fun_mk (st := sPlain) l1 c1 k1
  have b1 := F1.binds (ps := ["thing"]) fun _ _ _ _ _ _ us hl => match us, hl with | [_], _ => rfl
  have F2 := fun_mk (st := sReachOf) l2 c2 k2
  have b2 := F2.binds (ps := ["n", "failures", "factor"]) fun _ _ _ _ _ _ us hl => match us, hl with | [_, _, _], _ => rfl
  have F3 := fun_mk (st := sSet22) l3 c3 k3
  have b3 := F3.binds (ps := ["n", "thing"]) fun _ _ _ _ _ _ us hl => match us, hl with | [_, _], _ => rfl
  have F4 := fun_mk (st := sHold) l4 c4 k4
  have b4 := F4.binds (ps := ["order", "live", "factor"]) fun _ _ _ _ _ _ us hl => match us, hl with | [_, _, _], _ => rfl
  have F5 := fun_mk (st := sHelds) l5 c5 k5
  have b5 := F5.binds (ps := ["table", "live", "factor"]) fun _ _ _ _ _ _ us hl => match us, hl with | [_, _, _], _ => rfl
  have F6 := fun_mk (st := sChkR) l6 c6 k6
  have b6 := F6.binds (ps := ["n", "table", "failures", "factor"]) fun _ _ _ _ _ _ us hl => match us, hl with | [_, _, _, _], _ => rfl
  have F7 := fun_mk (st := sClaim22) l7 c7 k7
  have b7 := F7.binds (ps := ["n", "failures", "factor", "thing"]) fun _ _ _ _ _ _ us hl => match us, hl with | [_, _, _, _], _ => rfl
  have F8 := fun_mk (st := sShows22) l8 c8 k8
  have b8 := F8.binds (ps := ["n", "table", "failures", "factor", "thing"]) fun _ _ _ _ _ _ us hl => match us, hl with | [_, _, _, _, _], _ => rfl
  have F9 := fun_mk (st := sPot) l9 c9 k9
  have b9 := F9.binds (ps := ["_law_script", "_law_k"]) fun _ _ _ _ _ _ us hl => match us, hl with | [_, _], _ => rfl
  have F10 := fun_mk (st := sTake) l10 c10 k10
  have b10 := F10.binds (ps := ["_law_pot_here", "_law_size"]) fun _ _ _ _ _ _ us hl => match us, hl with | [_, _], _ => rfl
  have F11 := fun_mk (st := sOf) l11 c11 k11
  have b11 := F11.binds (ps := ["_law_pot_here", "_law_some"]) fun _ _ _ _ _ _ us hl => match us, hl with | [_, _], _ => rfl
  have F12 := fun_mk (st := sMixed) l12 c12 k12
  have b12 := F12.binds (ps := ["_law_pot_here", "_law_some"]) fun _ _ _ _ _ _ us hl => match us, hl with | [_, _], _ => rfl
  have F13 := fun_mk (st := sChoose) l13 c13 k13
  have b13 := F13.binds (ps := ["_law_n", "_law_k"]) fun _ _ _ _ _ _ us hl => match us, hl with | [_, _], _ => rfl
  have F14 := fun_mk (st := sLeast) l14 c14 k14
  have b14 := F14.binds (ps := ["_law_n", "_law_depth"]) fun _ _ _ _ _ _ us hl => match us, hl with | [_, _], _ => rfl
  have F15 := fun_mk (st := sStandardList) l15 c15 k15
  have b15 := F15.binds (ps := ["_law_n", "_law_depth", "_law_count", "_law_number"]) fun _ _ _ _ _ _ us hl => match us, hl with | [_, _, _, _], _ => rfl
  have F16 := fun_mk (st := sStandard) l16 c16 k16
  have b16 := F16.binds (ps := ["_law_n", "_law_depth", "_law_count"]) fun _ _ _ _ _ _ us hl => match us, hl with | [_, _, _], _ => rfl
  have F17 := fun_mk (st := sAllLists) l17 c17 k17
  have b17 := F17.binds (ps := ["_law_n", "_law_depth"]) fun _ _ _ _ _ _ us hl => match us, hl with | [_, _], _ => rfl
  have F18 := fun_mk (st := sSpoiled) l18 c18 k18
  have b18 := F18.binds (ps := ["_law_pot_here", "_law_n", "_law_rows_here"]) fun _ _ _ _ _ _ us hl => match us, hl with | [_, _, _], _ => rfl
  have F19 := fun_mk (st := sLawRows) l19 c19 k19
  have b19 := F19.binds (ps := ["_law_pot_here", "_law_n", "_law_depth"]) fun _ _ _ _ _ _ us hl => match us, hl with | [_, _, _], _ => rfl
  have F20 := fun_mk (st := sFirst) l20 c20 k20
  have b20 := F20.binds (ps := ["_law_row", "_law_live", "_law_many"]) fun _ _ _ _ _ _ us hl => match us, hl with | [_, _, _], _ => rfl
  have F21 := fun_mk (st := sHeldW) l21 c21 k21
  have b21 := F21.binds (ps := ["_law_rows_here", "_law_live", "_law_many"]) fun _ _ _ _ _ _ us hl => match us, hl with | [_, _, _], _ => rfl
  have F22 := fun_mk (st := sAsked21) l22 c22 k22
  have b22 := F22.binds (ps := ["_law_pot_here", "_law_n", "_law_depth"]) fun _ _ _ _ _ _ us hl => match us, hl with | [_, _, _], _ => rfl
  have F23 := fun_mk (st := sIsW22) l23 c23 k23
  have b23 := F23.binds (ps := ["_law_n", "_law_rows_here", "_law_failures", "_law_factor", "_law_value"]) fun _ _ _ _ _ _ us hl => match us, hl with | [_, _, _, _, _], _ => rfl
  have F24 := fun_mk (st := sOdd22) l24 c24 k24
  have b24 := F24.binds (ps := ["_law_pot_here", "_law_one"]) fun _ _ _ _ _ _ us hl => match us, hl with | [_, _], _ => rfl
  have F25 := fun_mk (st := sBent22) l25 c25 k25
  have b25 := F25.binds (ps := ["_law_pot_here", "_law_one", "_law_deep"]) fun _ _ _ _ _ _ us hl => match us, hl with | [_, _, _], _ => rfl
  have F26 := fun_mk (st := sDrawn22) l26 c26 k26
  have b26 := F26.binds (ps := ["_law_pot_here", "_law_n"]) fun _ _ _ _ _ _ us hl => match us, hl with | [_, _], _ => rfl
  have F27 := fun_mk (st := sLaw) l27 c27 k27
  have FI2 := fun_mk (st := sTooS) e2_li e2_ci e2_ki
  have bI2 := FI2.binds (ps := ["self", "order"]) fun _ _ _ _ _ _ us hl => match us, hl with | [_, _], _ => rfl
  have ER2 : ErrT K CTooS fi2 "order" CBase := ⟨⟨⟨nm2, q2, N2, bs2, _, sn2, sub2, ab2, col2, dd2, m0_2, m1_2, m2_2, m3_2, m5_2, e2_xL, by first | rfl | decide +kernel⟩, e2_sa, e2_eC, e2_tC, e2_kC⟩, ⟨e2_ga, e2_gg, e2_eC, e2_hC⟩, ⟨e2_ga, e2_gg, e2_eC, e2_hC, e2_cC, e2_gC, e2_kk, e2_mC⟩, e2_nb, e2_ai, e2_ti, PySem.W.exm_ref bex bhd bty e2_sB⟩
  have T : Txt K mg := ⟨f1, _, F1, b1, PySem.W.mg_of X G a1, f2, _, F2, b2, PySem.W.mg_of X G a2, f3, _, F3, b3, PySem.W.mg_of X G a3, f4, _, F4, b4, PySem.W.mg_of X G a4, f5, _, F5, b5, PySem.W.mg_of X G a5, f6, _, F6, b6, PySem.W.mg_of X G a6, f7, _, F7, b7, PySem.W.mg_of X G a7, f8, _, F8, b8, PySem.W.mg_of X G a8, f9, _, F9, b9, PySem.W.mg_of X G a9, f10, _, F10, b10, PySem.W.mg_of X G a10, f11, _, F11, b11, PySem.W.mg_of X G a11, f12, _, F12, b12, PySem.W.mg_of X G a12, f13, _, F13, b13, PySem.W.mg_of X G a13, f14, _, F14, b14, PySem.W.mg_of X G a14, f15, _, F15, b15, PySem.W.mg_of X G a15, f16, _, F16, b16, PySem.W.mg_of X G a16, f17, _, F17, b17, PySem.W.mg_of X G a17, f18, _, F18, b18, PySem.W.mg_of X G a18, f19, _, F19, b19, PySem.W.mg_of X G a19, f20, _, F20, b20, PySem.W.mg_of X G a20, f21, _, F21, b21, PySem.W.mg_of X G a21, f22, _, F22, b22, PySem.W.mg_of X G a22, f23, _, F23, b23, PySem.W.mg_of X G a23, f24, _, F24, b24, PySem.W.mg_of X G a24, f25, _, F25, b25, PySem.W.mg_of X G a25, f26, _, F26, b26, PySem.W.mg_of X G a26, CBase, PySem.W.mg_of X G ac1, ⟨bsp, bty, brd, bfc⟩, CTooS, PySem.W.mg_of X G ac2, fi2, _, FI2, bI2, ER2, PySem.W.mg_none_of X G z1, PySem.W.mg_none_of X G z2, PySem.W.mg_none_of X G z3, PySem.W.mg_none_of X G z4, PySem.W.mg_none_of X G z5, PySem.W.mg_none_of X G z6, PySem.W.mg_none_of X G z7, PySem.W.mg_none_of X G z8, PySem.W.mg_none_of X G z9, PySem.W.mg_none_of X G z10, PySem.W.mg_none_of X G z11, PySem.W.mg_none_of X G z12, PySem.W.mg_none_of X G z13, PySem.W.mg_none_of X G z14, PySem.W.mg_none_of X G z15⟩
  exact ⟨PySem.W.fnOf "law" "law" (defArgs sLaw) (defBody sLaw) (defScope sLaw) .none kV27 dc27 pm27 an27 cd27 ct27, fun s v => .of_eq rfl, fun base _ _ => ok_law F27 T⟩
end Ef
open PySem PySem.W PyProof.Rows
set_option maxRecDepth 100000 in
set_option maxHeartbeats 0 in
theorem PySem.Challenge.cw_evenfailover_k22_witnesses_of_any_value_holds : PySem.Challenge.rw_evenfailover_k22_witnesses_of_any_value.Holds := by
  w_on; o_law; k_head; (case hw => w_witness2)
  k_fill
  refine Ef.lawG (l := PySem.Challenge.rw_evenfailover_k22_witnesses_of_any_value) (n := 63) (k := 12) (x := "_law_script") (sp := fun w => Ef.spLaw _) rfl (by decide) rfl ⟨rfl, by decide, by decide⟩ (fun w h Y => PySem.W.kIn_of Y) ?F (fun _ _ a ns hl _ hS => ⟨a, ns, rfl, hS, hl, fun _ => rfl⟩)
  case F =>
    intro w mg fa h KX G hmg
    refine' Ef.all_mk KX G hmg ?a1 ?l1 ?c1 ?k1 ?a2 ?l2 ?c2 ?k2 ?a3 ?l3 ?c3 ?k3 ?a4 ?l4 ?c4 ?k4 ?a5 ?l5 ?c5 ?k5 ?a6 ?l6 ?c6 ?k6 ?a7 ?l7 ?c7 ?k7 ?a8 ?l8 ?c8 ?k8 ?a9 ?l9 ?c9 ?k9 ?a10 ?l10 ?c10 ?k10 ?a11 ?l11 ?c11 ?k11 ?a12 ?l12 ?c12 ?k12 ?a13 ?l13 ?c13 ?k13 ?a14 ?l14 ?c14 ?k14 ?a15 ?l15 ?c15 ?k15 ?a16 ?l16 ?c16 ?k16 ?a17 ?l17 ?c17 ?k17 ?a18 ?l18 ?c18 ?k18 ?a19 ?l19 ?c19 ?k19 ?a20 ?l20 ?c20 ?k20 ?a21 ?l21 ?c21 ?k21 ?a22 ?l22 ?c22 ?k22 ?a23 ?l23 ?c23 ?k23 ?a24 ?l24 ?c24 ?k24 ?a25 ?l25 ?c25 ?k25 ?a26 ?l26 ?c26 ?k26 ?a27 ?l27 ?c27 ?k27 ?ac1 ?bsp ?bty ?brd ?bfc ?bex ?bhd ?ac2 ?e2_xL ?e2_sa ?e2_ga ?e2_gg ?e2_nb ?e2_ai ?e2_ti ?e2_li ?e2_ci ?e2_ki ?e2_kC ?e2_eC ?e2_tC ?e2_hC ?e2_cC ?e2_gC ?e2_kk ?e2_mC ?e2_sB ?z1 ?z2 ?z3 ?z4 ?z5 ?z6 ?z7 ?z8 ?z9 ?z10 ?z11 ?z12 ?z13 ?z14 ?z15
    (case a1 => k_is)
    (case l1 => k_is)
    (case c1 => k_is)
    (case k1 => k_is)
    (case a2 => k_is)
    (case l2 => k_is)
    (case c2 => k_is)
    (case k2 => k_is)
    (case a3 => k_is)
    (case l3 => k_is)
    (case c3 => k_is)
    (case k3 => k_is)
    (case a4 => k_is)
    (case l4 => k_is)
    (case c4 => k_is)
    (case k4 => k_is)
    (case a5 => k_is)
    (case l5 => k_is)
    (case c5 => k_is)
    (case k5 => k_is)
    (case a6 => k_is)
    (case l6 => k_is)
    (case c6 => k_is)
    (case k6 => k_is)
    (case a7 => k_is)
    (case l7 => k_is)
    (case c7 => k_is)
    (case k7 => k_is)
    (case a8 => k_is)
    (case l8 => k_is)
    (case c8 => k_is)
    (case k8 => k_is)
    (case a9 => k_is)
    (case l9 => k_is)
    (case c9 => k_is)
    (case k9 => k_is)
    (case a10 => k_is)
    (case l10 => k_is)
    (case c10 => k_is)
    (case k10 => k_is)
    (case a11 => k_is)
    (case l11 => k_is)
    (case c11 => k_is)
    (case k11 => k_is)
    (case a12 => k_is)
    (case l12 => k_is)
    (case c12 => k_is)
    (case k12 => k_is)
    (case a13 => k_is)
    (case l13 => k_is)
    (case c13 => k_is)
    (case k13 => k_is)
    (case a14 => k_is)
    (case l14 => k_is)
    (case c14 => k_is)
    (case k14 => k_is)
    (case a15 => k_is)
    (case l15 => k_is)
    (case c15 => k_is)
    (case k15 => k_is)
    (case a16 => k_is)
    (case l16 => k_is)
    (case c16 => k_is)
    (case k16 => k_is)
    (case a17 => k_is)
    (case l17 => k_is)
    (case c17 => k_is)
    (case k17 => k_is)
    (case a18 => k_is)
    (case l18 => k_is)
    (case c18 => k_is)
    (case k18 => k_is)
    (case a19 => k_is)
    (case l19 => k_is)
    (case c19 => k_is)
    (case k19 => k_is)
    (case a20 => k_is)
    (case l20 => k_is)
    (case c20 => k_is)
    (case k20 => k_is)
    (case a21 => k_is)
    (case l21 => k_is)
    (case c21 => k_is)
    (case k21 => k_is)
    (case a22 => k_is)
    (case l22 => k_is)
    (case c22 => k_is)
    (case k22 => k_is)
    (case a23 => k_is)
    (case l23 => k_is)
    (case c23 => k_is)
    (case k23 => k_is)
    (case a24 => k_is)
    (case l24 => k_is)
    (case c24 => k_is)
    (case k24 => k_is)
    (case a25 => k_is)
    (case l25 => k_is)
    (case c25 => k_is)
    (case k25 => k_is)
    (case a26 => k_is)
    (case l26 => k_is)
    (case c26 => k_is)
    (case k26 => k_is)
    (case a27 => k_is)
    (case l27 => k_is)
    (case c27 => k_is)
    (case k27 => k_is)
    (case ac1 => k_is)
    (case bsp => k_is)
    (case bty => k_is)
    (case brd => k_is)
    (case bfc => k_is)
    (case bex => k_is)
    (case bhd => k_is)
    (case ac2 => k_is)
    (case e2_xL => k_is)
    (case e2_sa => k_is)
    (case e2_ga => k_is)
    (case e2_gg => k_is)
    (case e2_nb => k_is)
    (case e2_ai => k_is)
    (case e2_ti => k_is)
    (case e2_li => k_is)
    (case e2_ci => k_is)
    (case e2_ki => k_is)
    (case e2_kC => k_is)
    (case e2_eC => k_is)
    (case e2_tC => k_is)
    (case e2_hC => k_is)
    (case e2_cC => k_is)
    (case e2_gC => k_is)
    (case e2_kk => k_is)
    (case e2_mC => k_is)
    (case e2_sB => first | k_is | rfl | k_exc | kernel_rfl)
    (case z1 => k_is)
    (case z2 => k_is)
    (case z3 => k_is)
    (case z4 => k_is)
    (case z5 => k_is)
    (case z6 => k_is)
    (case z7 => k_is)
    (case z8 => k_is)
    (case z9 => k_is)
    (case z10 => k_is)
    (case z11 => k_is)
    (case z12 => k_is)
    (case z13 => k_is)
    (case z14 => k_is)
    (case z15 => k_is)

import PyProof.Rows.All
import Wide.All
import OpenK.AllK
import Wide.FinOn
import HandS.ForMost
import HandS.RaiseMore
import HandS.Strs
import HandS.SetFor
import HandS.Conv
import HandS.Wide
import HandS.IsInst
import HandS.Codes
import HandS.TupAny
import HandS.ForExc
import HandS.ExcInit
import HandS.ExcField
import HandS.ExcIs
import HandS.ExcOwn
import HandS.TupSets
import HandS.Walk
import HandS.RevRange
import HandS.Rev
import HandS.Style
import HandS.DictComp
import KE.GoesMore
import HandS.Flt
import HandS.Zip
import KE.KTupSum
import HandS.Deep
import KE.SortData
import HandS.Comp
import KE.KeyNested
import HandS.DictSubView
import HandS.TupLen
import KE.KDictSum
import KE.KDictWalk
import HandS.SetKeys
import KE.KDictCopyH
import KE.KTupTabMore
import KE.KIntText
import HandS.Text
import PyProof.Rows.Digits
import PyProof.StrOps2
import HandS.SlotsOwn
import KE.KTurns
import KE.GoesEnum
import HandS.OwnEq
import PySem.Challenge.RW_evenfailover_k88_whole_each_failure_is_s
set_option Elab.async false
set_option linter.all false
set_option maxRecDepth 100000
set_option maxHeartbeats 4000000
namespace Ef
/-- Pascal's triangle -/
def C : Nat → Nat → Nat
  | _, 0 => 1
  | 0, _ + 1 => 0
  | n + 1, k + 1 => C n k + C n (k + 1)
theorem C_zero (n : Nat) : C n 0 = 1 := by cases n <;> rfl
theorem C_zs (k : Nat) : C 0 (k + 1) = 0 := rfl
theorem C_ss (n k : Nat) : C (n + 1) (k + 1) = C n k + C n (k + 1) := rfl
theorem C_big : ∀ (n k : Nat), n < k → C n k = 0
  | 0, k + 1, _ => rfl
  | n + 1, k + 1, h => by
    rw [C_ss, C_big n k (by omega), C_big n (k + 1) (by omega)]
theorem C_self : ∀ n : Nat, C n n = 1
  | 0 => rfl
  | n + 1 => by rw [C_ss, C_self n, C_big n (n + 1) (by omega)]
theorem C_absorb : ∀ (n k : Nat), C (n + 1) (k + 1) * (k + 1) = (n + 1) * C n k
  | 0, 0 => rfl
  | 0, k + 1 => by
    rw [C_ss, C_zs, C_zs]; simp
  | n + 1, 0 => by
    have h := C_absorb n 0
    rw [C_zero] at h
    rw [C_ss, C_zero]
    omega
  | n + 1, j + 1 => by
    have h1 := C_absorb n j
    have h2 := C_absorb n (j + 1)
    have e : C (n + 1) (j + 1) = C n j + C n (j + 1) := C_ss n j
    rw [C_ss (n + 1) (j + 1)]
    have a1 : (C (n + 1) (j + 1) + C (n + 1) (j + 1 + 1)) * (j + 1 + 1) = C (n + 1) (j + 1) * (j + 1) + C (n + 1) (j + 1) + C (n + 1) (j + 1 + 1) * (j + 1 + 1) := by
      rw [Nat.add_mul, Nat.mul_succ (C (n + 1) (j + 1)) (j + 1)]
    rw [a1, h1, h2]
    have a2 : (n + 1 + 1) * C (n + 1) (j + 1) = (n + 1) * C (n + 1) (j + 1) + C (n + 1) (j + 1) := Nat.succ_mul _ _
    rw [a2]
    have a3 : (n + 1) * C (n + 1) (j + 1) = (n + 1) * C n j + (n + 1) * C n (j + 1) := by rw [e, Nat.mul_add]
    rw [a3]
    omega
theorem C_step (n k : Nat) (h : k ≤ n) : C n (k + 1) * (k + 1) = C n k * (n - k) := by
  have h1 := C_absorb n k
  rw [C_ss, Nat.add_mul] at h1
  have h2 : (n + 1) * C n k = C n k * (k + 1) + C n k * (n - k) := by
    rw [← Nat.mul_add, Nat.mul_comm]
    congr 1
    omega
  omega
theorem C_symm : ∀ (n k : Nat), k ≤ n → C n k = C n (n - k)
  | n, 0, _ => by rw [C_zero, Nat.sub_zero, C_self]
  | n + 1, k + 1, h => by
    by_cases e : k = n
    · subst e
      rw [C_self, Nat.sub_self, C_zero]
    · have e1 : n + 1 - (k + 1) = (n - (k + 1)) + 1 := by omega
      rw [e1, C_ss, C_ss, ← C_symm n (k + 1) (by omega), show n - (k + 1) + 1 = n - k by omega, ← C_symm n k (by omega), Nat.add_comm]
theorem C_le : ∀ (n k : Nat), C n k ≤ 2 ^ n
  | n, 0 => by rw [C_zero]; exact Nat.one_le_two_pow
  | 0, k + 1 => by rw [C_zs]; exact Nat.zero_le _
  | n + 1, k + 1 => by
    have a := C_le n k
    have b := C_le n (k + 1)
    rw [C_ss, Nat.pow_succ]
    omega
theorem C_pos : ∀ (n k : Nat), k ≤ n → 0 < C n k
  | n, 0, _ => by rw [C_zero]; decide
  | n + 1, k + 1, h => by
    rw [C_ss]
    have := C_pos n k (by omega)
    omega
theorem C_min (n k : Nat) (h : k ≤ n) : C n (min k (n - k)) = C n k := by
  by_cases e : k ≤ n - k
  · rw [Nat.min_eq_left e]
  · rw [Nat.min_eq_right (by omega), ← C_symm n k h]
theorem C_60 (n k : Nat) (h : n ≤ 60) : C n k ≤ 1152921504606846976 := Nat.le_trans (C_le n k) (Nat.le_trans (Nat.pow_le_pow_right (by decide) h) (by decide))
/-- what the program's binomial answers -/
def binZ (n k : Int) : Int := if k < 0 ∨ n < k then 0 else (C n.toNat k.toNat : Int)
theorem binZ_nat (n k : Nat) : binZ n k = (C n k : Int) := by
  unfold binZ
  by_cases h : n < k
  · rw [if_pos (by omega), C_big n k h]; rfl
  · rw [if_neg (by omega)]; simp
/-- one step of its product -/
theorem C_div (n s : Nat) (h : s < n) : ((C n s : Int) * ((n : Int) + 1 - (1 + (s : Int)))) / (1 + (s : Int)) = (C n (s + 1) : Int) := by
  have e : (C n s : Int) * ((n : Int) + 1 - (1 + (s : Int))) = (C n (s + 1) : Int) * (1 + (s : Int)) := by
    have h1 := C_step n s (by omega)
    have h2 : ((n : Int) + 1 - (1 + (s : Int))) = ((n - s : Nat) : Int) := by omega
    have h3 : (1 + (s : Int)) = ((s + 1 : Nat) : Int) := by omega
    rw [h2, h3, ← Int.natCast_mul, ← Int.natCast_mul, h1]
  rw [e]
  exact Int.mul_ediv_cancel _ (by omega)
end Ef
namespace Ef
/-! ### the least numbers of lists -/
def stepL (a b : Nat) : Nat := a / Nat.gcd a b * b
def leastL (n : Nat) : Nat → Nat
  | 0 => 1
  | d + 1 => stepL (leastL n d) (n * C (n - 1) d)
theorem stepL_pos {a b : Nat} (ha : 0 < a) (hb : 0 < b) : 0 < stepL a b := by
  unfold stepL
  have h1 : Nat.gcd a b ≤ a := Nat.gcd_le_left b ha
  have h2 : 0 < Nat.gcd a b := Nat.gcd_pos_of_pos_left b ha
  exact Nat.mul_pos (Nat.div_pos h1 h2) hb
theorem edge_pos {n d : Nat} (h : d < n) : 0 < n * C (n - 1) d := Nat.mul_pos (by omega) (C_pos _ _ (by omega))
theorem leastL_pos {n : Nat} : ∀ {d : Nat}, d ≤ n → 0 < leastL n d
  | 0, _ => Nat.one_pos
  | d + 1, h => stepL_pos (leastL_pos (by omega)) (edge_pos (by omega))
theorem C_adj : ∀ (n k : Nat), C n k + C n (k + 1) ≤ 2 ^ n
  | 0, 0 => by decide
  | 0, k + 1 => by
    rw [C_zs, C_zs]
    decide
  | n + 1, 0 => by
    have h := C_adj n 0
    have h1 : 1 ≤ 2 ^ n := Nat.one_le_two_pow
    rw [C_zero] at h
    rw [C_ss, C_zero, C_zero, Nat.pow_succ]
    omega
  | n + 1, j + 1 => by
    have h := C_adj n j
    have h2 := C_adj n (j + 1)
    rw [C_ss, C_ss, Nat.pow_succ]
    omega
theorem C_half (n k : Nat) (h : 1 ≤ n) : C n k ≤ 2 ^ (n - 1) := by
  obtain ⟨m, rfl⟩ : ∃ m, n = m + 1 := ⟨n - 1, by omega⟩
  cases k with
  | zero =>
    rw [C_zero]
    exact Nat.one_le_two_pow
  | succ k => exact C_adj m k
theorem edge_lt {n d : Nat} (h : n ≤ 60) : n * C (n - 1) d < 18446744073709551616 := by
  by_cases h1 : n ≤ 1
  · have e : n - 1 = 0 := by omega
    have h2 : C (n - 1) d ≤ 2 ^ 0 := by rw [e]; exact C_le 0 d
    exact Nat.lt_of_le_of_lt (Nat.mul_le_mul h1 h2) (by decide)
  · have h2 : C (n - 1) d ≤ 2 ^ 58 := Nat.le_trans (C_half (n - 1) d (by omega)) (Nat.pow_le_pow_right (by decide) (by omega))
    exact Nat.lt_of_le_of_lt (Nat.mul_le_mul h h2) (by decide)
/-! rows of the triangle, reckoned one from the other -/
def nextRow : List Nat → List Nat := fun r => 1 :: List.zipWith (· + ·) r r.tail
def isRow (n : Nat) (r : List Nat) : Prop := ∀ k, k ≤ 60 → r[k]? = some (C n k)
theorem nextRow_is {n : Nat} {r : List Nat} (h : isRow n r) : ∀ k, k ≤ 60 → (nextRow r)[k]? = some (C (n + 1) k)
  | 0, _ => by
    rw [C_zero]
    rfl
  | k + 1, hk => by
    have h1 := h k (by omega)
    have h2 := h (k + 1) hk
    unfold nextRow
    rw [List.getElem?_cons_succ, List.getElem?_zipWith, h1, List.getElem?_tail, h2]
    rfl
def row0 : List Nat := 1 :: List.replicate 60 0
theorem row0_is : isRow 0 row0 := fun k hk => by
  cases k with
  | zero => rfl
  | succ k =>
    unfold row0
    rw [List.getElem?_cons_succ, List.getElem?_replicate, if_pos (by omega)]
    rfl
/-- P holds along the chain of least numbers: f of each -/
def chainOk (n : Nat) (f : Nat → Nat → Bool) : Nat → Nat → Nat → List Nat → Bool
  | 0, d, a, _ => f d a
  | m + 1, d, a, c :: r => f d a && chainOk n f m (d + 1) (stepL a (n * c)) r
  | _ + 1, _, _, [] => false
theorem chain_all {n : Nat} {f : Nat → Nat → Bool} {row : List Nat} (hr : isRow (n - 1) row) (hn : n ≤ 60) : ∀ (m d : Nat), d + m = n → chainOk n f m d (leastL n d) (row.drop d) = true → ∀ e, d ≤ e → e ≤ n → f e (leastL n e) = true
  | 0, d, h, ok, e, h1, h2 => by
    have e1 : e = d := by omega
    subst e1
    exact ok
  | m + 1, d, h, ok, e, h1, h2 => by
    have hd := hr d (by omega)
    have hlt : d < row.length := (List.getElem?_eq_some_iff.mp hd).1
    have hdr : row.drop d = C (n - 1) d :: row.drop (d + 1) := by
      rw [List.drop_eq_getElem_cons hlt]
      congr 1
      rw [List.getElem?_eq_getElem hlt] at hd
      exact Option.some.inj hd
    rw [hdr] at ok
    have ok2 : (f d (leastL n d) && chainOk n f m (d + 1) (leastL n (d + 1)) (row.drop (d + 1))) = true := ok
    rw [Bool.and_eq_true] at ok2
    by_cases c : e = d
    · rw [c]
      exact ok2.1
    · exact chain_all hr hn m (d + 1) (by omega) ok2.2 e (by omega) h2
def rowsOk (f : Nat → Nat → Nat → Bool) : Nat → Nat → List Nat → Bool
  | 0, _, _ => true
  | m + 1, n, row => chainOk n (f n) n 0 1 row && rowsOk f m (n + 1) (nextRow row)
theorem rows_all {f : Nat → Nat → Nat → Bool} : ∀ (m n : Nat) (row : List Nat), isRow (n - 1) row → 1 ≤ n → rowsOk f m n row = true → ∀ k, n ≤ k → k < n + m → k ≤ 60 → ∀ d, d ≤ k → f k d (leastL k d) = true
  | 0, _, _, _, _, _, k, h1, h2, _, _, _ => by omega
  | m + 1, n, row, hr, h0, ok, k, h1, h2, h6, d, hd => by
    have ok2 : (chainOk n (f n) n 0 1 row && rowsOk f m (n + 1) (nextRow row)) = true := ok
    rw [Bool.and_eq_true] at ok2
    by_cases c : k = n
    · subst c
      exact chain_all hr h6 k 0 (by omega) ok2.1 d (by omega) hd
    · have hr2 : isRow (n + 1 - 1) (nextRow row) := fun j hj => by
        have e : n + 1 - 1 = (n - 1) + 1 := by omega
        rw [e]
        exact nextRow_is hr j hj
      exact rows_all m (n + 1) (nextRow row) hr2 (by omega) ok2.2 k (by omega) (by omega) h6 d hd
theorem small_ok : rowsOk (fun _ _ a => Nat.blt a (2 ^ 100)) 60 1 row0 = true := by decide +kernel
theorem leastL_lt {n d : Nat} (h1 : 1 ≤ n) (h6 : n ≤ 60) (hd : d ≤ n) : leastL n d < 2 ^ 100 := by
  have h := rows_all 60 1 row0 row0_is (by decide) small_ok n h1 (by omega) h6 d hd
  have h2 : Nat.blt (leastL n d) (2 ^ 100) = true := h
  rw [Nat.blt_eq] at h2
  exact h2
end Ef
namespace Ef
/-! ### the standard table -/
theorem stepL_left (a b : Nat) (ha : 0 < a) : a ∣ stepL a b := by
  unfold stepL
  have h1 : Nat.gcd a b ∣ a := Nat.gcd_dvd_left a b
  have h2 : Nat.gcd a b ∣ b := Nat.gcd_dvd_right a b
  refine ⟨b / Nat.gcd a b, ?_⟩
  obtain ⟨x, hx⟩ := h1
  obtain ⟨y, hy⟩ := h2
  have g0 : 0 < Nat.gcd a b := Nat.gcd_pos_of_pos_left b ha
  generalize Nat.gcd a b = g at hx hy g0
  subst hx hy
  rw [Nat.mul_div_cancel_left _ g0, Nat.mul_div_cancel_left _ g0, Nat.mul_comm g x, Nat.mul_assoc]
theorem stepL_right (a b : Nat) : b ∣ stepL a b := ⟨a / Nat.gcd a b, Nat.mul_comm _ _⟩
theorem leastL_dvd {n : Nat} : ∀ {d : Nat}, d ≤ n → ∀ b, b < d → n * C (n - 1) b ∣ leastL n d
  | 0, _, b, h => by omega
  | d + 1, hd, b, h => by
    by_cases e : b = d
    · subst e
      exact stepL_right _ _
    · exact Nat.dvd_trans (leastL_dvd (by omega) b (by omega)) (stepL_left _ _ (leastL_pos (by omega)))
/-- width of a block at a level -/
def wd (n c s : Nat) : Nat := c / (n * C (n - 1) s)
theorem wd_eq {n c s : Nat} (h : n * C (n - 1) s ∣ c) : wd n c s * (n * C (n - 1) s) = c := Nat.div_mul_cancel h
theorem wd_pos {n c s : Nat} (h : n * C (n - 1) s ∣ c) (hc : 0 < c) : 0 < wd n c s := by
  have e := wd_eq h
  cases z : wd n c s with
  | zero =>
    rw [z, Nat.zero_mul] at e
    omega
  | succ k => omega
theorem wd_step {n c b : Nat} (h1 : n * C (n - 1) b ∣ c) (h2 : n * C (n - 1) (b + 1) ∣ c) (hb : b + 1 < n) : wd n c b * (b + 1) = wd n c (b + 1) * (n - (b + 1)) := by
  have e1 := wd_eq h1
  have e2 := wd_eq h2
  have s := C_step (n - 1) b (by omega)
  have p : 0 < n * C (n - 1) b := edge_pos (by omega)
  have x1 : wd n c b * (b + 1) * (n * C (n - 1) b) = c * (b + 1) := by
    rw [Nat.mul_right_comm, e1]
  have x2 : wd n c (b + 1) * (n - (b + 1)) * (n * C (n - 1) b) = c * (b + 1) := by
    have y : wd n c (b + 1) * (n * C (n - 1) (b + 1)) * (b + 1) = c * (b + 1) := by rw [e2]
    rw [← y, Nat.mul_assoc, Nat.mul_assoc (wd n c (b + 1)), Nat.mul_assoc n, s, show n - 1 - b = n - (b + 1) by omega]
    congr 1
    rw [Nat.mul_comm (n - (b + 1)), Nat.mul_assoc]
  exact Nat.eq_of_mul_eq_mul_right p (x1.trans x2.symm)
theorem wd_zero {n c : Nat} (h : n * C (n - 1) 0 ∣ c) : wd n c 0 * n = c := by
  have e := wd_eq h
  rw [C_zero, Nat.mul_one] at e
  exact e
theorem wd_le (n c s : Nat) : wd n c s ≤ c := Nat.div_le_self _ _
/-- what 'follow' takes and what it leaves -/
def fol (n c : Nat) : List Nat → List Nat → Nat → List Nat × Nat
  | [], _, r => ([], r)
  | s :: ss, L, r => (L.getD (r / wd n c s) 0 :: (fol n c ss (L.eraseIdx (r / wd n c s)) (wd n c s * (L.getD (r / wd n c s) 0 - r / wd n c s) + r % wd n c s)).1,
      (fol n c ss (L.eraseIdx (r / wd n c s)) (wd n c s * (L.getD (r / wd n c s) 0 - r / wd n c s) + r % wd n c s)).2)
def FolOk (n c : Nat) : List Nat → List Nat → Nat → Prop
  | [], _, _ => True
  | s :: ss, L, r => 0 < wd n c s ∧ r / wd n c s < L.length ∧ r / wd n c s ≤ L.getD (r / wd n c s) 0 ∧
      FolOk n c ss (L.eraseIdx (r / wd n c s)) (wd n c s * (L.getD (r / wd n c s) 0 - r / wd n c s) + r % wd n c s)
theorem fol_cons (n c s : Nat) (ss L : List Nat) (r : Nat) : fol n c (s :: ss) L r = (L.getD (r / wd n c s) 0 :: (fol n c ss (L.eraseIdx (r / wd n c s)) (wd n c s * (L.getD (r / wd n c s) 0 - r / wd n c s) + r % wd n c s)).1, (fol n c ss (L.eraseIdx (r / wd n c s)) (wd n c s * (L.getD (r / wd n c s) 0 - r / wd n c s) + r % wd n c s)).2) := rfl
theorem fol_len (n c : Nat) : ∀ ss L r, (fol n c ss L r).1.length = ss.length
  | [], _, _ => rfl
  | s :: ss, L, r => congrArg (· + 1) (fol_len n c ss _ _)
/-- ascending -/
abbrev Asc (L : List Nat) : Prop := L.Pairwise (· < ·)
theorem getD_of {L : List Nat} {i : Nat} (h : i < L.length) : L[i]? = some (L.getD i 0) := by
  rw [List.getD_eq_getElem?_getD, List.getElem?_eq_getElem h]
  rfl
/-- an ascending list counted from lo -/
theorem asc_from : ∀ {L : List Nat} {lo : Nat}, Asc L → (∀ x ∈ L, lo ≤ x) → ∀ {i x : Nat}, L[i]? = some x → lo + i ≤ x
  | [], _, _, _, _, _, h => by cases h
  | y :: L, lo, a, hl, 0, x, h => by
    obtain rfl : y = x := Option.some.inj h
    exact hl y List.mem_cons_self
  | y :: L, lo, a, hl, i + 1, x, h => by
    have h1 : L[i]? = some x := h
    have hy := hl y List.mem_cons_self
    have h2 := asc_from (L := L) (lo := lo + 1) (List.pairwise_cons.mp a).2 (fun z hz => by
      have := (List.pairwise_cons.mp a).1 z hz
      omega) h1
    omega
theorem asc_ge {L : List Nat} (a : Asc L) {i x : Nat} (h : L[i]? = some x) : i ≤ x := by
  have := asc_from a (lo := 0) (fun _ _ => Nat.zero_le _) h
  omega
theorem asc_le : ∀ {L : List Nat} {n : Nat}, Asc L → (∀ x ∈ L, x < n) → ∀ {i x : Nat}, L[i]? = some x → x + (L.length - i) ≤ n
  | [], _, _, _, _, _, h => by cases h
  | [y], n, _, hl, 0, x, h => by
    obtain rfl : y = x := Option.some.inj h
    have := hl y List.mem_cons_self
    show y + 1 ≤ n
    omega
  | y :: z :: L, n, a, hl, 0, x, h => by
    obtain rfl : y = x := Option.some.inj h
    have h1 := asc_le (L := z :: L) (List.pairwise_cons.mp a).2 (fun u hu => hl u (List.mem_cons_of_mem _ hu)) (i := 0) (x := z) rfl
    have h2 := (List.pairwise_cons.mp a).1 z List.mem_cons_self
    have e : (y :: z :: L).length = (z :: L).length + 1 := rfl
    omega
  | y :: L, n, a, hl, i + 1, x, h => by
    have h1 := asc_le (L := L) (List.pairwise_cons.mp a).2 (fun u hu => hl u (List.mem_cons_of_mem _ hu)) (i := i) (x := x) h
    have e : (y :: L).length = L.length + 1 := rfl
    omega
theorem asc_erase {L : List Nat} (a : Asc L) (i : Nat) : Asc (L.eraseIdx i) := a.sublist (List.eraseIdx_sublist L i)
/-- the way forward keeps within its bounds -/
theorem folOk_path {n c d : Nat} (hd : ∀ b, b < d → n * C (n - 1) b ∣ c) (hc : 0 < c) (hdn : d ≤ n) : ∀ (m b : Nat) (L : List Nat) (r : Nat), b + m = d → Asc L → (∀ x ∈ L, x < n) → L.length = n - b → (b < d → r < wd n c b * (n - b)) → FolOk n c (List.range' b m) L r
  | 0, _, _, _, _, _, _, _, _ => trivial
  | m + 1, b, L, r, e, a, hl, hlen, hr => by
    have hb := hd b (by omega)
    have w0 := wd_pos hb hc
    have hr2 := hr (by omega)
    have hi : r / wd n c b < L.length := by
      rw [hlen]
      exact Nat.div_lt_of_lt_mul hr2
    have hx := getD_of hi
    have g1 := asc_ge a hx
    have g2 := asc_le a hl hx
    refine ⟨w0, hi, g1, ?_⟩
    refine folOk_path hd hc hdn m (b + 1) _ _ (by omega) (asc_erase a _) (fun x hx => hl x (List.mem_of_mem_eraseIdx hx)) ?_ (fun hlt => ?_)
    · rw [List.length_eraseIdx, if_pos hi]
      omega
    · rw [← wd_step hb (hd (b + 1) hlt) (by omega)]
      have h1 : r % wd n c b < wd n c b := Nat.mod_lt _ w0
      have h2 : L.getD (r / wd n c b) 0 - r / wd n c b ≤ b := by omega
      have h3 : wd n c b * (L.getD (r / wd n c b) 0 - r / wd n c b) ≤ wd n c b * b := Nat.mul_le_mul_left _ h2
      rw [Nat.mul_add, Nat.mul_one]
      omega
/-- count of lists and depth that go together -/
structure Std (n d c : Nat) : Prop where
  n60 : n ≤ 60
  n1 : 1 ≤ n
  dn : d ≤ n
  c0 : 0 < c
  dv : leastL n d ∣ c
theorem Std.dvd {n d c : Nat} (h : Std n d c) (b : Nat) (hb : b < d) : n * C (n - 1) b ∣ c := Nat.dvd_trans (leastL_dvd h.dn b hb) h.dv
def path (n d c k : Nat) : List Nat × Nat := fol n c (List.range' 0 d) (List.range' 0 n) k
theorem asc_range' : ∀ (m b : Nat), Asc (List.range' b m) := fun m b => List.pairwise_lt_range'
theorem mem_range0 {n x : Nat} : x ∈ List.range' 0 n ↔ x < n := by
  rw [List.mem_range']
  exact ⟨fun ⟨i, h1, h2⟩ => by omega, fun h => ⟨x, h, by omega⟩⟩
theorem path_ok {n d c k : Nat} (h : Std n d c) (hk : k < c) : FolOk n c (List.range' 0 d) (List.range' 0 n) k :=
  folOk_path h.dvd h.c0 h.dn d 0 _ _ (by omega) (asc_range' n 0) (fun x hx => mem_range0.mp hx) (by rw [List.length_range']; omega) fun hd => by
    rw [Nat.sub_zero, wd_zero (h.dvd 0 hd)]
    exact hk
theorem fol_mem {n c : Nat} : ∀ {ss L : List Nat} {r : Nat}, FolOk n c ss L r → ∀ x ∈ (fol n c ss L r).1, x ∈ L
  | [], _, _, _, x, hx => by cases hx
  | s :: ss, L, r, ok, x, hx => by
    rw [fol_cons] at hx
    obtain ⟨_, h2, _, ok2⟩ := ok
    rcases List.mem_cons.mp hx with rfl | hx
    · exact List.mem_of_getElem? (getD_of h2)
    · exact List.mem_of_mem_eraseIdx (fol_mem ok2 x hx)
theorem nodup_inj {L : List Nat} (hn : L.Nodup) {i j x : Nat} (h1 : L[i]? = some x) (h2 : L[j]? = some x) : i = j := by
  obtain ⟨a1, a2⟩ := List.getElem?_eq_some_iff.mp h1
  obtain ⟨b1, b2⟩ := List.getElem?_eq_some_iff.mp h2
  rcases Nat.lt_trichotomy i j with c | c | c
  · exact absurd (a2.trans b2.symm) (List.pairwise_iff_getElem.mp hn i j a1 b1 c)
  · exact c
  · exact absurd (b2.trans a2.symm) (List.pairwise_iff_getElem.mp hn j i b1 a1 c)
theorem not_mem_erase {L : List Nat} {i x : Nat} (hn : L.Nodup) (h : L[i]? = some x) : x ∉ L.eraseIdx i := by
  intro hm
  obtain ⟨k, hk⟩ := List.getElem?_of_mem hm
  rw [List.getElem?_eraseIdx] at hk
  split at hk
  · have := nodup_inj hn hk h
    omega
  · have := nodup_inj hn hk h
    omega
theorem fol_nodup {n c : Nat} : ∀ {ss L : List Nat} {r : Nat}, FolOk n c ss L r → L.Nodup → (fol n c ss L r).1.Nodup
  | [], _, _, _, _ => List.nodup_nil
  | s :: ss, L, r, ok, hn => by
    rw [fol_cons]
    obtain ⟨_, h2, _, ok2⟩ := ok
    refine List.nodup_cons.mpr ⟨fun hx => not_mem_erase hn (getD_of h2) (fol_mem ok2 _ hx), fol_nodup ok2 (hn.sublist (List.eraseIdx_sublist _ _))⟩
theorem asc_nodup {L : List Nat} (h : Asc L) : L.Nodup := h.imp fun z => Nat.ne_of_lt z
theorem path_nodup {n d c k : Nat} (h : Std n d c) (hk : k < c) : (path n d c k).1.Nodup := fol_nodup (path_ok h hk) (asc_nodup (asc_range' n 0))
theorem path_lt {n d c k : Nat} (h : Std n d c) (hk : k < c) : ∀ x ∈ (path n d c k).1, x < n := fun x hx => mem_range0.mp (fol_mem (path_ok h hk) x hx)
theorem path_len (n d c k : Nat) : (path n d c k).1.length = d := by
  unfold path
  rw [fol_len, List.length_range']
theorem fol_rest {n c d : Nat} (hd : ∀ b, b < d → n * C (n - 1) b ∣ c) (hc : 0 < c) (hdn : d ≤ n) : ∀ (m b : Nat) (L : List Nat) (r : Nat), b + m = d → Asc L → (∀ x ∈ L, x < n) → L.length = n - b → (b < d → r < wd n c b * (n - b)) → r < c → (fol n c (List.range' b m) L r).2 < c
  | 0, _, _, _, _, _, _, _, _, h => h
  | m + 1, b, L, r, e, a, hl, hlen, hr, h => by
    have hb := hd b (by omega)
    have w0 := wd_pos hb hc
    have hr2 := hr (by omega)
    have hi : r / wd n c b < L.length := by
      rw [hlen]
      exact Nat.div_lt_of_lt_mul hr2
    have hx := getD_of hi
    have g1 := asc_ge a hx
    have g2 := asc_le a hl hx
    have h1 : r % wd n c b < wd n c b := Nat.mod_lt _ w0
    have h2 : L.getD (r / wd n c b) 0 - r / wd n c b ≤ b := by omega
    have h3 : wd n c b * (L.getD (r / wd n c b) 0 - r / wd n c b) ≤ wd n c b * b := Nat.mul_le_mul_left _ h2
    have h4 : wd n c b * (L.getD (r / wd n c b) 0 - r / wd n c b) + r % wd n c b < wd n c b * (b + 1) := by
      rw [Nat.mul_add, Nat.mul_one]
      omega
    have h5 : wd n c b * (b + 1) ≤ c := by
      have p : 0 < C (n - 1) b := C_pos _ _ (by omega)
      have p2 : b + 1 ≤ n * C (n - 1) b := Nat.le_trans (show b + 1 ≤ n * 1 by omega) (Nat.mul_le_mul_left n p)
      have := Nat.mul_le_mul_left (wd n c b) p2
      rw [wd_eq hb] at this
      exact this
    rw [List.range'_succ, fol_cons]
    refine fol_rest hd hc hdn m (b + 1) _ _ (by omega) (asc_erase a _) (fun x hx => hl x (List.mem_of_mem_eraseIdx hx)) ?_ (fun hlt => ?_) (by omega)
    · rw [List.length_eraseIdx, if_pos hi]
      omega
    · rw [← wd_step hb (hd (b + 1) hlt) (by omega)]
      exact h4
theorem path_rest {n d c k : Nat} (h : Std n d c) (hk : k < c) : (path n d c k).2 < c :=
  fol_rest h.dvd h.c0 h.dn d 0 _ _ (by omega) (asc_range' n 0) (fun x hx => mem_range0.mp hx) (by rw [List.length_range']; omega) (fun hd => by
    rw [Nat.sub_zero, wd_zero (h.dvd 0 hd)]
    exact hk) hk
theorem asc_unique {L M : List Nat} (a : Asc L) (b : Asc M) (p : L.Perm M) : L = M :=
  List.Perm.eq_of_pairwise (le := (· ≤ ·)) (fun a b _ _ h1 h2 => Nat.le_antisymm h1 h2) (a.imp fun z => Nat.le_of_lt z) (b.imp fun z => Nat.le_of_lt z) p
theorem std_of {n d : Nat} (h6 : n ≤ 60) (h1 : 1 ≤ n) (hd : d ≤ n) (q : Nat) (hq : 0 < q) : Std n d (leastL n d * q) := ⟨h6, h1, hd, Nat.mul_pos (leastL_pos hd) hq, ⟨q, rfl⟩⟩
/-! what stands outside a set, and the places in it -/
theorem below_at : ∀ {M : List Nat}, Asc M → ∀ {j s : Nat}, M[j]? = some s → (M.filter fun x => decide (x < s)).length = j
  | [], _, _, _, h => by cases h
  | y :: M, a, 0, s, h => by
    obtain rfl : y = s := Option.some.inj h
    rw [List.filter_cons_of_neg (by simp), List.filter_eq_nil_iff.mpr]
    · rfl
    · intro x hx
      have := (List.pairwise_cons.mp a).1 x hx
      simp
      omega
  | y :: M, a, j + 1, s, h => by
    have h1 : M[j]? = some s := h
    have h2 := (List.pairwise_cons.mp a).1 s (List.mem_of_getElem? h1)
    rw [List.filter_cons_of_pos (by simpa using h2)]
    exact congrArg (· + 1) (below_at (List.pairwise_cons.mp a).2 h1)
/-- L: the servers outside I, ascending -/
structure Compl (n : Nat) (I L : List Nat) : Prop where
  aI : Asc I
  aL : Asc L
  bI : ∀ x ∈ I, x < n
  mem : ∀ x, x ∈ L ↔ x < n ∧ x ∉ I
theorem Compl.count {n : Nat} {I L : List Nat} (h : Compl n I L) {i s : Nat} (e : L[i]? = some s) : (I.filter fun x => decide (x < s)).length + i = s := by
  have hs := (h.mem s).mp (List.mem_of_getElem? e)
  have p : ((I.filter fun x => decide (x < s)) ++ (L.filter fun x => decide (x < s))).Perm (List.range' 0 s) := by
    refine (List.perm_ext_iff_of_nodup ?_ (asc_nodup (asc_range' s 0))).mpr fun x => ?_
    · refine List.nodup_append.mpr ⟨(asc_nodup h.aI).filter _, (asc_nodup h.aL).filter _, fun x hx y hy e2 => ?_⟩
      subst e2
      exact ((h.mem x).mp (List.mem_filter.mp hy).1).2 (List.mem_filter.mp hx).1
    · rw [List.mem_append, List.mem_filter, List.mem_filter, mem_range0, h.mem]
      simp only [decide_eq_true_eq]
      constructor
      · rintro (⟨_, h⟩ | ⟨_, h⟩) <;> exact h
      · intro hx
        by_cases c : x ∈ I
        · exact .inl ⟨c, hx⟩
        · exact .inr ⟨⟨by omega, c⟩, hx⟩
  have l := p.length_eq
  rw [List.length_append, below_at h.aL e, List.length_range'] at l
  exact l
theorem Compl.start (n : Nat) : Compl n [] (List.range' 0 n) := ⟨List.Pairwise.nil, asc_range' n 0, fun x hx => absurd hx List.not_mem_nil, fun x => by rw [mem_range0]; simp⟩
theorem Compl.next {n : Nat} {I L I' : List Nat} (h : Compl n I L) {i s : Nat} (e : L[i]? = some s) (hp : I'.Perm (I ++ [s])) (ha : Asc I') : Compl n I' (L.eraseIdx i) := by
  have hs := (h.mem s).mp (List.mem_of_getElem? e)
  refine ⟨ha, asc_erase h.aL i, fun x hx => ?_, fun x => ?_⟩
  · rcases List.mem_append.mp (hp.mem_iff.mp hx) with hx | hx
    · exact h.bI x hx
    · rw [List.mem_singleton.mp hx]
      exact hs.1
  · constructor
    · intro hx
      have h1 := (h.mem x).mp (List.mem_of_mem_eraseIdx hx)
      refine ⟨h1.1, fun hx2 => ?_⟩
      rcases List.mem_append.mp (hp.mem_iff.mp hx2) with z | z
      · exact h1.2 z
      · rw [List.mem_singleton.mp z] at hx
        exact not_mem_erase (asc_nodup h.aL) e hx
    · rintro ⟨h1, h2⟩
      have h3 : x ∉ I := fun z => h2 (hp.mem_iff.mpr (List.mem_append_left _ z))
      have h4 : x ≠ s := fun z => h2 (hp.mem_iff.mpr (List.mem_append_right _ (by rw [z]; exact List.mem_singleton_self s)))
      obtain ⟨k, hk⟩ := List.getElem?_of_mem ((h.mem x).mpr ⟨h1, h3⟩)
      have hki : k ≠ i := fun z => by
        rw [z, e] at hk
        exact h4 (Option.some.inj hk).symm
      rcases Nat.lt_or_gt_of_ne hki with hlt | hgt
      · exact List.mem_of_getElem? (i := k) (by rw [List.getElem?_eraseIdx, if_pos hlt]; exact hk)
      · exact List.mem_of_getElem? (i := k - 1) (by rw [List.getElem?_eraseIdx, if_neg (by omega), show k - 1 + 1 = k by omega]; exact hk)
/-- the place of the new one -/
theorem Compl.index {n : Nat} {I L I' : List Nat} (h : Compl n I L) {i j s : Nat} (e : L[i]? = some s) (hp : I'.Perm (I ++ [s])) (ha : Asc I') (hj : I'[j]? = some s) : j + i = s := by
  have h1 := h.count e
  have h2 := below_at ha hj
  have h3 := (hp.filter fun x => decide (x < s)).length_eq
  rw [List.filter_append, List.length_append] at h3
  have h4 : (List.filter (fun x => decide (x < s)) [s]).length = 0 := by
    rw [List.filter_cons_of_neg (by simp)]
    rfl
  omega
theorem Compl.free {n : Nat} {I L : List Nat} (h : Compl n I L) : (List.range' 0 n).filter (fun x => !decide (x ∈ I)) = L := by
  have a1 : Asc ((List.range' 0 n).filter (fun x => !decide (x ∈ I))) := (asc_range' n 0).filter _
  refine List.Perm.eq_of_pairwise (le := (· ≤ ·)) (fun a b _ _ h1 h2 => Nat.le_antisymm h1 h2) (a1.imp fun z => Nat.le_of_lt z) (h.aL.imp fun z => Nat.le_of_lt z) ?_
  refine (List.perm_ext_iff_of_nodup (asc_nodup a1) (asc_nodup h.aL)).mpr fun x => ?_
  rw [List.mem_filter, mem_range0, h.mem]
  simp
end Ef
namespace Ef
/-! ### the sets of a size among ascending servers -/
def combs : List Nat → Nat → List (List Nat)
  | _, 0 => [[]]
  | [], _ + 1 => []
  | x :: r, k + 1 => (combs r k).map (x :: ·) ++ combs r (k + 1)
theorem combs_zero (l : List Nat) : combs l 0 = [[]] := by cases l <;> rfl
theorem combs_short : ∀ (l : List Nat) (k : Nat), l.length < k → combs l k = []
  | _, 0, h => absurd h (Nat.not_lt_zero _)
  | [], k + 1, _ => rfl
  | x :: r, k + 1, h => by
    have h2 : r.length < k := by
      simp only [List.length_cons] at h
      omega
    show (combs r k).map _ ++ combs r (k + 1) = []
    rw [combs_short r k h2, combs_short r (k + 1) (by omega)]
    rfl
theorem combs_good : ∀ (l : List Nat) (k : Nat), ∀ c ∈ combs l k, c.length = k ∧ c.Sublist l
  | l, 0, c, h => by
    rw [combs_zero] at h
    rw [List.mem_singleton.mp h]
    exact ⟨rfl, List.nil_sublist _⟩
  | [], k + 1, c, h => by cases h
  | x :: r, k + 1, c, h => by
    rcases List.mem_append.mp h with h | h
    · obtain ⟨d, hd, rfl⟩ := List.mem_map.mp h
      obtain ⟨h1, h2⟩ := combs_good r k d hd
      exact ⟨by rw [List.length_cons, h1], h2.cons_cons x⟩
    · obtain ⟨h1, h2⟩ := combs_good r (k + 1) c h
      exact ⟨h1, h2.cons x⟩
theorem combs_ne : ∀ (l : List Nat) (k : Nat), k ≤ l.length → combs l k ≠ []
  | l, 0, _ => by rw [combs_zero]; simp
  | [], k + 1, h => by simp at h
  | x :: r, k + 1, h => by
    have h2 : k ≤ r.length := by
      simp only [List.length_cons] at h
      omega
    show (combs r k).map _ ++ combs r (k + 1) ≠ []
    intro e
    have := (List.append_eq_nil_iff.mp e).1
    exact combs_ne r k h2 (List.map_eq_nil_iff.mp this)
theorem combs_mem : ∀ (l c : List Nat), c.Sublist l → c ∈ combs l c.length
  | l, [], _ => by
    show [] ∈ combs l 0
    rw [combs_zero]
    exact List.mem_singleton.mpr rfl
  | [], _ :: _, h => by cases h
  | x :: r, y :: c, h => by
    show y :: c ∈ (combs r c.length).map (x :: ·) ++ combs r (c.length + 1)
    cases h with
    | cons _ h => exact List.mem_append_right _ (combs_mem r (y :: c) h)
    | cons_cons _ h => exact List.mem_append_left _ (List.mem_map.mpr ⟨c, combs_mem r c h, rfl⟩)
/-- by the place of the first one -/
theorem combs_from (l : List Nat) (m : Nat) : ∀ (d s : Nat), l.length + 1 ≤ s + d + (m + 1) → s + d + (m + 1) ≤ l.length + 1 ∨ d = 0 → combs (l.drop s) (m + 1) = (List.range' s d).flatMap fun i => (combs (l.drop (i + 1)) m).map (l.getD i 0 :: ·)
  | 0, s, h1, _ => by
    rw [combs_short _ _ (by rw [List.length_drop]; omega)]
    rfl
  | d + 1, s, h1, h2 => by
    have hs : s < l.length := by omega
    rw [List.drop_eq_getElem_cons hs]
    show (combs (l.drop (s + 1)) m).map _ ++ combs (l.drop (s + 1)) (m + 1) = _
    rw [combs_from l m d (s + 1) (by omega) (by omega), List.range'_succ, List.flatMap_cons]
    congr 2
    funext c
    rw [List.getD_eq_getElem?_getD, List.getElem?_eq_getElem hs]
    rfl
/-- one server more, in the order of the law -/
def moreC (l : List Nat) (c : List Nat) : List (List Nat) := (l.filter fun y => decide (c = [] ∨ c.getLastD 0 < y)).map fun y => c ++ [y]
theorem last_cons (x : Nat) (c : List Nat) (h : c ≠ []) : (x :: c).getLastD 0 = c.getLastD 0 := by
  cases c with
  | nil => exact absurd rfl h
  | cons a r => rfl
theorem last_mem (c : List Nat) (h : c ≠ []) : c.getLastD 0 ∈ c := by
  cases c with
  | nil => exact absurd rfl h
  | cons a r =>
    have e : (a :: r).getLastD 0 = (a :: r).getLast h := by
      rw [List.getLastD_cons, List.getLast_eq_getLastD]
    rw [e]
    exact List.getLast_mem h
theorem flat_congr {α β : Type} {f g : α → List β} : ∀ {l : List α}, (∀ a ∈ l, f a = g a) → l.flatMap f = l.flatMap g
  | [], _ => rfl
  | a :: l, h => by rw [List.flatMap_cons, List.flatMap_cons, h a List.mem_cons_self, flat_congr fun b hb => h b (List.mem_cons_of_mem _ hb)]
theorem combs_more : ∀ (l : List Nat) (t : Nat), Asc l → (combs l t).flatMap (moreC l) = combs l (t + 1)
  | [], 0, _ => rfl
  | [], t + 1, _ => rfl
  | x :: r, 0, h => by
    obtain ⟨h1, h2⟩ := List.pairwise_cons.mp h
    have ih := combs_more r 0 h2
    rw [combs_zero] at ih ⊢
    rw [List.flatMap_cons, List.flatMap_nil, List.append_nil] at ih ⊢
    show _ = (combs r 0).map (x :: ·) ++ combs r 1
    rw [← ih, combs_zero]
    unfold moreC
    rw [List.filter_cons_of_pos (by simp)]
    rfl
  | x :: r, t + 1, h => by
    obtain ⟨h1, h2⟩ := List.pairwise_cons.mp h
    show ((combs r t).map (x :: ·) ++ combs r (t + 1)).flatMap (moreC (x :: r)) = (combs r (t + 1)).map (x :: ·) ++ combs r (t + 2)
    rw [List.flatMap_append]
    have e2 : (combs r (t + 1)).flatMap (moreC (x :: r)) = combs r (t + 2) := by
      rw [← combs_more r (t + 1) h2]
      refine flat_congr fun c hc => ?_
      obtain ⟨g1, g2⟩ := combs_good r (t + 1) c hc
      have ne : c ≠ [] := fun e => by rw [e] at g1; cases g1
      have hl := h1 _ (g2.subset (last_mem c ne))
      unfold moreC
      rw [List.filter_cons_of_neg]
      simp only [decide_eq_true_eq, not_or]
      exact ⟨ne, by omega⟩
    have e1 : ((combs r t).map (x :: ·)).flatMap (moreC (x :: r)) = (combs r (t + 1)).map (x :: ·) := by
      rw [← combs_more r t h2, List.flatMap_map, List.map_flatMap]
      refine flat_congr fun c hc => ?_
      obtain ⟨g1, g2⟩ := combs_good r t c hc
      unfold moreC
      rw [List.map_map]
      by_cases ne : c = []
      · subst ne
        rw [List.filter_cons_of_neg (by simp)]
        have e : (r.filter fun y => decide (([x] : List Nat) = [] ∨ ([x] : List Nat).getLastD 0 < y)) = r.filter fun y => decide (([] : List Nat) = [] ∨ ([] : List Nat).getLastD 0 < y) := by
          refine List.filter_congr fun y hy => ?_
          have := h1 y hy
          simp [this]
        rw [e]
        rfl
      · have hl := h1 _ (g2.subset (last_mem c ne))
        rw [List.filter_cons_of_neg (by
          simp only [decide_eq_true_eq, not_or]
          exact ⟨by simp, by rw [last_cons x c ne]; omega⟩)]
        have e : (r.filter fun y => decide (x :: c = [] ∨ (x :: c).getLastD 0 < y)) = r.filter fun y => decide (c = [] ∨ c.getLastD 0 < y) := by
          refine List.filter_congr fun y hy => ?_
          rw [last_cons x c ne]
          simp [ne]
        rw [e]
        rfl
    rw [e1, e2]
/-! the program's beginnings -/
def stepB (l : List Nat) (m : Nat) (b : List Nat × Nat) : List (List Nat × Nat) := (List.range' b.2 (l.length + 1 - m - b.2)).map fun i => (b.1 ++ [l.getD i 0], i + 1)
def begB (l : List Nat) (k : Nat) : Nat → List (List Nat × Nat)
  | 0 => [([], 0)]
  | t + 1 => (begB l k t).flatMap (stepB l (k - t))
def restB (l : List Nat) (m : Nat) (b : List Nat × Nat) : List (List Nat) := (combs (l.drop b.2) m).map (b.1 ++ ·)
theorem step_rest (l : List Nat) (m : Nat) (b : List Nat × Nat) : (stepB l (m + 1) b).flatMap (restB l m) = restB l (m + 1) b := by
  unfold stepB restB
  rw [combs_from l m (l.length + 1 - (m + 1) - b.2) b.2 (by omega) (by omega), List.flatMap_map, List.map_flatMap]
  refine flat_congr fun i _ => ?_
  rw [List.map_map]
  refine List.map_congr_left fun c _ => ?_
  show b.1 ++ [l.getD i 0] ++ c = b.1 ++ (l.getD i 0 :: c)
  rw [List.append_assoc]
  rfl
theorem flat_flat {α β γ : Type} (f : α → List β) (g : β → List γ) : ∀ l : List α, (l.flatMap f).flatMap g = l.flatMap fun a => (f a).flatMap g
  | [] => rfl
  | a :: l => by rw [List.flatMap_cons, List.flatMap_append, List.flatMap_cons, flat_flat f g l]
theorem beg_rest (l : List Nat) (k : Nat) : ∀ t, t ≤ k → (begB l k t).flatMap (restB l (k - t)) = combs l k
  | 0, _ => by
    show restB l k ([], 0) ++ [] = _
    unfold restB
    rw [List.append_nil]
    show (combs l k).map _ = _
    exact List.map_id _
  | t + 1, h => by
    rw [← beg_rest l k t (by omega)]
    show ((begB l k t).flatMap (stepB l (k - t))).flatMap _ = _
    rw [flat_flat]
    refine flat_congr fun b _ => ?_
    have e : k - t = (k - (t + 1)) + 1 := by omega
    rw [e]
    exact step_rest l _ b
theorem map_flat {α β : Type} (f : α → β) : ∀ l : List α, l.flatMap (fun a => [f a]) = l.map f
  | [] => rfl
  | a :: l => by rw [List.flatMap_cons, map_flat f l]; rfl
theorem beg_end (l : List Nat) (k : Nat) : (begB l k k).map (·.1) = combs l k := by
  rw [← beg_rest l k k (Nat.le_refl _), ← map_flat]
  refine flat_congr fun b _ => ?_
  unfold restB
  rw [Nat.sub_self, combs_zero]
  show _ = [b.1 ++ []]
  rw [List.append_nil]
theorem beg_fit (l : List Nat) (k : Nat) : ∀ t, t < k → ∀ b ∈ begB l k (t + 1), b.2 + (k - (t + 1)) ≤ l.length := fun t ht b hb => by
  obtain ⟨a, _, hb⟩ := List.mem_flatMap.mp hb
  obtain ⟨i, hi, rfl⟩ := List.mem_map.mp hb
  rw [List.mem_range'_1] at hi
  show i + 1 + _ ≤ _
  omega
theorem len_flat {α β : Type} (f : α → List β) : ∀ l : List α, (∀ a ∈ l, f a ≠ []) → l.length ≤ (l.flatMap f).length
  | [], _ => Nat.zero_le _
  | a :: l, h => by
    rw [List.flatMap_cons, List.length_append, List.length_cons]
    have h1 := len_flat f l fun b hb => h b (List.mem_cons_of_mem _ hb)
    have h2 := List.length_pos_iff.mpr (h a List.mem_cons_self)
    omega
theorem beg_len (l : List Nat) (k : Nat) : ∀ t, t ≤ k → (begB l k t).length ≤ (combs l k).length + 1
  | 0, _ => by show 1 ≤ _; omega
  | t + 1, h => by
    rw [← beg_rest l k (t + 1) h]
    refine Nat.le_succ_of_le (len_flat _ _ fun b hb => ?_)
    have := beg_fit l k t h b hb
    unfold restB
    intro e
    exact combs_ne _ _ (by rw [List.length_drop]; omega) (List.map_eq_nil_iff.mp e)
theorem beg_good (l : List Nat) (k : Nat) : ∀ t, ∀ b ∈ begB l k t, b.1.length = t ∧ b.2 ≤ l.length + 1
  | 0, b, hb => by
    rw [List.mem_singleton.mp hb]
    exact ⟨rfl, Nat.zero_le _⟩
  | t + 1, b, hb => by
    obtain ⟨a, ha, hb⟩ := List.mem_flatMap.mp hb
    obtain ⟨i, hi, rfl⟩ := List.mem_map.mp hb
    rw [List.mem_range'_1] at hi
    obtain ⟨h1, h2⟩ := beg_good l k t a ha
    exact ⟨by show (a.1 ++ _).length = _; rw [List.length_append, h1]; rfl, by show i + 1 ≤ _; omega⟩
theorem fm_le {α β : Type} (f : α → List β) : ∀ (l : List α) (i : Nat), ((l.take i).flatMap f).length ≤ (l.flatMap f).length
  | [], i => by rw [List.take_nil]; exact Nat.le_refl _
  | a :: l, 0 => Nat.zero_le _
  | a :: l, i + 1 => by
    rw [List.take_succ_cons, List.flatMap_cons, List.flatMap_cons, List.length_append, List.length_append]
    have := fm_le f l i
    omega
theorem fm_step {α β : Type} {f : α → List β} {l : List α} {i : Nat} {a : α} (h : l[i]? = some a) : (l.take (i + 1)).flatMap f = (l.take i).flatMap f ++ f a := by
  rw [List.take_add_one, h, List.flatMap_append]
  show _ ++ [a].flatMap f = _
  rw [List.flatMap_cons, List.flatMap_nil, List.append_nil]
theorem take_snoc {α : Type} {l : List α} {i : Nat} {a : α} (h : l[i]? = some a) : l.take (i + 1) = l.take i ++ [a] := by
  rw [List.take_add_one, h]
  rfl
theorem combsLen : ∀ (l : List Nat) (k : Nat), (combs l k).length = C l.length k
  | l, 0 => by rw [combs_zero]; cases l <;> rfl
  | [], k + 1 => rfl
  | x :: r, k + 1 => by
    show ((combs r k).map _ ++ combs r (k + 1)).length = C (r.length + 1) (k + 1)
    rw [List.length_append, List.length_map, combsLen r k, combsLen r (k + 1)]
    rfl
theorem combsNodup : ∀ (l : List Nat) (k : Nat), l.Nodup → (combs l k).Nodup
  | l, 0, _ => by
    rw [combs_zero]
    exact List.nodup_cons.mpr ⟨List.not_mem_nil, List.nodup_nil⟩
  | [], k + 1, _ => List.nodup_nil
  | x :: r, k + 1, h => by
    obtain ⟨h1, h2⟩ := List.nodup_cons.mp h
    refine List.nodup_append.mpr ⟨?_, combsNodup r (k + 1) h2, fun c hc d hd e => ?_⟩
    · refine List.Pairwise.map _ (fun a b hab z => hab ?_) (combsNodup r k h2)
      exact (List.cons.inj z).2
    · obtain ⟨c', _, rfl⟩ := List.mem_map.mp hc
      obtain ⟨_, g⟩ := combs_good r (k + 1) d hd
      rw [← e] at g
      exact h1 (g.subset List.mem_cons_self)
theorem ascSub : ∀ {b a : List Nat}, Asc a → Asc b → (∀ x ∈ a, x ∈ b) → a.Sublist b
  | [], [], _, _, _ => List.Sublist.slnil
  | [], x :: a, _, _, h => absurd (h x List.mem_cons_self) List.not_mem_nil
  | y :: b, [], _, _, _ => List.nil_sublist _
  | y :: b, x :: a, ha, hb, h => by
    obtain ⟨a1, a2⟩ := List.pairwise_cons.mp ha
    obtain ⟨b1, b2⟩ := List.pairwise_cons.mp hb
    by_cases e : x = y
    · subst e
      refine (ascSub a2 b2 fun z hz => ?_).cons_cons x
      rcases List.mem_cons.mp (h z (List.mem_cons_of_mem _ hz)) with rfl | h2
      · have := a1 z hz
        omega
      · exact h2
    · refine (ascSub (a := x :: a) ha b2 fun z hz => ?_).cons y
      rcases List.mem_cons.mp (h z hz) with rfl | h2
      · rcases List.mem_cons.mp hz with rfl | hz
        · exact absurd rfl e
        · have h3 := a1 z hz
          rcases List.mem_cons.mp (h x List.mem_cons_self) with h4 | h4
          · exact absurd h4 e
          · have := b1 x h4
            omega
      · exact h2
/-- all (set, server) with the server outside -/
def without (n x : Nat) : List Nat := (List.range n).filter fun y => !decide (y = x)
def allE (n sz : Nat) : List (List Nat × Nat) := (List.range n).flatMap fun x => (combs (without n x) sz).map fun c => (c, x)
theorem without_len {n x : Nat} (h : x < n) : (without n x).length = n - 1 := by
  unfold without
  have hp : ∀ l : List Nat, (l.filter fun y => !decide (y = x)).length + (l.filter fun y => decide (y = x)).length = l.length := by
    intro l
    induction l with
    | nil => rfl
    | cons a l ih =>
      by_cases e : a = x
      · rw [List.filter_cons_of_neg (by simpa using e), List.filter_cons_of_pos (by simpa using e), List.length_cons, List.length_cons]
        omega
      · rw [List.filter_cons_of_pos (by simpa using e), List.filter_cons_of_neg (by simpa using e), List.length_cons, List.length_cons]
        omega
  replace hp := hp (List.range n)
  rw [List.length_range] at hp
  have h1 : ((List.range n).filter fun y => decide (y = x)).length = 1 := by
    rw [← List.countP_eq_length_filter]
    have e : (List.range n).countP (fun y => decide (y = x)) = (List.range n).count x := by
      unfold List.count
      refine List.countP_congr fun y _ => ?_
      simp
    rw [e]
    exact List.Nodup.count List.nodup_range |>.trans (if_pos (List.mem_range.mpr h))
  omega
theorem without_asc (n x : Nat) : Asc (without n x) := List.Pairwise.filter _ (by
  have := List.pairwise_lt_range (n := n)
  exact this)
theorem flat_const {α β : Type} (f : α → List β) (k : Nat) : ∀ l : List α, (∀ a ∈ l, (f a).length = k) → (l.flatMap f).length = l.length * k
  | [], _ => by simp
  | a :: l, h => by
    rw [List.flatMap_cons, List.length_append, h a List.mem_cons_self, flat_const f k l fun b hb => h b (List.mem_cons_of_mem _ hb), List.length_cons, Nat.succ_mul]
    omega
theorem allE_len (n sz : Nat) : (allE n sz).length = n * C (n - 1) sz := by
  unfold allE
  rw [flat_const _ (C (n - 1) sz) _ fun x hx => ?_, List.length_range]
  rw [List.length_map, combsLen, without_len (List.mem_range.mp hx)]
theorem allE_mem {n sz x : Nat} {c : List Nat} (hx : x < n) (hl : c.length = sz) (ha : Asc c) (hc : ∀ y ∈ c, y < n ∧ y ≠ x) : (c, x) ∈ allE n sz := by
  refine List.mem_flatMap.mpr ⟨x, List.mem_range.mpr hx, List.mem_map.mpr ⟨c, ?_, rfl⟩⟩
  have := combs_mem (without n x) c (ascSub ha (without_asc n x) fun y hy => List.mem_filter.mpr ⟨List.mem_range.mpr (hc y hy).1, by simpa using (hc y hy).2⟩)
  rw [hl] at this
  exact this
theorem subG_len {α : Type} [DecidableEq α] : ∀ {ks ns : List α}, ks.Nodup → (∀ k ∈ ks, k ∈ ns) → ks.length ≤ ns.length
  | [], _, _, _ => Nat.zero_le _
  | k :: r, ns, h, hs => by
    have hk := hs k List.mem_cons_self
    have h1 := subG_len (ks := r) (ns := ns.erase k) (List.nodup_cons.mp h).2 fun x hx => (List.mem_erase_of_ne (fun e : x = k => (List.nodup_cons.mp h).1 (e ▸ hx))).mpr (hs x (List.mem_cons_of_mem _ hx))
    have h2 := List.length_erase_of_mem hk
    have h3 := List.length_pos_of_mem hk
    show r.length + 1 ≤ ns.length
    omega
/-! sorted -/
def srt (l : List Nat) : List Nat := l.mergeSort fun a b => decide (a ≤ b)
theorem srt_perm (l : List Nat) : (srt l).Perm l := List.mergeSort_perm l _
theorem srt_le (l : List Nat) : (srt l).Pairwise (· ≤ ·) := (List.pairwise_mergeSort (le := fun a b : Nat => decide (a ≤ b)) (fun a b c h1 h2 => by simp at *; omega) (fun a b => by simp; omega) l).imp fun h => of_decide_eq_true h
theorem srt_asc {l : List Nat} (h : l.Nodup) : Asc (srt l) := ((srt_le l).and ((srt_perm l).nodup_iff.mpr h)).imp fun ⟨a, b⟩ => by omega
theorem srt_of {l m : List Nat} (p : m.Perm l) (h : m.Pairwise (· ≤ ·)) : m = srt l :=
  List.Perm.eq_of_pairwise (le := fun a b : Nat => a ≤ b) (fun a b _ _ h1 h2 => Nat.le_antisymm h1 h2) h (srt_le l) (p.trans (srt_perm l).symm)
end Ef
namespace Ef
/-! ### the least numbers once more: common multiples of n, n - 1, .. -/
def leastP (n : Nat) : Nat → Nat
  | 0 => 1
  | d + 1 => stepL (leastP n d) (n - d)
theorem parts_ok : rowsOk (fun n d a => Nat.beq (leastP n d) a) 60 1 row0 = true := by decide +kernel
theorem leastP_eq {n d : Nat} (h1 : 1 ≤ n) (h6 : n ≤ 60) (hd : d ≤ n) : leastP n d = leastL n d :=
  Nat.eq_of_beq_eq_true (rows_all 60 1 row0 row0_is (by decide) parts_ok n h1 (by omega) h6 d hd)
theorem stepL_lcm (a b : Nat) : stepL a b = Nat.lcm a b := by
  unfold stepL Nat.lcm
  exact Nat.div_mul_right_comm (Nat.gcd_dvd_left a b) b
theorem stepL_dvd (a b c : Nat) : stepL a b ∣ c ↔ a ∣ c ∧ b ∣ c := by
  rw [stepL_lcm]
  exact ⟨fun h => ⟨Nat.dvd_trans (Nat.dvd_lcm_left a b) h, Nat.dvd_trans (Nat.dvd_lcm_right a b) h⟩, fun h => Nat.lcm_dvd h.1 h.2⟩
theorem leastP_dvd (n c : Nat) : ∀ d, leastP n d ∣ c ↔ ∀ i, i < d → (n - i) ∣ c
  | 0 => ⟨fun _ i h => absurd h (Nat.not_lt_zero i), fun _ => Nat.one_dvd c⟩
  | d + 1 => by
    show stepL (leastP n d) (n - d) ∣ c ↔ _
    rw [stepL_dvd, leastP_dvd n c d]
    constructor
    · intro h i hi
      by_cases e : i = d
      · rw [e]
        exact h.2
      · exact h.1 i (by omega)
    · intro h
      exact ⟨fun i hi => h i (by omega), h d (by omega)⟩
/-- a number is a multiple of the least one exactly if n, n - 1, .. divide it -/
theorem least_parts {n d : Nat} (h1 : 1 ≤ n) (h6 : n ≤ 60) (hd : d ≤ n) (c : Nat) : leastL n d ∣ c ↔ ∀ i, i < d → (n - i) ∣ c := by
  rw [← leastP_eq h1 h6 hd]
  exact leastP_dvd n c d
def partsV (n d : Nat) : List Nat := (List.range d).map fun i => n - i
theorem parts_at {n d i : Nat} (h : i < d) : (partsV n d)[i]? = some (n - i) := by
  unfold partsV
  rw [List.getElem?_map, List.getElem?_range h]
  rfl
theorem parts_len (n d : Nat) : (partsV n d).length = d := by
  unfold partsV
  rw [List.length_map, List.length_range]
def wdsL (n c d : Nat) : List Nat := (List.range d).map (wd n c)
theorem wds_step (n c d : Nat) : wdsL n c (d + 1) = wdsL n c d ++ [wd n c d] := by
  unfold wdsL
  rw [List.range_succ, List.map_append]
  rfl
theorem wds_len (n c d : Nat) : (wdsL n c d).length = d := by
  unfold wdsL
  rw [List.length_map, List.length_range]
/-- one step of the edges -/
theorem edge_step {n s : Nat} (h : s < n) : n * C (n - 1) s * (n - 1 - s) / (s + 1) = n * C (n - 1) (s + 1) := by
  rw [Nat.mul_assoc, ← C_step (n - 1) s (by omega), ← Nat.mul_assoc, Nat.mul_div_cancel _ (Nat.succ_pos s)]
end Ef
namespace Ef
/-! ### from a place back to a number -/
/-- what is left of the servers -/
def folL (n c : Nat) : List Nat → List Nat → Nat → List Nat
  | [], L, _ => L
  | s :: ss, L, r => folL n c ss (L.eraseIdx (r / wd n c s)) (wd n c s * (L.getD (r / wd n c s) 0 - r / wd n c s) + r % wd n c s)
theorem fol_snoc (n c : Nat) (s : Nat) : ∀ (ss L : List Nat) (r : Nat), fol n c (ss ++ [s]) L r =
    ((fol n c ss L r).1 ++ [(folL n c ss L r).getD ((fol n c ss L r).2 / wd n c s) 0],
      wd n c s * ((folL n c ss L r).getD ((fol n c ss L r).2 / wd n c s) 0 - (fol n c ss L r).2 / wd n c s) + (fol n c ss L r).2 % wd n c s)
  | [], L, r => rfl
  | t :: ss, L, r => by
    rw [List.cons_append, fol_cons, fol_snoc n c s ss, fol_cons]
    rfl
theorem folL_snoc (n c : Nat) (s : Nat) : ∀ (ss L : List Nat) (r : Nat), folL n c (ss ++ [s]) L r = (folL n c ss L r).eraseIdx ((fol n c ss L r).2 / wd n c s)
  | [], L, r => rfl
  | t :: ss, L, r => by
    rw [List.cons_append]
    show folL n c (ss ++ [s]) _ _ = _
    rw [folL_snoc n c s ss]
    rfl
theorem wd_back {n c b : Nat} (h : n * C (n - 1) b ∣ c) (hb : b < n) : c / C n (b + 1) = wd n c b * (b + 1) := by
  have e := wd_eq h
  obtain ⟨m, rfl⟩ : ∃ m, n = m + 1 := ⟨n - 1, by omega⟩
  have a := C_absorb m b
  rw [Nat.add_sub_cancel] at e
  rw [← a] at e
  have p := C_pos (m + 1) (b + 1) (by omega)
  generalize wd (m + 1) c b = w at e ⊢
  have e2 : c = w * (b + 1) * C (m + 1) (b + 1) := by
    rw [← e, Nat.mul_comm (C (m + 1) (b + 1)), Nat.mul_assoc]
  rw [e2, Nat.mul_div_cancel _ p]
theorem wd_out {n c b : Nat} (h : n * C (n - 1) b ∣ c) (hb : b < n) : wd n c b * (n - b) * C n b = c := by
  have e := wd_eq h
  obtain ⟨m, rfl⟩ : ∃ m, n = m + 1 := ⟨n - 1, by omega⟩
  have a := C_absorb m b
  have s := C_step (m + 1) b (by omega)
  rw [Nat.add_sub_cancel] at e
  rw [Nat.mul_assoc, Nat.mul_comm (m + 1 - b), ← s, a]
  exact e
theorem erasePerm : ∀ (l : List Nat) (k x : Nat), l[k]? = some x → (x :: l.eraseIdx k).Perm l
  | [], _, _, h => by cases h
  | a :: r, 0, x, h => by
    obtain rfl : a = x := Option.some.inj h
    exact List.Perm.refl _
  | a :: r, k + 1, x, h => (List.Perm.swap a x _).trans ((erasePerm r k x h).cons a)
theorem range'_end (b : Nat) : List.range' 0 (b + 1) = List.range' 0 b ++ [b] := by
  rw [← List.range_eq_range', ← List.range_eq_range', List.range_succ]
theorem rev_range (b : Nat) : (List.range' 0 (b + 1)).reverse = b :: (List.range' 0 b).reverse := by
  rw [range'_end, List.reverse_append]
  rfl
/-- one step back -/
structure Place (n c b : Nat) (ms : List Nat) (r : Nat) : Prop where
  asc : Asc ms
  lt : ∀ x ∈ ms, x < n
  len : ms.length = b
  rest : r < c / C n b
theorem Place.ix {n c b r : Nat} {ms : List Nat} (h : Place n c (b + 1) ms r) (hd : n * C (n - 1) b ∣ c) (hb : b < n) : r / wd n c b < ms.length := by
  have h1 := h.rest
  rw [wd_back hd hb] at h1
  rw [h.len]
  exact Nat.div_lt_of_lt_mul h1
theorem Place.prev {n c b r : Nat} {ms : List Nat} (h : Place n c (b + 1) ms r) (hd : ∀ k, k ≤ b → n * C (n - 1) k ∣ c) (hb : b < n) (hc : 0 < c) :
    Place n c b (ms.eraseIdx (r / wd n c b)) (wd n c b * (ms.getD (r / wd n c b) 0 - r / wd n c b) + r % wd n c b) := by
  have hi := h.ix (hd b (Nat.le_refl _)) hb
  have w0 := wd_pos (hd b (Nat.le_refl _)) hc
  have hx := getD_of hi
  have g1 := asc_ge h.asc hx
  have g2 := asc_le h.asc h.lt hx
  have hl := h.len
  refine ⟨asc_erase h.asc _, fun x hx => h.lt x (List.mem_of_mem_eraseIdx hx), ?_, ?_⟩
  · rw [List.length_eraseIdx, if_pos hi, hl]
    rfl
  · have h1 : r % wd n c b < wd n c b := Nat.mod_lt _ w0
    have h2 : ms.getD (r / wd n c b) 0 - r / wd n c b + 1 ≤ n - b := by omega
    have h3 : wd n c b * (ms.getD (r / wd n c b) 0 - r / wd n c b + 1) ≤ wd n c b * (n - b) := Nat.mul_le_mul_left _ h2
    have h4 : c / C n b = wd n c b * (n - b) := by
      have e := wd_out (hd b (Nat.le_refl _)) hb
      have p := C_pos n b (by omega)
      conv => lhs; rw [← e]
      exact Nat.mul_div_cancel _ p
    rw [h4]
    rw [Nat.mul_add, Nat.mul_one] at h3
    omega
theorem back_ok {n c : Nat} (hc : 0 < c) : ∀ (b : Nat) (ms : List Nat) (r : Nat), b ≤ n → (∀ k, k < b → n * C (n - 1) k ∣ c) → Place n c b ms r → FolOk n c (List.range' 0 b).reverse ms r
  | 0, _, _, _, _, _ => trivial
  | b + 1, ms, r, hb, hd, h => by
    rw [rev_range]
    have hi := h.ix (hd b (by omega)) (by omega)
    exact ⟨wd_pos (hd b (by omega)) hc, hi, asc_ge h.asc (getD_of hi), back_ok hc b _ _ (by omega) (fun k hk => hd k (by omega)) (h.prev (fun k hk => hd k (by omega)) (by omega) hc)⟩
theorem Std.less {n d c : Nat} (h : Std n (d + 1) c) : Std n d c := by
  have hd := h.dn
  exact ⟨h.n60, h.n1, by omega, h.c0, Nat.dvd_trans (stepL_left _ _ (leastL_pos (by omega))) h.dv⟩
/-- the number of the list that has this place -/
def back (n c : Nat) (ms : List Nat) (r : Nat) : Nat := (fol n c (List.range' 0 ms.length).reverse ms r).2
theorem back_fwd {n c : Nat} (hc : 0 < c) : ∀ (b : Nat) (ms : List Nat) (r : Nat), b ≤ n → (∀ k, k < b → n * C (n - 1) k ∣ c) → Place n c b ms r →
    (fol n c (List.range' 0 b).reverse ms r).2 < c ∧
    (fol n c (List.range' 0 b) (List.range' 0 n) (fol n c (List.range' 0 b).reverse ms r).2).1.Perm ms ∧
    (fol n c (List.range' 0 b) (List.range' 0 n) (fol n c (List.range' 0 b).reverse ms r).2).2 = r ∧
    Compl n ms (folL n c (List.range' 0 b) (List.range' 0 n) (fol n c (List.range' 0 b).reverse ms r).2)
  | 0, ms, r, _, _, h => by
    have e : ms = [] := List.length_eq_zero_iff.mp h.len
    have hr := h.rest
    rw [C_zero, Nat.div_one] at hr
    subst e
    exact ⟨hr, List.Perm.refl _, rfl, Compl.start n⟩
  | b + 1, ms, r, hb, hd, h => by
    have hi := h.ix (hd b (by omega)) (by omega)
    have w0 := wd_pos (hd b (by omega)) hc
    have hx := getD_of hi
    have g1 := asc_ge h.asc hx
    have pv := h.prev (fun k hk => hd k (by omega)) (by omega) hc
    obtain ⟨i1, i2, i3, i4⟩ := back_fwd hc b _ _ (by omega) (fun k hk => hd k (by omega)) pv
    rw [rev_range, fol_cons]
    show (fol n c (List.range' 0 b).reverse (ms.eraseIdx (r / wd n c b)) (wd n c b * (ms.getD (r / wd n c b) 0 - r / wd n c b) + r % wd n c b)).2 < c ∧ _
    generalize (fol n c (List.range' 0 b).reverse (ms.eraseIdx (r / wd n c b)) (wd n c b * (ms.getD (r / wd n c b) 0 - r / wd n c b) + r % wd n c b)).2 = k at i1 i2 i3 i4 ⊢
    show k < c ∧ (fol n c (List.range' 0 (b + 1)) (List.range' 0 n) k).1.Perm ms ∧ (fol n c (List.range' 0 (b + 1)) (List.range' 0 n) k).2 = r ∧ Compl n ms (folL n c (List.range' 0 (b + 1)) (List.range' 0 n) k)
    rw [range'_end, fol_snoc, folL_snoc, i3]
    have hm : r % wd n c b < wd n c b := Nat.mod_lt _ w0
    have e1 : (wd n c b * (ms.getD (r / wd n c b) 0 - r / wd n c b) + r % wd n c b) / wd n c b = ms.getD (r / wd n c b) 0 - r / wd n c b := by
      rw [Nat.mul_add_div w0, Nat.div_eq_of_lt hm, Nat.add_zero]
    have e2 : (wd n c b * (ms.getD (r / wd n c b) 0 - r / wd n c b) + r % wd n c b) % wd n c b = r % wd n c b := by
      rw [Nat.mul_add_mod, Nat.mod_mod]
    rw [e1, e2]
    generalize folL n c (List.range' 0 b) (List.range' 0 n) k = L at i4
    have hdm := Nat.div_add_mod r (wd n c b)
    generalize r / wd n c b = i at hi hx g1 pv i1 i2 i3 i4 hdm e1 e2 ⊢
    generalize ms.getD i 0 = x at hx g1 pv i1 i2 i3 i4 e1 e2 ⊢
    have pm : ms.Perm (ms.eraseIdx i ++ [x]) := ((List.perm_append_singleton x _).trans (erasePerm ms i x hx)).symm
    have hmem : x ∈ L := (i4.mem _).mpr ⟨h.lt _ (List.mem_of_getElem? hx), not_mem_erase (asc_nodup h.asc) hx⟩
    obtain ⟨j, hj⟩ := List.getElem?_of_mem hmem
    have hjx := i4.index hj pm h.asc hx
    obtain rfl : x - i = j := by omega
    have ex : L.getD (x - i) 0 = x := by
      have := getD_of (L := L) (i := x - i) (List.getElem?_eq_some_iff.mp hj).1
      rw [hj] at this
      exact (Option.some.inj this).symm
    rw [ex]
    refine ⟨i1, (i2.append_right _).trans pm.symm, ?_, i4.next hj pm h.asc⟩
    show wd n c b * (x - (x - i)) + r % wd n c b = r
    rw [show x - (x - i) = i by omega]
    exact hdm
end Ef
namespace Ef
/-! ### counts by formula -/
def sumTo (g : Nat → Nat) : Nat → Nat
  | 0 => 0
  | n + 1 => sumTo g n + g n
theorem sumTo_congr {g h : Nat → Nat} : ∀ {n : Nat}, (∀ i, i < n → g i = h i) → sumTo g n = sumTo h n
  | 0, _ => rfl
  | n + 1, e => by
    show sumTo g n + g n = sumTo h n + h n
    rw [sumTo_congr (n := n) fun i hi => e i (by omega), e n (by omega)]
theorem sumTo_add (g h : Nat → Nat) : ∀ n : Nat, sumTo (fun i => g i + h i) n = sumTo g n + sumTo h n
  | 0 => rfl
  | n + 1 => by
    show sumTo _ n + (g n + h n) = sumTo g n + g n + (sumTo h n + h n)
    rw [sumTo_add g h n]
    omega
theorem sumTo_mul (k : Nat) (g : Nat → Nat) : ∀ n : Nat, sumTo (fun i => k * g i) n = k * sumTo g n
  | 0 => rfl
  | n + 1 => by
    show sumTo _ n + k * g n = k * (sumTo g n + g n)
    rw [sumTo_mul k g n, Nat.mul_add]
theorem sumTo_zero {g : Nat → Nat} : ∀ {n : Nat}, (∀ i, i < n → g i = 0) → sumTo g n = 0
  | 0, _ => rfl
  | n + 1, e => by
    show sumTo g n + g n = 0
    rw [sumTo_zero (n := n) fun i hi => e i (by omega), e n (by omega)]
theorem sumTo_shift (g : Nat → Nat) : ∀ n : Nat, sumTo g (n + 1) = g 0 + sumTo (fun i => g (i + 1)) n
  | 0 => by
    show 0 + g 0 = g 0 + 0
    omega
  | n + 1 => by
    show sumTo g (n + 1) + g (n + 1) = g 0 + (sumTo (fun i => g (i + 1)) n + g (n + 1))
    rw [sumTo_shift g n]
    omega
theorem sumTo_cut (g : Nat → Nat) (a : Nat) : ∀ b : Nat, sumTo g (a + b) = sumTo g a + sumTo (fun i => g (a + i)) b
  | 0 => rfl
  | b + 1 => by
    show sumTo g (a + b) + g (a + b) = sumTo g a + (sumTo (fun i => g (a + i)) b + g (a + b))
    rw [sumTo_cut g a b]
    omega
theorem edge_alt {n i : Nat} (h : i < n) : C n i * (n - i) = n * C (n - 1) i := by
  obtain ⟨m, rfl⟩ : ∃ m, n = m + 1 := ⟨n - 1, by omega⟩
  have s := C_step (m + 1) i (by omega)
  have a := C_absorb m i
  rw [← s, a, Nat.add_sub_cancel]
theorem edge_alt2 {n i : Nat} (h : i < n) : C n (i + 1) * (i + 1) = n * C (n - 1) i := by
  obtain ⟨m, rfl⟩ : ∃ m, n = m + 1 := ⟨n - 1, by omega⟩
  rw [C_absorb m i, Nat.add_sub_cancel]
/-- the harmonic triangle -/
theorem leib {n i T : Nat} (hi : i < n) (h1 : (n + 1) * C n i ∣ T) (h2 : (n + 1) * C n (i + 1) ∣ T) : n * C (n - 1) i ∣ T ∧ wd n T i = wd (n + 1) T i + wd (n + 1) T (i + 1) := by
  have e1 : wd (n + 1) T i * ((n + 1) * C n i) = T := Nat.div_mul_cancel h1
  have e2 : wd (n + 1) T (i + 1) * ((n + 1) * C n (i + 1)) = T := Nat.div_mul_cancel h2
  have a1 := edge_alt hi
  have a2 := edge_alt2 hi
  have key : (wd (n + 1) T i + wd (n + 1) T (i + 1)) * (n * C (n - 1) i) = T := by
    refine Nat.eq_of_mul_eq_mul_left (show 0 < n + 1 by omega) ?_
    generalize wd (n + 1) T i = a at e1
    generalize wd (n + 1) T (i + 1) = b at e2
    have x1 : (n + 1) * (a * (n * C (n - 1) i)) = T * (n - i) := by
      rw [← a1, ← e1]
      simp only [Nat.mul_assoc, Nat.mul_comm, Nat.mul_left_comm]
    have x2 : (n + 1) * (b * (n * C (n - 1) i)) = T * (i + 1) := by
      rw [← a2, ← e2]
      simp only [Nat.mul_assoc, Nat.mul_comm, Nat.mul_left_comm]
    have x3 : (n + 1) * ((a + b) * (n * C (n - 1) i)) = (n + 1) * (a * (n * C (n - 1) i)) + (n + 1) * (b * (n * C (n - 1) i)) := by
      rw [Nat.add_mul a b, Nat.mul_add (n + 1)]
    rw [x3, x1, x2, ← Nat.mul_add T, Nat.mul_comm T]
    congr 1
    omega
  have p : 0 < n * C (n - 1) i := edge_pos hi
  refine ⟨⟨_, by rw [Nat.mul_comm]; exact key.symm⟩, ?_⟩
  show T / (n * C (n - 1) i) = _
  conv => lhs; rw [← key]
  exact Nat.mul_div_cancel _ p
theorem sum_leib {T u f : Nat} (hf : f < u) : ∀ m : Nat, (∀ i, i ≤ m + f → (u + m) * C (u + m - 1) i ∣ T) → (u * C (u - 1) f ∣ T) ∧ sumTo (fun j => C m j * wd (u + m) T (j + f)) (m + 1) = wd u T f
  | 0, h => by
    have h0 := h f (by omega)
    refine ⟨h0, ?_⟩
    show 0 + C 0 0 * wd (u + 0) T (0 + f) = wd u T f
    rw [Nat.zero_add, Nat.zero_add, C_zero, Nat.one_mul, Nat.add_zero]
  | m + 1, h => by
    have hd : ∀ i, i ≤ m + f → (u + m) * C (u + m - 1) i ∣ T ∧ wd (u + m) T i = wd (u + m + 1) T i + wd (u + m + 1) T (i + 1) := fun i hi => by
      have a := h i (by omega)
      have b := h (i + 1) (by omega)
      rw [show u + (m + 1) = u + m + 1 from rfl, Nat.add_sub_cancel] at a b
      exact leib (show i < u + m by omega) a b
    obtain ⟨r1, r2⟩ := sum_leib hf m fun i hi => (hd i hi).1
    refine ⟨r1, ?_⟩
    rw [← r2]
    -- the right side split by the triangle
    have e1 : sumTo (fun j => C m j * wd (u + m) T (j + f)) (m + 1) = sumTo (fun j => C m j * wd (u + m + 1) T (j + f)) (m + 1) + sumTo (fun j => C m j * wd (u + m + 1) T (j + 1 + f)) (m + 1) := by
      rw [← sumTo_add]
      refine sumTo_congr fun j hj => ?_
      rw [(hd (j + f) (by omega)).2, Nat.mul_add, show j + f + 1 = j + 1 + f by omega]
    -- the left side split by Pascal
    have e2 : sumTo (fun j => C (m + 1) j * wd (u + (m + 1)) T (j + f)) (m + 1 + 1) = sumTo (fun j => C m j * wd (u + m + 1) T (j + f)) (m + 1 + 1) + sumTo (fun j => C m j * wd (u + m + 1) T (j + 1 + f)) (m + 1) := by
      rw [sumTo_shift, sumTo_shift (fun j => C m j * wd (u + m + 1) T (j + f)), Nat.add_assoc, ← sumTo_add, C_zero, C_zero]
      congr 1
      refine sumTo_congr fun j hj => ?_
      show C (m + 1) (j + 1) * wd (u + m + 1) T (j + 1 + f) = C m (j + 1) * wd (u + m + 1) T (j + 1 + f) + C m j * wd (u + m + 1) T (j + 1 + f)
      rw [C_ss, Nat.add_mul, Nat.add_comm]
    have e3 : sumTo (fun j => C m j * wd (u + m + 1) T (j + f)) (m + 1 + 1) = sumTo (fun j => C m j * wd (u + m + 1) T (j + f)) (m + 1) := by
      show sumTo _ (m + 1) + C m (m + 1) * _ = _
      rw [C_big m (m + 1) (by omega), Nat.zero_mul, Nat.add_zero]
    rw [e2, e3, e1]
/-- in how many lists the live server number f + 1 stands at index i -/
def fndAt (n T u f i : Nat) : Nat := if i < f ∨ n - u + f < i then 0 else C u f * C (n - u) (i - f) * (u - f) * wd n T i
theorem fnd_sum {n T u f : Nat} (hu : u ≤ n) (hf : f < u) (h : ∀ i, i ≤ n - u + f → n * C (n - 1) i ∣ T) : sumTo (fndAt n T u f) n = T := by
  have en : n = u + (n - u) := by omega
  obtain ⟨r1, r2⟩ := sum_leib (T := T) hf (n - u) fun i hi => by
    rw [← en]
    exact h i hi
  rw [← en] at r2
  have e1 : sumTo (fndAt n T u f) n = sumTo (fndAt n T u f) f + sumTo (fun i => fndAt n T u f (f + i)) (n - f) := by
    have := sumTo_cut (fndAt n T u f) f (n - f)
    rw [show f + (n - f) = n by omega] at this
    exact this
  have e2 : sumTo (fndAt n T u f) f = 0 := sumTo_zero fun i hi => if_pos (.inl hi)
  have e3 : sumTo (fun i => fndAt n T u f (f + i)) (n - f) = sumTo (fun i => fndAt n T u f (f + i)) (n - u + 1) + sumTo (fun i => fndAt n T u f (f + (n - u + 1 + i))) (n - f - (n - u + 1)) := by
    have := sumTo_cut (fun i => fndAt n T u f (f + i)) (n - u + 1) (n - f - (n - u + 1))
    rw [show n - u + 1 + (n - f - (n - u + 1)) = n - f by omega] at this
    exact this
  have e4 : sumTo (fun i => fndAt n T u f (f + (n - u + 1 + i))) (n - f - (n - u + 1)) = 0 := sumTo_zero fun i hi => if_pos (.inr (by omega))
  have e5 : sumTo (fun i => fndAt n T u f (f + i)) (n - u + 1) = (C u f * (u - f)) * sumTo (fun j => C (n - u) j * wd n T (j + f)) (n - u + 1) := by
    rw [← sumTo_mul]
    refine sumTo_congr fun i hi => ?_
    show fndAt n T u f (f + i) = _
    unfold fndAt
    rw [if_neg (by omega), show f + i - f = i by omega, show f + i = i + f by omega]
    simp only [Nat.mul_assoc, Nat.mul_comm, Nat.mul_left_comm]
  rw [e1, e2, e3, e4, e5, r2, Nat.zero_add, Nat.add_zero, edge_alt hf, Nat.mul_comm]
  exact wd_eq r1
end Ef
namespace Ef
/-! ### the numbers of the lists with a beginning -/
/-- what 'numbers_with' keeps on its way: the numbers from lo to hi - 1 have the beginning, the rest of number k is k + mv, L is left -/
structure Wst where
  lo : Int
  hi : Int
  mv : Int
  L : List Nat
def wStep (n c b s : Nat) (x : Wst) : Wst :=
  ⟨max x.lo ((wd n c b : Int) * (x.L.idxOf s : Int) - x.mv), min x.hi ((wd n c b : Int) * ((x.L.idxOf s : Int) + 1) - x.mv), x.mv + (wd n c b : Int) * ((s : Int) - (x.L.idxOf s : Int) - (x.L.idxOf s : Int)), x.L.eraseIdx (x.L.idxOf s)⟩
/-- from level b on -/
def wRun (n c : Nat) : Nat → List Nat → Wst → Option Wst
  | _, [], x => some x
  | b, s :: r, x => if s ∈ x.L then (if (wStep n c b s x).hi ≤ (wStep n c b s x).lo then none else wRun n c (b + 1) r (wStep n c b s x)) else none
/-- the lists whose beginning is t, in the table of depth b -/
structure Beg (n c : Nat) (t : List Nat) (x : Wst) : Prop where
  nd : x.L.Nodup
  asc : Asc x.L
  lo0 : 0 ≤ x.lo
  hic : x.hi ≤ (c : Int)
  iff : ∀ k : Nat, k < c → ((fol n c (List.range' 0 t.length) (List.range' 0 n) k).1 = t ↔ x.lo ≤ (k : Int) ∧ (k : Int) < x.hi)
  rest : ∀ k : Nat, x.lo ≤ (k : Int) → (k : Int) < x.hi → ((fol n c (List.range' 0 t.length) (List.range' 0 n) k).2 : Int) = (k : Int) + x.mv ∧ folL n c (List.range' 0 t.length) (List.range' 0 n) k = x.L
  len : x.L.length = n - t.length
  lt : ∀ y ∈ x.L, y < n
  mem : ∀ z, z ∈ x.L ↔ z < n ∧ z ∉ t
theorem Beg.start (n c : Nat) : Beg n c [] ⟨0, (c : Int), 0, List.range' 0 n⟩ :=
  ⟨asc_nodup (asc_range' n 0), asc_range' n 0, Int.le_refl _, Int.le_refl _, fun k hk => ⟨fun _ => ⟨by show (0 : Int) ≤ _; omega, by show (k : Int) < (c : Int); omega⟩, fun _ => rfl⟩, fun k h1 h2 => ⟨by show (k : Int) = (k : Int) + 0; omega, rfl⟩, by rw [List.length_range']; rfl, fun y hy => mem_range0.mp hy, fun z => by rw [mem_range0]; simp⟩
theorem mem_erase_iff {L : List Nat} {i s : Nat} (nd : L.Nodup) (e : L[i]? = some s) (z : Nat) : z ∈ L.eraseIdx i ↔ z ∈ L ∧ z ≠ s := by
  have pm := erasePerm L i s e
  constructor
  · intro h
    refine ⟨List.mem_of_mem_eraseIdx h, fun c => ?_⟩
    rw [c] at h
    exact not_mem_erase nd e h
  · rintro ⟨h1, h2⟩
    rcases List.mem_cons.mp (pm.mem_iff.mpr h1) with h | h
    · exact absurd h h2
    · exact h
theorem idx_at {L : List Nat} {s : Nat} (h : s ∈ L) : L[L.idxOf s]? = some s := by
  rw [List.getElem?_eq_getElem (List.idxOf_lt_length_of_mem h), List.getElem_idxOf]
theorem div_block {w r i : Nat} (w0 : 0 < w) : r / w = i ↔ w * i ≤ r ∧ r < w * (i + 1) := by
  rw [Nat.div_eq_iff w0]
  rw [Nat.mul_comm i w]
  constructor
  · rintro ⟨h1, h2⟩
    rw [Nat.mul_add, Nat.mul_one]
    exact ⟨h1, by omega⟩
  · rintro ⟨h1, h2⟩
    rw [Nat.mul_add, Nat.mul_one] at h2
    exact ⟨h1, by omega⟩
/-- the rest stays within its bounds, on every way -/
theorem fwd_bound {n c d : Nat} (hd : ∀ b, b < d → n * C (n - 1) b ∣ c) (hc : 0 < c) (hdn : d ≤ n) {k : Nat} (hk : k < c) : ∀ b, b ≤ d →
    (folL n c (List.range' 0 b) (List.range' 0 n) k).length = n - b ∧ Asc (folL n c (List.range' 0 b) (List.range' 0 n) k) ∧ (∀ y ∈ folL n c (List.range' 0 b) (List.range' 0 n) k, y < n) ∧ (fol n c (List.range' 0 b) (List.range' 0 n) k).2 < c / C n b
  | 0, _ => ⟨by show (List.range' 0 n).length = n; rw [List.length_range'], asc_range' n 0, fun y hy => mem_range0.mp hy, by rw [C_zero, Nat.div_one]; exact hk⟩
  | b + 1, h => by
    obtain ⟨h1, h2, h3, h4⟩ := fwd_bound hd hc hdn hk b (by omega)
    have dv := hd b (by omega)
    have w0 := wd_pos dv hc
    have e := wd_out dv (show b < n by omega)
    have p := C_pos n b (by omega)
    have h5 : c / C n b = wd n c b * (n - b) := by
      conv => lhs; rw [← e]
      exact Nat.mul_div_cancel _ p
    rw [h5] at h4
    rw [range'_end, folL_snoc, fol_snoc]
    have hi : (fol n c (List.range' 0 b) (List.range' 0 n) k).2 / wd n c b < (folL n c (List.range' 0 b) (List.range' 0 n) k).length := by
      rw [h1]
      exact Nat.div_lt_of_lt_mul h4
    have hm : (fol n c (List.range' 0 b) (List.range' 0 n) k).2 % wd n c b < wd n c b := Nat.mod_lt _ w0
    have hx := getD_of hi
    have g2 := asc_le h2 h3 hx
    refine ⟨?_, asc_erase h2 _, fun y hy => h3 y (List.mem_of_mem_eraseIdx hy), ?_⟩
    · rw [List.length_eraseIdx, if_pos hi]
      omega
    · rw [wd_back dv (by omega)]
      show wd n c b * _ + _ < _
      have h6 : (folL n c (List.range' 0 b) (List.range' 0 n) k).getD ((fol n c (List.range' 0 b) (List.range' 0 n) k).2 / wd n c b) 0 - (fol n c (List.range' 0 b) (List.range' 0 n) k).2 / wd n c b ≤ b := by omega
      have h7 := Nat.mul_le_mul_left (wd n c b) h6
      rw [Nat.mul_add, Nat.mul_one]
      omega
theorem Beg.step {n c d : Nat} {t : List Nat} {x : Wst} (h : Beg n c t x) (hd : ∀ b, b < d → n * C (n - 1) b ∣ c) (hc : 0 < c) (hdn : d ≤ n) (hb : t.length < d) {s : Nat} (hs : s ∈ x.L) : Beg n c (t ++ [s]) (wStep n c t.length s x) := by
  have dv := hd t.length hb
  have w0 := wd_pos dv hc
  have hix := idx_at hs
  have hil := List.idxOf_lt_length_of_mem hs
  have his := asc_ge h.asc hix
  have ea : (t ++ [s]).length = t.length + 1 := by rw [List.length_append]; rfl
  have e := wd_out dv (show t.length < n by omega)
  have p := C_pos n t.length (by omega)
  have h5 : c / C n t.length = wd n c t.length * (n - t.length) := by
    conv => lhs; rw [← e]
    exact Nat.mul_div_cancel _ p
  -- where the rest lies
  have key : ∀ k : Nat, k < c → x.lo ≤ (k : Int) → (k : Int) < x.hi → ((fol n c (List.range' 0 t.length) (List.range' 0 n) k).2 / wd n c t.length = x.L.idxOf s ↔ (wd n c t.length : Int) * (x.L.idxOf s : Int) - x.mv ≤ (k : Int) ∧ (k : Int) < (wd n c t.length : Int) * ((x.L.idxOf s : Int) + 1) - x.mv) := by
    intro k hk h1 h2
    obtain ⟨r1, _⟩ := h.rest k h1 h2
    rw [div_block w0]
    have c1 : ((wd n c t.length * x.L.idxOf s : Nat) : Int) = (wd n c t.length : Int) * (x.L.idxOf s : Int) := Int.natCast_mul _ _
    have c2 : ((wd n c t.length * (x.L.idxOf s + 1) : Nat) : Int) = (wd n c t.length : Int) * ((x.L.idxOf s : Int) + 1) := Int.natCast_mul _ _
    constructor
    · rintro ⟨a, b⟩
      exact ⟨by omega, by omega⟩
    · rintro ⟨a, b⟩
      exact ⟨by omega, by omega⟩
  have got : ∀ k : Nat, k < c → x.lo ≤ (k : Int) → (k : Int) < x.hi → ((folL n c (List.range' 0 t.length) (List.range' 0 n) k).getD ((fol n c (List.range' 0 t.length) (List.range' 0 n) k).2 / wd n c t.length) 0 = s ↔ (fol n c (List.range' 0 t.length) (List.range' 0 n) k).2 / wd n c t.length = x.L.idxOf s) := by
    intro k hk h1 h2
    obtain ⟨r1, r2⟩ := h.rest k h1 h2
    obtain ⟨b1, _, _, b4⟩ := fwd_bound hd hc hdn hk t.length (by omega)
    rw [h5] at b4
    have hi : (fol n c (List.range' 0 t.length) (List.range' 0 n) k).2 / wd n c t.length < x.L.length := by
      rw [h.len]
      exact Nat.div_lt_of_lt_mul b4
    rw [r2]
    constructor
    · intro z
      have h8 := getD_of hi
      rw [z] at h8
      exact nodup_inj h.nd h8 hix
    · intro z
      rw [z]
      have h8 := getD_of hil
      rw [hix] at h8
      exact (Option.some.inj h8).symm
  refine ⟨h.nd.sublist (List.eraseIdx_sublist _ _), asc_erase h.asc _, ?_, ?_, fun k hk => ?_, fun k h1 h2 => ?_, ?_, fun y hy => h.lt y (List.mem_of_mem_eraseIdx hy), fun z => ?_⟩
  · have := h.lo0
    show 0 ≤ max x.lo _
    omega
  · have := h.hic
    show min x.hi _ ≤ _
    omega
  · rw [ea, range'_end, fol_snoc]
    show _ ++ [_] = t ++ [s] ↔ max x.lo _ ≤ (k : Int) ∧ (k : Int) < min x.hi _
    constructor
    · intro z
      obtain ⟨z1, z2⟩ := List.append_inj' z rfl
      obtain ⟨a, b⟩ := (h.iff k hk).mp z1
      have z3 := (got k hk a b).mp (List.singleton_inj.mp z2)
      have z4 := (key k hk a b).mp z3
      omega
    · intro z
      have a : x.lo ≤ (k : Int) ∧ (k : Int) < x.hi := by omega
      have z3 := (key k hk a.1 a.2).mpr (by omega)
      have z4 := (got k hk a.1 a.2).mpr z3
      rw [(h.iff k hk).mpr a, z4]
  · have h1' : max x.lo ((wd n c t.length : Int) * (x.L.idxOf s : Int) - x.mv) ≤ (k : Int) := h1
    have h2' : (k : Int) < min x.hi ((wd n c t.length : Int) * ((x.L.idxOf s : Int) + 1) - x.mv) := h2
    have a : x.lo ≤ (k : Int) ∧ (k : Int) < x.hi := by omega
    have hk : k < c := by
      have := h.hic
      omega
    have z3 := (key k hk a.1 a.2).mpr (by omega)
    have z4 := (got k hk a.1 a.2).mpr z3
    obtain ⟨r1, r2⟩ := h.rest k a.1 a.2
    rw [ea, range'_end, fol_snoc, folL_snoc, z3, r2]
    rw [z3, r2] at z4
    refine ⟨?_, rfl⟩
    show ((wd n c t.length * (x.L.getD (x.L.idxOf s) 0 - x.L.idxOf s) + (fol n c (List.range' 0 t.length) (List.range' 0 n) k).2 % wd n c t.length : Nat) : Int) = (k : Int) + (x.mv + (wd n c t.length : Int) * ((s : Int) - (x.L.idxOf s : Int) - (x.L.idxOf s : Int)))
    rw [z4]
    have dm := Nat.div_add_mod (fol n c (List.range' 0 t.length) (List.range' 0 n) k).2 (wd n c t.length)
    rw [z3] at dm
    generalize (fol n c (List.range' 0 t.length) (List.range' 0 n) k).2 % wd n c t.length = u at dm
    generalize x.L.idxOf s = i at *
    generalize wd n c t.length = w at *
    rw [Int.natCast_add, Int.natCast_mul, Int.natCast_sub his]
    have dm2 : (w : Int) * (i : Int) + (u : Int) = (k : Int) + x.mv := by
      rw [← r1, ← dm, Int.natCast_add, Int.natCast_mul]
    rw [Int.mul_sub, Int.mul_sub, Int.mul_sub]
    omega
  · rw [ea]
    show (x.L.eraseIdx _).length = _
    rw [List.length_eraseIdx, if_pos hil, h.len]
    omega
  · show z ∈ x.L.eraseIdx _ ↔ _
    rw [mem_erase_iff h.nd hix, h.mem, List.mem_append, List.mem_singleton]
    constructor
    · rintro ⟨⟨a, b⟩, e⟩
      exact ⟨a, fun q => q.elim b e⟩
    · rintro ⟨a, b⟩
      exact ⟨⟨a, fun q => b (.inl q)⟩, fun q => b (.inr q)⟩
theorem fol_take (n c k : Nat) (b : Nat) : ∀ m : Nat, (fol n c (List.range' 0 (b + m)) (List.range' 0 n) k).1.take b = (fol n c (List.range' 0 b) (List.range' 0 n) k).1
  | 0 => by
    have := fol_len n c (List.range' 0 b) (List.range' 0 n) k
    rw [List.length_range'] at this
    exact List.take_of_length_le (by rw [Nat.add_zero]; omega)
  | m + 1 => by
    rw [show b + (m + 1) = b + m + 1 from rfl, range'_end, fol_snoc]
    have := fol_len n c (List.range' 0 (b + m)) (List.range' 0 n) k
    rw [List.length_range'] at this
    show (_ ++ [_]).take b = _
    rw [List.take_append_of_le_length (by omega)]
    exact fol_take n c k b m
theorem wRun_some {n c d : Nat} (hd : ∀ b, b < d → n * C (n - 1) b ∣ c) (hc : 0 < c) (hdn : d ≤ n) {k : Nat} (hk : k < c) : ∀ (r t : List Nat) (x : Wst), t.length + r.length ≤ d → Beg n c t x → (fol n c (List.range' 0 (t.length + r.length)) (List.range' 0 n) k).1 = t ++ r → ∃ y, wRun n c t.length r x = some y ∧ Beg n c (t ++ r) y
  | [], t, x, _, h, _ => ⟨x, rfl, by rw [List.append_nil]; exact h⟩
  | s :: r, t, x, hl, h, he => by
    have el : (s :: r).length = r.length + 1 := rfl
    have e1 : (fol n c (List.range' 0 t.length) (List.range' 0 n) k).1 = t := by
      have := fol_take n c k t.length (s :: r).length
      rw [he, List.take_left] at this
      exact this.symm
    have ea : (t ++ [s]).length = t.length + 1 := by rw [List.length_append]; rfl
    have e2 : (fol n c (List.range' 0 (t.length + 1)) (List.range' 0 n) k).1 = t ++ [s] := by
      have := fol_take n c k (t.length + 1) r.length
      rw [show t.length + 1 + r.length = t.length + (s :: r).length by omega, he] at this
      rw [← this, show t ++ s :: r = (t ++ [s]) ++ r by simp, ← ea, List.take_left]
    have in1 := (h.iff k hk).mp e1
    obtain ⟨r1, r2⟩ := h.rest k in1.1 in1.2
    have dv := hd t.length (by omega)
    have w0 := wd_pos dv hc
    obtain ⟨b1, b2, b3, b4⟩ := fwd_bound hd hc hdn hk t.length (by omega)
    have hs : s ∈ x.L := by
      have e3 := e2
      rw [range'_end, fol_snoc] at e3
      obtain ⟨_, z2⟩ := List.append_inj' e3 rfl
      have z3 := List.singleton_inj.mp z2
      rw [← r2, ← z3]
      refine List.mem_of_getElem? (getD_of ?_)
      rw [b1]
      have e := wd_out dv (show t.length < n by omega)
      have p := C_pos n t.length (by omega)
      have h5 : c / C n t.length = wd n c t.length * (n - t.length) := by
        conv => lhs; rw [← e]
        exact Nat.mul_div_cancel _ p
      rw [h5] at b4
      exact Nat.div_lt_of_lt_mul b4
    have st := h.step hd hc hdn (by omega) hs
    have in2 := (st.iff k hk).mp (by rw [ea]; exact e2)
    obtain ⟨y, y1, y2⟩ := wRun_some hd hc hdn hk r (t ++ [s]) _ (by rw [ea]; omega) st (by rw [ea, show t.length + 1 + r.length = t.length + (s :: r).length by omega, he]; simp)
    refine ⟨y, ?_, by rw [show t ++ s :: r = (t ++ [s]) ++ r by simp]; exact y2⟩
    show (if s ∈ x.L then _ else none) = _
    rw [if_pos hs, if_neg (by omega)]
    rw [ea] at y1
    exact y1
theorem wRun_snoc (n c s : Nat) : ∀ (r : List Nat) (b : Nat) (x : Wst), wRun n c b (r ++ [s]) x = (wRun n c b r x).bind fun y => wRun n c (b + r.length) [s] y
  | [], b, x => rfl
  | u :: r, b, x => by
    show (if u ∈ x.L then _ else none) = Option.bind (if u ∈ x.L then _ else none) _
    by_cases h1 : u ∈ x.L
    · rw [if_pos h1, if_pos h1]
      by_cases h2 : (wStep n c b u x).hi ≤ (wStep n c b u x).lo
      · rw [if_pos h2, if_pos h2]
        rfl
      · rw [if_neg h2, if_neg h2]
        have := wRun_snoc n c s r (b + 1) (wStep n c b u x)
        rw [show (u :: r).length = r.length + 1 from rfl, show b + (r.length + 1) = b + 1 + r.length by omega]
        exact this
    · rw [if_neg h1, if_neg h1]
      rfl
/-- where the numbers of the first i continuations end -/
def cutAt (w : Nat) (y : Wst) (i : Nat) : Int := min y.hi (max y.lo ((w : Int) * (i : Int) - y.mv))
end Ef
namespace Ef
/-! ### numbers_with against the list of all rows -/
theorem wRun_beg {n c d : Nat} (hd : ∀ b, b < d → n * C (n - 1) b ∣ c) (hc : 0 < c) (hdn : d ≤ n) : ∀ (r t : List Nat) (x y : Wst), t.length + r.length ≤ d → Beg n c t x → x.lo < x.hi → wRun n c t.length r x = some y → Beg n c (t ++ r) y ∧ y.lo < y.hi
  | [], t, x, y, _, h, hl, e => by
    obtain rfl := Option.some.inj e
    rw [List.append_nil]
    exact ⟨h, hl⟩
  | s :: r, t, x, y, hl, h, hlh, e => by
    have el : (s :: r).length = r.length + 1 := rfl
    have ea : (t ++ [s]).length = t.length + 1 := by rw [List.length_append]; rfl
    have e : (if s ∈ x.L then (if (wStep n c t.length s x).hi ≤ (wStep n c t.length s x).lo then none else wRun n c (t.length + 1) r (wStep n c t.length s x)) else none) = some y := e
    by_cases h1 : s ∈ x.L
    · rw [if_pos h1] at e
      by_cases h2 : (wStep n c t.length s x).hi ≤ (wStep n c t.length s x).lo
      · rw [if_pos h2] at e
        cases e
      · rw [if_neg h2] at e
        have := wRun_beg hd hc hdn r (t ++ [s]) _ y (by rw [ea]; omega) (h.step hd hc hdn (by omega) h1) (by omega) (by rw [ea]; exact e)
        rw [show t ++ s :: r = (t ++ [s]) ++ r by simp]
        exact this
    · rw [if_neg h1] at e
      cases e
theorem count_between (a b : Nat) (hab : a ≤ b) : ∀ c, b ≤ c → (List.range c).countP (fun k => decide (a ≤ k ∧ k < b)) = b - a := by
  have g : ∀ c, (List.range c).countP (fun k => decide (a ≤ k ∧ k < b)) = min c b - a := by
    intro c
    induction c with
    | zero => rw [Nat.zero_min]; simp
    | succ c ih =>
      rw [List.range_succ, List.countP_append, ih, List.countP_singleton]
      by_cases h : a ≤ c ∧ c < b
      · rw [decide_eq_true h, if_pos rfl]
        omega
      · rw [decide_eq_false h]
        simp
        omega
  intro c hc
  rw [g c, Nat.min_eq_right hc]
/-- the rows that are t have the numbers from a to b - 1 -/
theorem rows_of_run {n c d : Nat} (st : Std n d c) {t : List Nat} (hl : t.length = d) (h0 : 0 < c) {y : Wst} (e : wRun n c 0 t ⟨0, (c : Int), 0, List.range' 0 n⟩ = some y) :
    ∃ a b : Nat, y.lo = (a : Int) ∧ y.hi = (b : Int) ∧ a < b ∧ b ≤ c ∧ ∀ k, k < c → ((path n d c k).1 = t ↔ a ≤ k ∧ k < b) := by
  obtain ⟨h1, h2⟩ := wRun_beg st.dvd h0 st.dn t [] _ y (by simp; omega) (Beg.start n c) (by show (0 : Int) < (c : Int); omega) e
  have l0 := h1.lo0
  have l1 := h1.hic
  refine ⟨y.lo.toNat, y.hi.toNat, by omega, by omega, by omega, by omega, fun k hk => ?_⟩
  have := h1.iff k hk
  rw [List.nil_append, hl] at this
  rw [show (path n d c k).1 = (fol n c (List.range' 0 d) (List.range' 0 n) k).1 from rfl, this]
  omega
theorem rows_of_none {n c d : Nat} (st : Std n d c) {t : List Nat} (hl : t.length = d) (h0 : 0 < c) (e : wRun n c 0 t ⟨0, (c : Int), 0, List.range' 0 n⟩ = none) :
    ∀ k, k < c → (path n d c k).1 ≠ t := by
  intro k hk z
  obtain ⟨y, y1, _⟩ := wRun_some st.dvd h0 st.dn hk t [] _ (by simp; omega) (Beg.start n c) (by rw [List.length_nil, Nat.zero_add, hl, List.nil_append]; exact z)
  have y1 : wRun n c 0 t ⟨0, (c : Int), 0, List.range' 0 n⟩ = some y := y1
  rw [e] at y1
  cases y1
end Ef
namespace Ef
/-! ### sets and their numbers -/
def many (k : Nat) : Nat → Nat
  | 0 => 0
  | j + 1 => C k j
theorem C_many (k j : Nat) : C (k + 1) j = many k j + C k j := by
  cases j with
  | zero => rw [C_zero, C_zero]; rfl
  | succ j => exact C_ss k j
theorem binZ_many (k j : Nat) : binZ (k : Int) ((j : Int) - 1) = (many k j : Int) := by
  cases j with
  | zero => exact if_pos (.inl (by decide))
  | succ j =>
    rw [show ((j + 1 : Nat) : Int) - 1 = (j : Int) by omega]
    exact binZ_nat k j
/-- the set with the number r among those of j of the k servers from s on -/
def unr : Nat → Nat → Nat → Nat → List Nat
  | _, 0, _, _ => []
  | s, k + 1, j, r => if r < many k j then s :: unr (s + 1) k (j - 1) r else unr (s + 1) k j (r - many k j)
/-- the number of a set among those of its size of the k servers from s on -/
def rnk : Nat → Nat → List Nat → Nat
  | _, 0, _ => 0
  | s, k + 1, ms => if ms.head? = some s then rnk (s + 1) k ms.tail else many k ms.length + rnk (s + 1) k ms
def Sub (s k : Nat) (ms : List Nat) : Prop := ms.Pairwise (· < ·) ∧ ∀ m ∈ ms, s ≤ m ∧ m < s + k
theorem unr_spec : ∀ (k s j r : Nat), r < C k j → (unr s k j r).length = j ∧ Sub s k (unr s k j r) ∧ rnk s k (unr s k j r) = r
  | 0, s, j, r, h => by
    cases j with
    | zero =>
      have h0 : r < 1 := h
      exact ⟨rfl, ⟨List.Pairwise.nil, fun m hm => absurd hm List.not_mem_nil⟩, by show 0 = r; omega⟩
    | succ j => exact absurd h (Nat.not_lt_zero _)
  | k + 1, s, j, r, h => by
    rw [C_many] at h
    by_cases c : r < many k j
    · have e : unr s (k + 1) j r = s :: unr (s + 1) k (j - 1) r := if_pos c
      cases j with
      | zero => exact absurd c (Nat.not_lt_zero _)
      | succ j =>
        obtain ⟨h1, h2, h3⟩ := unr_spec k (s + 1) j r c
        rw [e]
        refine ⟨?_, ⟨?_, ?_⟩, ?_⟩
        · show (unr (s + 1) k j r).length + 1 = j + 1
          rw [h1]
        · refine List.Pairwise.cons (fun m hm => ?_) h2.1
          have := h2.2 m hm
          omega
        · intro m hm
          rcases List.mem_cons.mp hm with rfl | hm
          · omega
          · have := h2.2 m hm
            omega
        · have e3 : rnk s (k + 1) (s :: unr (s + 1) k j r) = rnk (s + 1) k (unr (s + 1) k j r) := if_pos rfl
          exact e3.trans h3
    · have e : unr s (k + 1) j r = unr (s + 1) k j (r - many k j) := if_neg c
      obtain ⟨h1, h2, h3⟩ := unr_spec k (s + 1) j (r - many k j) (by omega)
      rw [e]
      refine ⟨h1, ⟨h2.1, fun m hm => by have := h2.2 m hm; omega⟩, ?_⟩
      have hh : ¬ (unr (s + 1) k j (r - many k j)).head? = some s := fun z => by
        have hm : s ∈ unr (s + 1) k j (r - many k j) := List.mem_of_mem_head? z
        have := h2.2 s hm
        omega
      show (if (unr (s + 1) k j (r - many k j)).head? = some s then _ else many k (unr (s + 1) k j (r - many k j)).length + rnk (s + 1) k (unr (s + 1) k j (r - many k j))) = r
      rw [if_neg hh, h1, h3]
      omega
theorem rnk_spec : ∀ (k s : Nat) (ms : List Nat), Sub s k ms → rnk s k ms < C k ms.length ∧ unr s k ms.length (rnk s k ms) = ms
  | 0, s, ms, h => by
    cases ms with
    | nil => exact ⟨Nat.one_pos, rfl⟩
    | cons m r =>
      have := h.2 m List.mem_cons_self
      omega
  | k + 1, s, ms, h => by
    by_cases c : ms.head? = some s
    · cases ms with
      | nil => cases c
      | cons m t =>
        obtain rfl : m = s := Option.some.inj c
        have ht : Sub (m + 1) k t := ⟨(List.pairwise_cons.mp h.1).2, fun x hx => by
          have h1 := (List.pairwise_cons.mp h.1).1 x hx
          have h2 := h.2 x (List.mem_cons_of_mem _ hx)
          omega⟩
        obtain ⟨h1, h2⟩ := rnk_spec k (m + 1) t ht
        have e : rnk m (k + 1) (m :: t) = rnk (m + 1) k t := if_pos rfl
        rw [e]
        have hm : rnk (m + 1) k t < many k (t.length + 1) := h1
        refine ⟨?_, ?_⟩
        · rw [C_many]
          exact Nat.lt_of_lt_of_le hm (Nat.le_add_right _ _)
        · show unr m (k + 1) (t.length + 1) (rnk (m + 1) k t) = m :: t
          have e2 : unr m (k + 1) (t.length + 1) (rnk (m + 1) k t) = m :: unr (m + 1) k t.length (rnk (m + 1) k t) := if_pos hm
          rw [e2, h2]
    · have hs : Sub (s + 1) k ms := ⟨h.1, fun x hx => by
        have h2 := h.2 x hx
        have hne : x ≠ s := fun z => by
          subst z
          cases ms with
          | nil => cases hx
          | cons m t =>
            rcases List.mem_cons.mp hx with z | hx
            · exact c (by rw [z]; rfl)
            · have h3 := (List.pairwise_cons.mp h.1).1 x hx
              have h4 := h.2 m List.mem_cons_self
              omega
        omega⟩
      obtain ⟨h1, h2⟩ := rnk_spec k (s + 1) ms hs
      have e : rnk s (k + 1) ms = many k ms.length + rnk (s + 1) k ms := if_neg c
      rw [e]
      refine ⟨by rw [C_many]; omega, ?_⟩
      have e2 : unr s (k + 1) ms.length (many k ms.length + rnk (s + 1) k ms) = unr (s + 1) k ms.length (many k ms.length + rnk (s + 1) k ms - many k ms.length) := if_neg (by omega)
      rw [e2, Nat.add_sub_cancel_left, h2]
/-! the small sets, one after the other -/
def allG (few : Nat) : Nat → List (List Nat)
  | 0 => [[]]
  | i + 1 => allG few i ++ ((allG few i).filter fun s => decide (s.length < few)).map fun s => s ++ [i]
def allS (n few : Nat) : List (List Nat) := (allG few n).filter fun s => decide (s.length = few)
def inOrder (n few : Nat) : List (List Nat) := (List.range (C n few)).map (unr 0 n few)
def codeN : List Nat → Nat
  | [] => 0
  | d :: r => d * 8 ^ r.length + codeN r
def smallOk (n few : Nat) : Bool := (allS n few).isPerm (inOrder n few) && decide ((inOrder n few).Pairwise fun a b => codeN a < codeN b)
theorem small_sets : ((List.range 6).all fun i => (List.range (i + 3)).all fun few => smallOk (i + 2) few) = true := by decide +kernel
theorem small_lens : ((List.range 6).all fun i => (List.range (i + 3)).all fun few => decide (C (i + 2) few < 64) && (allS (i + 2) few).all fun s => decide (s.length = few) && s.all fun m => decide (m < 8)) = true := by decide +kernel
theorem gen_lens : ((List.range 6).all fun i => (List.range (i + 3)).all fun few => (List.range (i + 3)).all fun t => decide ((allG few t).length ≤ 200) && (allG few t).all fun s => decide (s.length ≤ 8)) = true := by decide +kernel
theorem small_sets' {n k : Nat} (h2 : 2 ≤ n) (h7 : n ≤ 7) (hk : k ≤ n) : (allS n k).Perm (inOrder n k) ∧ (inOrder n k).Pairwise (fun a b => codeN a < codeN b) ∧ C n k < 64 ∧ ∀ s ∈ allS n k, s.length = k ∧ ∀ m ∈ s, m < 8 := by
  obtain ⟨i, rfl⟩ : ∃ i, n = i + 2 := ⟨n - 2, by omega⟩
  have h1 := List.all_eq_true.mp (List.all_eq_true.mp small_sets i (List.mem_range.mpr (by omega))) k (List.mem_range.mpr (by omega))
  unfold smallOk at h1
  rw [Bool.and_eq_true] at h1
  have h3 := List.all_eq_true.mp (List.all_eq_true.mp small_lens i (List.mem_range.mpr (by omega))) k (List.mem_range.mpr (by omega))
  rw [Bool.and_eq_true] at h3
  refine ⟨List.isPerm_iff.mp h1.1, of_decide_eq_true h1.2, of_decide_eq_true h3.1, fun s hs => ?_⟩
  have h4 := List.all_eq_true.mp h3.2 s hs
  rw [Bool.and_eq_true] at h4
  exact ⟨of_decide_eq_true h4.1, fun m hm => of_decide_eq_true (List.all_eq_true.mp h4.2 m hm)⟩
theorem gen_lens' {n k t : Nat} (h2 : 2 ≤ n) (h7 : n ≤ 7) (hk : k ≤ n) (ht : t ≤ n) : (allG k t).length ≤ 200 ∧ ∀ s ∈ allG k t, s.length ≤ 8 := by
  obtain ⟨i, rfl⟩ : ∃ i, n = i + 2 := ⟨n - 2, by omega⟩
  have h1 := List.all_eq_true.mp (List.all_eq_true.mp (List.all_eq_true.mp gen_lens i (List.mem_range.mpr (by omega))) k (List.mem_range.mpr (by omega))) t (List.mem_range.mpr (by omega))
  rw [Bool.and_eq_true] at h1
  exact ⟨of_decide_eq_true h1.1, fun s hs => of_decide_eq_true (List.all_eq_true.mp h1.2 s hs)⟩
theorem code_inj {L : List (List Nat)} (h : L.Pairwise fun a b => codeN a < codeN b) {a b : List Nat} (ha : a ∈ L) (hb : b ∈ L) (e : codeN a = codeN b) : a = b := by
  induction L with
  | nil => cases ha
  | cons x r ih =>
    obtain ⟨h1, h2⟩ := List.pairwise_cons.mp h
    rcases List.mem_cons.mp ha with e1 | ha2
    · rcases List.mem_cons.mp hb with e2 | hb2
      · rw [e1, e2]
      · have := h1 b hb2
        rw [← e1] at this
        omega
    · rcases List.mem_cons.mp hb with e2 | hb2
      · have := h1 a ha2
        rw [← e2] at this
        omega
      · exact ih h2 ha2 hb2
theorem order_unique {L M : List (List Nat)} (hM : M.Pairwise fun a b => codeN a < codeN b) (hL : L.Pairwise fun a b => codeN a ≤ codeN b) (h : L.Perm M) : L = M := by
  induction M generalizing L with
  | nil => exact List.perm_nil.mp h
  | cons x r ih =>
    cases L with
    | nil => exact absurd h.length_eq (by simp)
    | cons y t =>
      obtain ⟨h1, h2⟩ := List.pairwise_cons.mp hM
      obtain ⟨h3, h4⟩ := List.pairwise_cons.mp hL
      have hyx : y = x := by
        have hy : y ∈ x :: r := h.mem_iff.mp List.mem_cons_self
        have hx : x ∈ y :: t := h.mem_iff.mpr List.mem_cons_self
        rcases List.mem_cons.mp hy with e | hy
        · exact e
        · rcases List.mem_cons.mp hx with e | hx
          · exact e.symm
          · have h5 := h1 y hy
            have h6 := h3 x hx
            omega
      subst hyx
      rw [ih h2 h4 h.cons_inv]
end Ef
namespace Ef
open PySem PySem.Spec PyProof.Rows L2
/-! ### a call whose arguments are all given by name -/
def permL {α : Type} (perm : List Nat) (n : Nat) (us ws : List α) : List α :=
  if us.length = 0 ∧ ws.length = n then perm.filterMap (fun i => ws[i]?) else []
theorem paired_len {α β : Type} {F : α → β → Prop} : ∀ {l : List α} {m : List β}, Paired F l m → l.length = m.length
  | _, _, .nil => rfl
  | _, _, .cons _ t => congrArg (· + 1) (paired_len t)
theorem paired_at {α β : Type} {F : α → β → Prop} : ∀ {l : List α} {m : List β}, Paired F l m → ∀ i : Nat, (l[i]? = none ∧ m[i]? = none) ∨ ∃ x y, l[i]? = some x ∧ m[i]? = some y ∧ F x y
  | _, _, .nil, _ => .inl ⟨rfl, rfl⟩
  | _, _, .cons h _, 0 => .inr ⟨_, _, rfl, rfl, h⟩
  | _, _, .cons _ t, i + 1 => by
    rw [List.getElem?_cons_succ, List.getElem?_cons_succ]
    exact paired_at t i
theorem paired_pick {α β : Type} {F : α → β → Prop} {l : List α} {m : List β} (h : Paired F l m) : ∀ perm : List Nat, Paired F (perm.filterMap (fun i => l[i]?)) (perm.filterMap (fun i => m[i]?))
  | [] => .nil
  | i :: r => by
    rcases paired_at h i with ⟨e1, e2⟩ | ⟨x, y, e1, e2, f⟩
    · rw [List.filterMap_cons_none e1, List.filterMap_cons_none e2]
      exact paired_pick h r
    · rw [List.filterMap_cons_some e1, List.filterMap_cons_some e2]
      exact .cons f (paired_pick h r)
theorem permL_rel {perm : List Nat} {n : Nat} {vs zs : List V} {us ws : List Value} (r : Vals vs us) (rz : Vals zs ws) : Vals (permL perm n vs zs) (permL perm n us ws) := by
  unfold permL
  rw [paired_len r, paired_len rz]
  by_cases h : us.length = 0 ∧ ws.length = n
  · rw [if_pos h, if_pos h]
    exact paired_pick rz perm
  · rw [if_neg h, if_neg h]
    exact .nil
theorem kb_of {K : PySem.W.Frag} {fd : FuncData} {ps ks : List Str} {perm : List Nat} {n : Nat} (h0 : ps ≠ [])
    (h : ∀ ws : List Value, ws.length = n → bindArgs fd ⟨[], ks.zip ws⟩ = pure (ps.zip (perm.filterMap (fun i => ws[i]?)))) :
    KBinds K fd ps ks (permL perm n) (permL perm n) := by
  refine ⟨fun s us ws _ hl => ?_, fun r rz => permL_rel r rz⟩
  unfold permL at hl ⊢
  by_cases c : us.length = 0 ∧ ws.length = n
  · rw [if_pos c]
    have e : us = [] := List.length_eq_zero_iff.mp c.1
    subst e
    exact .of_eq (h ws c.2)
  · rw [if_neg c] at hl
    exact absurd (List.length_eq_zero_iff.mp hl.symm) h0
theorem Fun_kb {K : PySem.W.Frag} {x qual : Str} {st : Stmt} {f : Addr} {fd : FuncData} {ps ks : List Str} (perm : List Nat) (n : Nat) (F : Fun K x qual st f fd) (h0 : ps ≠ [])
    (h : ∀ (kV doc pm : Value) (an : Option Addr) (cdv ct : Value) (ws : List Value), ws.length = n → bindArgs (PySem.W.fnOf x qual (defArgs st) (defBody st) (defScope st) .none kV doc pm an cdv ct) ⟨[], ks.zip ws⟩ = pure (ps.zip (perm.filterMap (fun i => ws[i]?)))) :
    KBinds K fd ps ks (permL perm n) (permL perm n) := by
  obtain ⟨oc, od, kV, doc, pm, an, cdv, ct, osl, rfl, lk, hcd⟩ := F.ex
  exact kb_of h0 (h kV doc pm an cdv ct)
section
variable {X : Cx} {CX : CXT} {k : Nat} {f : Addr} {fd : FuncData} {ps ks : List Str} {sp : Sp} {E : XK} {x : Str} {p pos : Pos} {kws : List Keyword} {tk : TA}
variable {g : List Value → List Value → List Value} {gV : List V → List V → List V}
/-- f(k = v, ..) -/
theorem pe_kw (F : FnOk X.prog X.w X.K X.mg X.base CX k f fd ps sp) (hr : Room k X.A) (hg : Gl X x) (hm : X.mg x = some (.ref f))
    (hk : PySem.W.keepIn X.K (.ref f) = true) (hb : KBinds X.K fd ps ks g gV) (hx : Passes CX X E) (hkw : PK X kws tk)
    (a1 : (backToKw pos (keywordEach kws X.env)).all (fun z => z.1.isSome) = true := by rfl)
    (a2 : (backToKw pos (keywordEach kws X.env)).filterMap (fun z => z.1) = ks := by rfl)
    (a3 : (x == ("__debug__" : Str)) = false := by decide)
    (a4 : ((backTo pos (starEach [] X.env)).any (fun z => z.1) || (backToKw pos (keywordEach kws X.env)).any (fun z => z.1.isNone)) = false := by rfl) :
    PE X (.Call (.Name x p) [] kws pos) (tCallK sp gV E tNil tk) := by
  refine ⟨fun pins s σ H Q I h => wpAny_Call_Name_kw (ld_glob I hg hm ?_ a3)⟩
  refine PySem.W.callWith_KW0 (h₀ := X.base) I.ok.mod.kin hk a1 ?_ a4
  refine thn (hkw.run pos pins s σ H _ I h) fun ws s2 z => ?_
  obtain ⟨zs, H2, I2, rz, q2⟩ := z
  refine ⟨I2.kIn, ?_⟩
  rw [a2]
  exact run_fnk (us := []) (vs := []) F hr hb hx I2 .nil rz q2
end
/-! ### heaps -/
theorem same_new {H : Hp} {p : Addr} {o : HO} (h : H p = none) : Same H (upd H p o) := fun b x e => by
  rw [upd_ne (ne_of_none e h)]
  exact e
theorem keep_upd {H H1 : Hp} {p : Addr} {o : HO} (s : Same H H1) (h : H p = none) : Same H (upd H1 p o) := fun b x e => by
  rw [upd_ne (ne_of_none e h)]
  exact s b x e
/-- all but what stands at p is as it was -/
def But (p : Addr) (H H' : Hp) : Prop := ∀ b o, b ≠ p → H b = some o → H' b = some o
theorem But.refl (p : Addr) (H : Hp) : But p H H := fun _ _ _ e => e
theorem But.trans {p : Addr} {H H1 H2 : Hp} (s : But p H H1) (t : But p H1 H2) : But p H H2 := fun b o n e => t b o n (s b o n e)
theorem But.same {p : Addr} {H H1 H2 : Hp} (s : But p H H1) (t : Same H1 H2) : But p H H2 := fun b o n e => t b o (s b o n e)
theorem But.of {p : Addr} {H H1 : Hp} (t : Same H H1) : But p H H1 := fun b o _ e => t b o e
theorem But.upd {p : Addr} {H H1 : Hp} {o : HO} (s : But p H H1) : But p H (upd H1 p o) := fun b x n e => by
  rw [upd_ne n]
  exact s b x n e
theorem But.to {p : Addr} {H H1 : Hp} (s : But p H H1) (h : H p = none) : Same H H1 := fun b x e => s b x (ne_of_none e h) e
theorem But.seq {K : PySem.W.Frag} {p a : Addr} {H H' : Hp} {xs : List V} (e : But p H H') (n : a ≠ p) (h : SqL K H a xs) : SqL K H' a xs := by
  rcases h with (h | ⟨o, h⟩) | h
  · exact .inl (.inl (e _ _ n h))
  · exact .inl (.inr ⟨o, e _ _ n h⟩)
  · exact .inr h
end Ef
namespace Ef
open PySem PySem.Spec PyProof.Rows L2
/-! ### promises of defs that are called where no repr is under way -/
structure FnG (P : Program) (w : World) (K : PySem.W.Frag) (mg : Str → Option Value) (base : Heap) (CX : CXT) (k : Nat) (f : Addr) (fd : FuncData) (ps : List Str) (sp : Sp) : Prop where
  len : ∀ vs H Q E, sp vs H Q E → vs.length = ps.length
  run : ∀ (A : Around), A.guards = some [] → ∀ (outer : List Env) (s : Shared) (H : Hp) (args : Args) (us : List Value) (vs : List V) (Q : VK) (E : XK),
    Room k A → Env0 P w K mg base A outer s H → BindsTo s fd args (ps.zip us) → Vals vs us → sp vs H Q E →
      codeAny (model P w) A (.call (.ref f) args) (CR CX outer P w H s Q E) s
section
variable {P : Program} {w : World} {K : PySem.W.Frag} {mg : Str → Option Value} {base : Heap} {CX : CXT}
theorem FnG.of {k : Nat} {f : Addr} {fd : FuncData} {ps : List Str} {sp : Sp} (F : FnOk P w K mg base CX k f fd ps sp) : FnG P w K mg base CX k f fd ps sp :=
  ⟨F.len, fun A _ outer s H args us vs Q E => F.run A outer s H args us vs Q E⟩
theorem Fun_okG {x qual : Str} {st : Stmt} {f : Addr} {fd : FuncData} {N ps : List Str} {k : Nat} {sp : Sp} (F : Fun K x qual st f fd) (S : FnScope N ps (defScope st)) (len : ∀ vs H Q E, sp vs H Q E → vs.length = ps.length)
    (bod : ∀ (cdv : Value) (A : Around) (outer : List Env) (s : Shared) (H : Hp) (vs : List V) (Q : VK) (E : XK), A.guards = some [] → Room k (A.deeper (envOfC qual (defScope st) s.heap.objs.size f cdv)) → sp vs H Q E →
      ∃ t, PSs (cxOf CX P w K mg base N qual (defScope st) f cdv A outer s H E) (defBody st) t ∧ t { nx := fun _ H' => Q .non H', rt := Q } (start N vs) H) :
    FnG P w K mg base CX (k + 1) f fd ps sp := by
  obtain ⟨oc, od, kV, doc, pm, an, cdv, ct, osl, rfl, lk, hcd⟩ := F.ex
  refine ⟨len, fun A gd outer s H args us vs Q E room e0 bnd rel wish => ?_⟩
  have kin : K.In s.heap := e0.mod.kin.keeps fun b o z => (e0.bs b o z).1
  have nolim : s.heap.NoLimit := e0.mod.nolimit.keeps fun b o z => (e0.bs b o z).1
  refine codeAny_call_function room.depth (kin _ _ lk) rfl S.co S.gen rfl (PySem.W.codeRec_of kin hcd) (bnd _ _ _ _ ?_)
  refine wpAny_newFunctionEnv_cells S.kind ?_ fun env hev s1 ic => ?_
  · rintro ⟨n, v⟩ hy
    rcases S.par n (List.of_mem_zip hy).1 with z | z
    · exact .inl z
    · exact .inr ⟨z, PySem.W.cellsFrom_some _ _ _ (.inl z)⟩
  · subst hev
    refine ⟨nolim.keeps ic.toInCall.keep, codeAny_func ?_⟩
    obtain ⟨t, pt, rd⟩ := bod cdv A outer s H vs Q E gd (room.deeper _) wish
    have J0 := inv_start (CX := CX) (E := E) S room.hd e0 (len _ _ _ _ wish) rel ic
    refine wpAny_mono (pt.run [] s1 (start N vs) H _ J0 rd) (fun fl s' got => ?_) fun e s' got => got
    cases fl with
    | brk =>
      obtain ⟨_, _, _, z⟩ := got
      exact z.elim
    | cont =>
      obtain ⟨_, _, _, z⟩ := got
      exact z.elim
    | next =>
      obtain ⟨σ', H', J, z⟩ := got
      exact ⟨V.non, H', J.os, J.bare, J.base, J.hok, (rfl : RelV V.non Value.none), z⟩
    | ret u =>
      obtain ⟨v, σ', H', J, rv, z⟩ := got
      exact ⟨v, H', J.os, J.bare, J.base, J.hok, rv, z⟩
end
/-- the same of a def that lets no exception out -/
theorem Fun_ok0 {P : Program} {w : World} {K : PySem.W.Frag} {mg : Str → Option Value} {base : Heap} {x qual : Str} {st : Stmt} {f : Addr} {fd : FuncData} {N ps : List Str} {k : Nat} {sp : Sp} (F : Fun K x qual st f fd) (S : FnScope N ps (defScope st)) (len : ∀ vs H Q E, sp vs H Q E → vs.length = ps.length)
    (bod : ∀ (cdv : Value) (A : Around) (outer : List Env) (s : Shared) (H : Hp) (vs : List V) (Q : VK) (E : XK), A.guards = some [] → Room k (A.deeper (envOfC qual (defScope st) s.heap.objs.size f cdv)) → sp vs H Q E →
      ∃ t, PSs (cxOf CX0 P w K mg base N qual (defScope st) f cdv A outer s H E).nox (defBody st) t ∧ t { nx := fun _ H' => Q .non H', rt := Q } (start N vs) H) :
    FnG P w K mg base CX0 (k + 1) f fd ps sp :=
  Fun_okG F S len fun cdv A outer s H vs Q E gd room wish => by
    obtain ⟨t, pt, rd⟩ := bod cdv A outer s H vs Q E gd room wish
    exact ⟨t, pt.nox, rd⟩
section
variable {X : Cx} {CX : CXT} {k : Nat} {f : Addr} {fd : FuncData} {ps : List Str} {sp : Sp} {E : XK} {x : Str} {p pos : Pos} {e : Expr} {es : List Expr} {t : TA}
theorem run_G {pins : List (Addr × Obj)} {σ : L2.St} {H : Hp} {s : Shared} {Q : VK} {us : List Value} {vs : List V} (F : FnG X.prog X.w X.K X.mg X.base CX k f fd ps sp)
    (gd : X.A.guards = some []) (room : Room k X.A) (bnd : Binds X.K fd ps []) (pass : Passes CX X E) (I : Inv X pins σ H s) (rel : Vals vs us) (wish : sp vs H Q E) :
    wpAny (model X.prog X.w) X.A (call (.ref f) us) (EP X pins σ Q) X.xe s := by
  have hl : (us ++ []).length = ps.length := by
    rw [List.append_nil, ← rel.length]
    exact F.len _ _ _ _ wish
  have b1 := bnd s us I.kIn hl
  rw [List.append_nil] at b1
  refine wpAny_call (codeAny_mono (F.run X.A gd X.stack s H ⟨us, []⟩ us vs Q E room I.env0 b1 rel wish) fun res s' got => ?_)
  cases res with
  | error z => exact pass pins σ H s z s' I got
  | ok fl =>
    cases fl with
    | ret u => exact I.after got
    | next => exact got.elim
    | brk => exact got.elim
    | cont => exact got.elim
/-- f(e, ..) of a def whose promise holds where no repr is under way -/
theorem pe_callG (F : FnG X.prog X.w X.K X.mg X.base CX k f fd ps sp) (gd : X.A.guards = some []) (room : Room k X.A) (hg : Gl X x) (hm : X.mg x = some (.ref f))
    (hk : PySem.W.keepIn X.K (.ref f) = true) (bnd : Binds X.K fd ps []) (pass : Passes CX X E) (ha : PA X (e :: es) t)
    (a1 : (x == ("__debug__" : Str)) = false := by decide) (a2 : starEach (e :: es) X.env = (false, eval e X.env) :: starEach es X.env := by rfl)
    (a3 : (backTo pos (starEach es X.env)).any (fun z => z.1) = false := by rfl) :
    PE X (.Call (.Name x p) (e :: es) [] pos) (tCall sp [] E t) := by
  refine ⟨fun pins s σ H Q I h => wpAny_Call_Name_kw (ld_glob I hg hm ?_ a1)⟩
  refine PySem.W.callWith_K (h₀ := X.base) I.ok.mod.kin hk (thn (ha.run pos pins s σ H _ I h) fun us s1 z => ?_) a2 a3
  obtain ⟨vs, H1, I1, r, q⟩ := z
  rw [List.append_nil] at q
  exact ⟨I1.kIn, run_G F gd room bnd pass I1 r q⟩
end
/-! ### the law's own end, where no repr is under way -/
def scriptObj (vs : List Value) : Obj := { cls := .type "list", data := .seq vs.toArray }
def scriptHp (K : PySem.W.Frag) (a : Addr) (vs : List Value) (ns : List Int) : Hp := fun b => if b = a ∧ K.lookup a = none then some (.frz (scriptObj vs) (.lst (ns.map V.int))) else none
section
variable {K : PySem.W.Frag} {a : Addr} {vs : List Value} {ns : List Int}
theorem scriptHp_only : Only (scriptHp K a vs ns) := fun b => by
  unfold scriptHp
  by_cases c : b = a ∧ K.lookup a = none
  · exact .inr ⟨_, _, if_pos c⟩
  · exact .inl (if_neg c)
theorem scriptHp_some {b : Addr} {u : HO} (h : scriptHp K a vs ns b = some u) : b = a ∧ K.lookup a = none ∧ u = .frz (scriptObj vs) (.lst (ns.map V.int)) := by
  unfold scriptHp at h
  by_cases c : b = a ∧ K.lookup a = none
  · rw [if_pos c] at h
    exact ⟨c.1, c.2, (Option.some.inj h).symm⟩
  · rw [if_neg c] at h
    cases h
theorem scriptHp_none {b : Addr} {o : Obj} {h : Heap} (ha : h.get? a = some (scriptObj vs)) (e : h.get? b = some o) (hd : ∀ its n, o.data ≠ .seq its n) : scriptHp K a vs ns b = none := by
  cases q : scriptHp K a vs ns b with
  | none => rfl
  | some u =>
    obtain ⟨rfl, _, _⟩ := scriptHp_some q
    rw [ha] at e
    cases e
    exact absurd rfl (hd vs.toArray _)
theorem lawG {l : PySem.W.OpenLaw} {n k : Nat} {q : Program} {loose : List Str} {XP : (Str → Option Value) → Heap → Prop} {YP : World → Heap → Prop} {d : DefRec} {K : Params → PySem.W.Frag} {sp : World → Sp} {x : Str}
    (hn : l.most = some n) (hn2 : n ≤ sizeLine) (hdf : d.params.defaults = []) (room : Room k callerA)
    (hY : ∀ (w : World) (h : Heap), YP w h → (K w.params).In h)
    (F : ∀ (w : World) (mg : Str → Option Value) (fa : Addr) (h : Heap), (K w.params).In h → h.Ns mainGlobals mg → mg d.name = some (.ref fa) →
      ∃ fd : FuncData, (∀ (s : Shared) (u : Value), BindsTo s fd ⟨[u], []⟩ [(x, u)]) ∧
        ∀ base : Heap, (K w.params).In base → base.Ns mainGlobals mg → FnG l.prog w (K w.params) mg base CX0 k fa fd [x] (sp w))
    (hsp : ∀ (w : World) (H : Hp) (a : Addr) (ns : List Int), ns.length ≤ n → Only H → SqL (K w.params) H a (ns.map V.int) → sp w [.ref a] H (fun v _ => v = .bl true) fun _ _ _ => False) :
    PySem.W.WalkO q loose XP YP l.row.toRowW d [] (fun f vs => PySem.call f vs) := by
  refine Att.attach_call hn hdf fun w s₀ s₁ mg mb fa o pm cd doc a vs ns G Y ho hd hcd hmg hobj hints hlen hgen => ?_
  have kin := hY w _ Y
  obtain ⟨fd, bnd, FF⟩ := F w mg fa _ kin G.T.g hmg
  have ha : s₁.heap.get? a = some (scriptObj vs) := hobj
  have short : ns.length ≤ sizeLine := Nat.le_trans hlen hn2
  have keep0 : ∀ {b : Addr} {o : Obj}, s₁.heap.get? b = some o → scriptHp (K w.params) a vs ns b = none → (hidT s₁.heap (scriptHp (K w.params) a vs ns)).get? b = some o := fun e z => hidT_get e z
  have nsK : ∀ {b : Addr} {m : Str → Option Value}, s₁.heap.Ns b m → (hidT s₁.heap (scriptHp (K w.params) a vs ns)).Ns b m := by
    rintro b m ⟨o, es, ep, e, dd, r⟩
    exact ⟨o, es, ep, keep0 e (scriptHp_none ha e fun its n z => by rw [dd] at z; cases z), dd, r⟩
  have kinB : (K w.params).In (hidT s₁.heap (scriptHp (K w.params) a vs ns)) := fun b o e => keep0 (kin b o e) (by
    cases z : scriptHp (K w.params) a vs ns b with
    | none => rfl
    | some u =>
      obtain ⟨rfl, z2, _⟩ := scriptHp_some z
      rw [z2] at e
      cases e)
  have hM : Mod (K w.params) mg (hidT s₁.heap (scriptHp (K w.params) a vs ns)) := by
    obtain ⟨mc, h1, h2⟩ := G.T.nolimit
    exact ⟨kinB, nsK G.T.g, ⟨mb, nsK G.T.b, G.T.builtins⟩, ⟨mc, nsK h1, h2⟩⟩
  have hok : HOk l.prog w (scriptHp (K w.params) a vs ns) s₁.heap := fun b u z => by
    obtain ⟨rfl, _, rfl⟩ := scriptHp_some z
    exact ⟨ha, by rw [List.length_map]; exact short, vs, _, vals_ints hints, ha⟩
  have hS : SqL (K w.params) (scriptHp (K w.params) a vs ns) a (ns.map V.int) := by
    cases hk : (K w.params).lookup a with
    | none => exact .inl (.inr ⟨scriptObj vs, if_pos ⟨rfl, hk⟩⟩)
    | some o =>
      have e := kin a o hk
      rw [ha] at e
      obtain rfl := Option.some.inj e
      exact .inr ⟨_, vs.toArray, _, hk, rfl, rfl, rfl, by rw [List.size_toArray, hints.length]; exact short, by simpa using vals_ints hints⟩
  have e0 : Env0 l.prog w (K w.params) mg (hidT s₁.heap (scriptHp (K w.params) a vs ns)) callerA [] s₁ (scriptHp (K w.params) a vs ns) :=
    ⟨rfl, hM, fun b o e => of_hidT e, Nat.le_of_eq (hidT_size _ _), trivial, fun b z => absurd (show b ∈ ([] : List Addr) from z) (by simp), hok, .of_eq hgen⟩
  refine codeAny_mono ((FF _ kinB (nsK G.T.g)).run callerA rfl [] s₁ _ ⟨[.ref a], []⟩ [.ref a] [.ref a] _ _ room e0 (bnd s₁ (.ref a)) (.cons rfl .nil) (hsp w _ a ns hlen scriptHp_only hS)) fun r s' got => ?_
  cases r with
  | error e => exact got.elim
  | ok fl =>
    cases fl with
    | next => exact got.elim
    | brk => exact got.elim
    | cont => exact got.elim
    | ret u =>
      obtain ⟨v, H', os, bare, un, hok', rv, z⟩ := got
      obtain rfl : v = .bl true := z
      obtain rfl : u = Value.bool true := rv
      refine ⟨rfl, OldK.of_keep fun b o e => ?_, os, bare⟩
      cases z : scriptHp (K w.params) a vs ns b with
      | none => exact un.keep b o e z (fun y => absurd (show b ∈ ([] : List Addr) from y) (by simp)) (by simp)
      | some u =>
        obtain ⟨_, _, rfl⟩ := scriptHp_some z
        have z2 := un.frzs b _ _ z
        obtain ⟨e1, _⟩ := hok b _ z
        obtain ⟨e2, _⟩ := hok' b _ z2
        rw [e] at e1
        obtain rfl := Option.some.inj e1
        exact e2
end
/-! ### repr of data -/
theorem Dp_ref {K : PySem.W.Frag} {H : Hp} {v : V} {d : PyData} (h : Dp K H v d) : (∃ a, v = .ref a) ∨ (v = .non ∧ d = .none) ∨ (∃ b, v = .bl b ∧ d = .bool b) ∨ (∃ i, v = .int i ∧ d = .int i) ∨ ∃ x, v = .str x ∧ d = .str x := by
  cases h with
  | non => exact .inr (.inl ⟨rfl, rfl⟩)
  | bl b => exact .inr (.inr (.inl ⟨b, rfl, rfl⟩))
  | int i => exact .inr (.inr (.inr (.inl ⟨i, rfl, rfl⟩)))
  | str x => exact .inr (.inr (.inr (.inr ⟨x, rfl, rfl⟩)))
  | lst _ _ => exact .inl ⟨_, rfl⟩
  | tup _ _ => exact .inl ⟨_, rfl⟩
/-- data that can be shown: not deeper than dp, not heavier than wt -/
structure Sh (dp wt : Nat) (d : PyData) : Prop where
  can : d.canLay0 = true
  dep : d.depth ≤ dp
  shw : d.showable = true
  lvs : d.leavesShort 200 = true
  wgt : d.weight ≤ wt
structure ShAll (dp wt : Nat) (ds : List PyData) : Prop where
  can : PyData.canLayAll0 ds = true
  dep : PyData.depthAll ds ≤ dp
  shw : PyData.showableAll ds = true
  lvs : PyData.leavesShortAll 200 ds = true
  wgt : PyData.weightAll ds ≤ wt
theorem Sh.mono {dp wt dp' wt' : Nat} {d : PyData} (h : Sh dp wt d) (h1 : dp ≤ dp') (h2 : wt ≤ wt') : Sh dp' wt' d := ⟨h.can, Nat.le_trans h.dep h1, h.shw, h.lvs, Nat.le_trans h.wgt h2⟩
theorem ShAll.mono {dp wt dp' wt' : Nat} {ds : List PyData} (h : ShAll dp wt ds) (h1 : dp ≤ dp') (h2 : wt ≤ wt') : ShAll dp' wt' ds := ⟨h.can, Nat.le_trans h.dep h1, h.shw, h.lvs, Nat.le_trans h.wgt h2⟩
theorem Sh.none : Sh 0 0 .none := ⟨rfl, Nat.le_refl _, rfl, rfl, Nat.le_refl _⟩
theorem Sh.bool (b : Bool) : Sh 0 0 (.bool b) := ⟨rfl, Nat.le_refl _, rfl, rfl, Nat.le_refl _⟩
theorem Sh.int {b : Nat} (h0 : 0 < b) (h6 : b ≤ 600) {i : Int} (h : i.natAbs < 2 ^ b) : Sh 0 b (.int i) := by
  have l2 := PySem.Flt.log2_lt_of h0 h
  refine ⟨rfl, Nat.le_refl _, decide_eq_true (by omega), decide_eq_true ?_, ?_⟩
  · have h1 : i.natAbs < 10 ^ 199 := Nat.lt_of_lt_of_le h (Nat.le_trans (Nat.pow_le_pow_right (by decide) h6) (by decide +kernel))
    have e := int_text_length_le10 (k := 199) (by decide) h1
    show (Str.ofString (toString i)).length ≤ 200
    rw [PySem.ofString_length]
    exact e
  · show (if i == 0 then 0 else i.natAbs.log2 + 1) ≤ b
    split <;> omega
theorem Sh.tup {dp wt : Nat} {ds : List PyData} (h : ShAll dp wt ds) : Sh (dp + 1) wt (.tuple ds) := ⟨h.can, Nat.add_le_add_right h.dep 1, h.shw, h.lvs, h.wgt⟩
theorem Sh.lst {dp wt : Nat} {ds : List PyData} (h : ShAll dp wt ds) : Sh (dp + 1) wt (.list ds) := ⟨h.can, Nat.add_le_add_right h.dep 1, h.shw, h.lvs, h.wgt⟩
theorem ShAll.nil : ShAll 0 0 [] := ⟨rfl, Nat.le_refl _, rfl, rfl, Nat.le_refl _⟩
theorem ShAll.cons {dp wt wt' : Nat} {d : PyData} {ds : List PyData} (h : Sh dp wt d) (t : ShAll dp wt' ds) : ShAll dp (wt + 1 + wt') (d :: ds) := by
  refine ⟨?_, Nat.max_le.mpr ⟨h.dep, t.dep⟩, ?_, ?_, ?_⟩
  · show (d.canLay0 && PyData.canLayAll0 ds) = true
    rw [h.can, t.can]
    rfl
  · show (d.showable && PyData.showableAll ds) = true
    rw [h.shw, t.shw]
    rfl
  · show (d.leavesShort 200 && PyData.leavesShortAll 200 ds) = true
    rw [h.lvs, t.lvs]
    rfl
  · show d.weight + 1 + PyData.weightAll ds ≤ wt + 1 + wt'
    have h1 := h.wgt
    have h2 := t.wgt
    omega
theorem ShAll.ints {b : Nat} (h0 : 0 < b) (h6 : b ≤ 600) : ∀ {ns : List Int}, (∀ x ∈ ns, x.natAbs < 2 ^ b) → ShAll 0 ((b + 1) * ns.length) (ns.map PyData.int)
  | [], _ => ShAll.nil
  | x :: r, h => by
    have h1 := ShAll.cons (Sh.int h0 h6 (h x List.mem_cons_self)) (ShAll.ints h0 h6 fun y hy => h y (List.mem_cons_of_mem _ hy))
    exact h1.mono (Nat.le_refl _) (by rw [List.length_cons, Nat.mul_succ]; omega)
theorem Sh.shaped {dp wt : Nat} {d : PyData} (h : Sh dp wt d) (h1 : dp ≤ 64) : SeqAt.shaped d = true := by
  unfold SeqAt.shaped
  rw [h.can]
  exact decide_eq_true (Nat.le_trans h.dep h1)
theorem Sh.fits {dp wt : Nat} {d : PyData} (h : Sh dp wt d) (h1 : wt ≤ 80000) : d.shown.length ≤ sizeLine := by
  have h2 := PyData.shown_le 200 (by decide) d h.lvs
  have h3 := h.wgt
  have h4 : (200 + 2) * d.weight ≤ 202 * 80000 := Nat.mul_le_mul (by omega) (by omega)
  have h5 : sizeLine = 16777216 := by decide
  omega
theorem dp_ints {K : PySem.W.Frag} {H : Hp} : ∀ ns : List Int, DpAll K H (ns.map V.int) (ns.map PyData.int)
  | [] => .nil
  | n :: r => .cons (.int n) (dp_ints r)
theorem eqvAll_ints : ∀ ns : List Int, PyData.eqvAll (ns.map PyData.int) (ns.map PyData.int) = true
  | [] => rfl
  | n :: r => by
    show (PyData.eqv (.int n) (.int n) && PyData.eqvAll (r.map PyData.int) (r.map PyData.int)) = true
    rw [eqvAll_ints r]
    show ((n == n) && true) = true
    rw [beq_self_eq_true]
    rfl
section
variable {X : Cx}
/-- repr(x), x data: its text -/
theorem call_reprD (gd : X.A.guards = some []) (hu : X.A.units + 66 < cLine) : CallR X (.builtin "repr") (fun xs H Q => ∃ v d, xs = [v] ∧ Dp X.K H v d ∧ Sh 60 80000 d ∧ Q (.str d.shown) H) := by
  intro pins s σ H xs us Q I r h
  obtain ⟨v, d, rfl, hD, hd, q⟩ := h
  have hsh := hd.shaped (by decide)
  have hsz := hd.fits (by decide)
  obtain ⟨u, rfl, ru⟩ := vals1 r
  rcases Dp_ref hD with ⟨a, rfl⟩ | ⟨rfl, rfl⟩ | ⟨b, rfl, rfl⟩ | ⟨i, rfl, rfl⟩ | ⟨x, rfl, rfl⟩
  · obtain rfl : u = Value.ref a := ru
    obtain ⟨as, rd⟩ := Dp.reads I d _ _ hD rfl
    have hdp := hd.dep
    refine repr_of_reads' rd hd.shw (PyData.noDict_hsm (PyData.hasDict_of_canLay d hd.can)) gd (by omega) (fun _ _ e => e) (fun h' u tk hk => ?_) hsz
    exact ⟨.str _, H, I.kept hk, ⟨u, rfl⟩, q⟩
  · obtain rfl : u = Value.none := ru
    exact P.repr_of_none ⟨.str _, H, I.tok _, ⟨_, rfl⟩, q⟩
  · obtain rfl : u = Value.bool b := ru
    exact P.repr_of_bool ⟨.str _, H, I.tok _, ⟨_, rfl⟩, q⟩
  · obtain ⟨t, rfl⟩ := ru
    exact P.repr_of_int (of_decide_eq_true hd.shw) ⟨.str _, H, I.tok _, ⟨_, rfl⟩, q⟩
  · obtain ⟨t, rfl⟩ := ru
    exact P.repr_of_str ⟨.str _, H, I.tok _, ⟨_, rfl⟩, q⟩ hsz
/-- a ** b of greater numbers -/
theorem op_powB : OpR X (binaryOp .Pow) (rI (fun i j => 0 ≤ j ∧ (Builtin.Int.intBits i : Int) * j ≤ 2 ^ 27) fun i j => .int (i ^ j.toNat)) := opI fun _ _ _ _ _ _ _ hc q => pow_int hc.1 hc.2 q
/-- set(t), t a tuple of ints -/
theorem cr_setT (hc : X.calm = true) : CallR X (.type "set") (fun xs H Q => ∃ (l : Addr) (ns : List Int), xs = [.ref l] ∧ SqT X.K H l (ns.map V.int) ∧ ns.length ≤ 1000 ∧
    ∀ (p : Addr) (c : Nat), H p = none → Q (.ref p) (upd H p (SetO X.w p (fun j => decide (j ∈ ns)) c))) := by
  intro pins s σ H xs us Q I r h
  obtain ⟨l, ns, rfl, hq, hl, q⟩ := h
  obtain ⟨u, rfl, ru⟩ := vals1 r
  obtain rfl : u = Value.ref l := ru
  obtain ⟨its, rv, pt, hz⟩ := I.tuple hq
  refine call_set_tupI ns (I.ok.hd hc) (show s.heap.IsTuple l its.toArray from pt) (ints_of_vals rv) (by unfold scanBound; omega) fun h' tk c R1 hcn k => ?_
  exact ⟨.ref _, _, I.laid (t' := tk) k (Nat.le_refl _) (setO_new R1), rfl, q _ c (I.hok.fresh (Nat.le_refl _))⟩
end

/-! ### the same rules with the written part as a letter (for comprehensions) -/
section
variable {X : Cx} (K : PySem.W.Frag)
theorem ix_listK (h : X.K = K := by rfl) : IxR X (rIxL K) := h ▸ ix_list
theorem ix_tupK (h : X.K = K := by rfl) : IxR X (rIxT K) := h ▸ ix_tup
theorem op_inK (h : X.K = K := by rfl) : OpR X (compareOp .In) (rIn K false) := h ▸ op_in_seq
theorem op_notInK (h : X.K = K := by rfl) : OpR X (compareOp .NotIn) (rIn K true) := h ▸ op_notIn_seq
def rLenK (K : PySem.W.Frag) : List V → Hp → VK → Prop := fun xs H Q => ∃ p ys, xs = [.ref p] ∧ (SqL K H p ys ∨ SqT K H p ys) ∧ Q (.int ys.length) H
theorem call_lenK (h : X.K = K := by rfl) : CallR X (.builtin "len") (rLenK K) := h ▸ call_len_seq
def rReprK (K : PySem.W.Frag) : List V → Hp → VK → Prop := fun xs H Q => ∃ v d, xs = [v] ∧ Dp K H v d ∧ Sh 60 80000 d ∧ Q (.str d.shown) H
theorem call_reprK (gd : X.A.guards = some []) (hu : X.A.units + 66 < cLine) (h : X.K = K := by rfl) : CallR X (.builtin "repr") (rReprK K) := h ▸ call_reprD gd hu
theorem call_isiK1 (h : X.K = K := by rfl) : CallR X (.builtin "isinstance") (rIsi K) := h ▸ call_isi
def rTupleK (K : PySem.W.Frag) : List V → Hp → VK → Prop := fun xs H Q => ∃ p ys, xs = [.ref p] ∧ ((SqL K H p ys ∧ ∀ l, H l = none → Q (.ref l) (upd H l (.tup ys))) ∨ (SqT K H p ys ∧ Q (.ref p) H))
theorem call_tupleK (h : X.K = K := by rfl) : CallR X (.type "tuple") (rTupleK K) := h ▸ call_tuple_of
def rListK (K : PySem.W.Frag) : List V → Hp → VK → Prop := fun xs H Q => ∃ p ys, xs = [.ref p] ∧ (SqL K H p ys ∨ SqT K H p ys) ∧ ∀ l, H l = none → Q (.ref l) (upd H l (.lst ys))
theorem call_listK (h : X.K = K := by rfl) : CallR X (.type "list") (rListK K) := h ▸ call_list_of
theorem op_eqDK (hu : X.A.units + 64 < cLine) (h : X.K = K := by rfl) : OpR X (compareOp .Eq) (rEqD K) := h ▸ op_eqD hu
theorem op_neDK (hu : X.A.units + 64 < cLine) (h : X.K = K := by rfl) : OpR X (compareOp .NotEq) (rNeD K) := h ▸ op_neD hu
end
end Ef
namespace Ef
open PySem PySem.Spec PyProof.Rows L2
/-! ### tuples: sums, parts, the other way round -/
theorem Same.seqT {K : PySem.W.Frag} {H H' : Hp} {a : Addr} {xs : List V} (e : Same H H') (h : SqT K H a xs) : SqT K H' a xs := by
  rcases h with (h | ⟨o, h⟩) | h
  · exact .inl (.inl (e _ _ h))
  · exact .inl (.inr ⟨o, e _ _ h⟩)
  · exact .inr h
theorem But.seqT {K : PySem.W.Frag} {p a : Addr} {H H' : Hp} {xs : List V} (e : But p H H') (n : ∀ o, H p = some o → a = p → False) (h : SqT K H a xs) : SqT K H' a xs := by
  rcases h with (h | ⟨o, h⟩) | h
  · exact .inl (.inl (e _ _ (fun z => n _ (z ▸ h) z) h))
  · exact .inl (.inr ⟨o, e _ _ (fun z => n _ (z ▸ h) z) h⟩)
  · exact .inr h
/-- t + u -/
def rCatS (K : PySem.W.Frag) : R2 := fun x y H Q => ∃ a b xs ys, x = .ref a ∧ y = .ref b ∧ SqT K H a xs ∧ SqT K H b ys ∧ xs.length + ys.length ≤ sizeLine ∧ ∀ p H', Same H H' → SqT K H' p (xs ++ ys) → Q (.ref p) H'
/-- t[lo:hi] -/
def rSlS (K : PySem.W.Frag) : V → Option Int → Option Int → Hp → VK → Prop := fun x lo hi H Q => ∃ a xs, x = .ref a ∧ SqT K H a xs ∧ ∀ p H', Same H H' → SqT K H' p (cutV xs lo hi) → Q (.ref p) H'
theorem cut_whole {xs : List V} {lo hi : Option Int} (h : HT.sIx xs.length 0 lo = 0 ∧ HT.sIx xs.length xs.length hi = xs.length) : cutV xs lo hi = xs := by
  unfold cutV
  rw [h.1, h.2]
  show (xs.drop 0).take (xs.length - 0) = xs
  rw [List.drop_zero, Nat.sub_zero]
  exact List.take_length
section
variable {X : Cx} (K : PySem.W.Frag)
theorem op_catS (h : X.K = K := by rfl) : OpR X (binaryOp .Add) (rCatS K) := by
  subst h
  intro pins s σ H x y v u Q I rx ry h
  obtain ⟨a, b, xs, ys, rfl, rfl, ha, hb, hz, q⟩ := h
  refine op_catA pins s σ H _ _ v u Q I rx ry ⟨a, b, xs, ys, rfl, rfl, ha, hb, hz, fun z => ?_, fun _ z => ?_, fun _ _ p np => ?_⟩
  · subst z
    exact q b H (Same.refl H) hb
  · subst z
    refine q a H (Same.refl H) ?_
    rw [List.append_nil]
    exact ha
  · exact q p _ (same_new np) (SqT.of upd_same)
theorem sl_tupS (h : X.K = K := by rfl) : SlR X (rSlS K) := by
  subst h
  intro pins s σ H x v vl vu lo hi sl Q I rx hs pl pu h
  obtain ⟨a, xs, rfl, hx, q⟩ := h
  refine sl_tupA pins s σ H _ v vl vu lo hi sl Q I rx hs pl pu ⟨a, xs, rfl, hx, fun z => ?_, fun _ p np => ?_⟩
  · refine q a H (Same.refl H) ?_
    rw [cut_whole z]
    exact hx
  · exact q p _ (same_new np) (SqT.of upd_same)
end
theorem fm_congr {α β : Type} {f g : α → Option β} : ∀ l : List α, (∀ x ∈ l, f x = g x) → l.filterMap f = l.filterMap g
  | [], _ => rfl
  | x :: r, h => by
    have h1 := h x List.mem_cons_self
    have h2 := fm_congr r fun y hy => h y (List.mem_cons_of_mem _ hy)
    cases e : f x with
    | none => rw [List.filterMap_cons_none e, List.filterMap_cons_none (h1 ▸ e), h2]
    | some b => rw [List.filterMap_cons_some e, List.filterMap_cons_some (h1 ▸ e), h2]
theorem range_pick {α : Type} : ∀ (n : Nat) (ys : List α), ys.length = n → (List.range n).filterMap (fun m => ys[m]?) = ys
  | 0, ys, h => by
    rw [List.length_eq_zero_iff.mp h]
    rfl
  | n + 1, ys, h => by
    have hne : ys ≠ [] := fun z => by
      rw [z] at h
      cases h
    have hl : ys.dropLast.length = n := by
      rw [List.length_dropLast]
      omega
    have e : ys = ys.dropLast ++ [ys.getLast hne] := (List.dropLast_concat_getLast hne).symm
    rw [List.range_succ, List.filterMap_append]
    have e1 : (List.range n).filterMap (fun m => ys[m]?) = ys.dropLast := by
      have e3 : (List.range n).filterMap (fun m => ys[m]?) = (List.range n).filterMap (fun m => ys.dropLast[m]?) := by
        refine fm_congr _ fun m hm => ?_
        have hm' : m < ys.dropLast.length := by
          rw [hl]
          exact List.mem_range.mp hm
        have e4 : (ys.dropLast ++ [ys.getLast hne])[m]? = ys.dropLast[m]? := List.getElem?_append_left hm'
        rw [← e4, List.dropLast_concat_getLast hne]
      rw [e3]
      exact range_pick n ys.dropLast hl
    have e2 : [n].filterMap (fun m => ys[m]?) = [ys.getLast hne] := by
      have : ys[n]? = some (ys.getLast hne) := by
        rw [List.getLast_eq_getElem hne, ← List.getElem?_eq_getElem]
        congr 1
        omega
      rw [List.filterMap_cons_some this]
      rfl
    rw [e1, e2]
    exact e.symm
theorem pick_back (xs : Array Value) : ((List.range xs.size).filterMap fun (m : Nat) => xs[(((xs.size : Int) - 1) + (m : Int) * (-1)).toNat]?).toArray = xs.toList.reverse.toArray := by
  congr 1
  have h : xs.toList.reverse.length = xs.size := by
    rw [List.length_reverse, Array.length_toList]
  rw [← range_pick xs.size xs.toList.reverse h]
  refine fm_congr _ fun m hm => ?_
  have hm' : m < xs.size := List.mem_range.mp hm
  have e : (((xs.size : Int) - 1) + (m : Int) * (-1)).toNat = xs.size - 1 - m := by omega
  rw [e, List.getElem?_reverse (by rw [Array.length_toList]; exact hm'), Array.length_toList, Array.getElem?_toList]
section
variable {prog : Program} {w : World} {A : Around} {E : Value → Shared → Prop} {s : Shared}
theorem tuple_back {t sl : Addr} {items : Array Value} {vl vu vs : Value} {Q : Value → Shared → Prop} (ht : IsTup s.heap t items) (hs : s.heap.IsSliceOf sl vl vu vs) (pl : PySem.IsPart vl none) (pu : PySem.IsPart vu none) (ps : PySem.IsPart vs (some (-1)))
    (h : Q (.ref s.heap.objs.size) { s with heap := s.heap.push { cls := .type "tuple", data := .seq items.toList.reverse.toArray } })
    (hsz : items.size ≤ sizeLine) : wpAny (model prog w) A (getItem (.ref t) (.ref sl)) Q E s := by
  have hfit : sizeOk (.seq items.toList.reverse.toArray) := by
    show items.toList.reverse.toArray.size ≤ sizeLine
    rw [List.size_toArray, List.length_reverse, Array.length_toList]
    exact hsz
  obtain ⟨os, hos, hcs, hds⟩ := id hs
  have tys : s.TypeIs (.ref sl) "slice" := ⟨os, hos, hcs⟩
  unfold getItem
  try with_reducible refine wpAny_holding ?_
  first | refine wpAny_bind (wpAny_pure ?_) | skip
  refine wpAny_bind (wpAny_sequenceKey ht.typeIs (by decide) ?_)
  refine wpAny_bind (wpAny_callSpecial?_slot (name := Str.ofString "__getitem__") ht.typeIs PyProof.Rows.slot_tuple_getitem
    (wpAny_call_entry PyProof.Rows.slot_tuple_getitem ht.typeIs PyProof.Rows.entry_tuple_getitem ?_ (PyProof.Rows.args_tuple_getitem _ _)))
  show wpAny _ _ (Builtin.Tuple.tupleItemsOf (.ref t) >>= _) _ _ s
  refine wpAny_bind (PyProof.Rows.tupleItemsOf_ ht ?_)
  refine wpAny_bind (wpAny_typeOf tys ?_)
  rw [if_pos (by decide)]
  have look : ∀ {B : Around} {E : Value → Shared → Prop} {R : Int × Int × Nat → Shared → Prop}, R (((items.size : Int) - 1), -1, items.size) s → wpAny (model prog w) B (Builtin.Slice.sliceApplied (.ref sl) (pure (items.size : Int))) R E s := fun {B E R} hR => by
    unfold Builtin.Slice.sliceApplied Builtin.Slice.sliceFields
    refine wpAny_bind (wpAny_bind (wpAny_field hos hds (x := vl) rfl (wpAny_bind (wpAny_field hos hds (x := vu) rfl (wpAny_bind (wpAny_field hos hds (x := vs) rfl (wpAny_pure ?_)))))))
    refine wpAny_bind (HT.slicePart_ ps ?_)
    show wpAny _ _ (if ((-1 : Int) == 0) = true then _ else _) _ _ s
    rw [if_neg (by decide)]
    refine wpAny_bind (HT.slicePart_ pl (wpAny_bind (HT.slicePart_ pu (wpAny_bind (wpAny_pure ?_)))))
    show wpAny _ _ (pure (((items.size : Int) - 1), (-1 : Int), Builtin.Slice.slicePlaces ((items.size : Int) - 1) (-1) (-1))) _ _ s
    have e : Builtin.Slice.slicePlaces ((items.size : Int) - 1) (-1) (-1) = items.size := by
      unfold Builtin.Slice.slicePlaces
      rw [if_neg (by decide)]
      by_cases c : ((items.size : Int) - 1) > -1
      · rw [if_pos c, show -(-1 : Int) = 1 from rfl, Int.ediv_one]
        omega
      · rw [if_neg c]
        omega
    rw [e]
    exact wpAny_pure hR
  refine wpAny_bind (look ?_)
  have no : ¬ ((((items.size : Int) - 1) == 0 && (-1 : Int) == 1 && items.size == items.size) = true) := by
    intro z
    rw [Bool.and_eq_true, Bool.and_eq_true] at z
    exact absurd z.1.2 (by decide)
  show wpAny _ _ (if (((items.size : Int) - 1) == 0 && (-1 : Int) == 1 && items.size == items.size) = true then _ else _) _ _ s
  rw [if_neg no, pick_back]
  first
    | exact wpAny_bind (m := Builtin.Tuple.tupleExact _) (wpAny_newObj_type (wpAny_pure ⟨_, rfl, wpAny_pure h⟩) hfit)
    | exact wpAny_bind (m := Builtin.Tuple.tupleExact _) (wpAny_newObj_type (wpAny_bind (wpAny_pure (wpAny_pure ⟨_, rfl, wpAny_pure h⟩))) hfit)
    | exact wpAny_bind (wpAny_bind (m := Builtin.Tuple.tupleExact _) (wpAny_newObj_type (wpAny_pure (wpAny_pure ⟨_, rfl, wpAny_pure h⟩)) hfit))
    | exact wpAny_bind (wpAny_bind (m := Builtin.Tuple.tupleExact _) (wpAny_newObj_type (wpAny_pure ⟨_, rfl, wpAny_pure h⟩) hfit))
end
/-! ### t[::-1] -/
def tRevT (K : PySem.W.Frag) (te : TE) : TE := fun σ H Q => te σ H fun x H1 => ∃ a xs, x = .ref a ∧ SqT K H1 a xs ∧ ∀ p, H1 p = none → Q (.ref p) (upd H1 p (.tup xs.reverse))
theorem pe_revT {X : Cx} {e : Expr} {te : TE} {k : Nat} {p1 p2 p3 pos : Pos} (he : PE X e te) : PE X (.Subscript e (.Slice none none (some (.UnaryOp .USub (.Constant (.int 1) k p1) p2)) p3) pos) (tRevT X.K te) := by
  refine ⟨fun pins s σ H Q I h => ?_⟩
  refine Subscript_ (thn (he.run pins s σ H _ I h) fun v s1 z1 => ?_)
  obtain ⟨x, H1, I1, r1, a, xs, ex, hx, q⟩ := z1
  subst ex
  cases r1
  have hst : PO X (some (.UnaryOp .USub (.Constant (.int 1) k p1) p2)) (tPart (tUn (rU fun i => .int (-i)) (tC (.int 1)))) := po_some (pe_un un_neg pe_int)
  refine wpAny_Slice (thn (po_none.run pins s1 σ H1 (fun o H2 => o = none ∧ H2 = H1) I1 ⟨rfl, rfl⟩) fun vl s2 z2 => ?_)
  obtain ⟨l, H2, I2, pl, rfl, rfl⟩ := z2
  refine thn (po_none.run pins s2 σ H2 (fun o H3 => o = none ∧ H3 = H2) I2 ⟨rfl, rfl⟩) fun vu s3 z3 => ?_
  obtain ⟨u, H3, I3, pu, rfl, rfl⟩ := z3
  refine thn (hst.run pins s3 σ H3 (fun o H4 => o = some (-1) ∧ H4 = H3) I3 ⟨1, rfl, -1, rfl, rfl, rfl⟩) fun vs s4 z4 => ?_
  obtain ⟨o, H4, I4, ps, rfl, rfl⟩ := z4
  have I5 : Inv X pins σ H4 { s4 with heap := s4.heap.push { cls := .type "slice", data := .fields #[vl, vu, vs] } } := I4.kept (t' := s4.toks) fun b ob z => Heap.get?_push_of_some _ z
  obtain ⟨its, r, ht, hz⟩ := I5.tuple hx
  show wpAny (model X.prog X.w) X.A (subscriptTail e (.Slice none none (some (.UnaryOp .USub (.Constant (.int 1) k p1) p2)) p3) (.ref a) (.ref s4.heap.objs.size)) (EP X pins σ Q) X.xe _
  refine tail_any (ops := [.ref a, .ref s4.heap.objs.size]) ht.typeIs (PyProof.Rows.slot_tuple_getitem.lookup) ?_ (by with_unfolding_all rfl)
  refine tuple_back ht (Heap.IsSliceOf.new _ vl vu vs) pl pu ps ?_ (by rw [List.size_toArray, ← r.length]; exact hz)
  refine ⟨.ref _, _, I5.laid (t' := s4.toks) (o := .tup xs.reverse) (fun b ob z => Heap.get?_push_of_some _ z) (Nat.le_refl _) ?_, rfl, q _ (I5.hok.fresh (Nat.le_refl _))⟩
  exact ⟨by rw [List.length_reverse]; exact hz, _, r.reverse, IsTup.new _ _⟩
end Ef
namespace Ef
open PySem PySem.Spec PyProof.Rows L2
/-! ### values of all sorts -/
mutual
theorem Dp.mono {K : PySem.W.Frag} {H H' : Hp} (s : Same H H') : ∀ {v : V} {d : PyData}, Dp K H v d → Dp K H' v d
  | _, _, .non => .non
  | _, _, .bl b => .bl b
  | _, _, .int i => .int i
  | _, _, .str x => .str x
  | _, _, .lst h t => .lst (s.seq h) (DpAll.mono s t)
  | _, _, .tup h t => .tup (Same.seqT s h) (DpAll.mono s t)
theorem DpAll.mono {K : PySem.W.Frag} {H H' : Hp} (s : Same H H') : ∀ {vs : List V} {ds : List PyData}, DpAll K H vs ds → DpAll K H' vs ds
  | _, _, .nil => .nil
  | _, _, .cons h t => .cons (Dp.mono s h) (DpAll.mono s t)
end
theorem DpAll.app {K : PySem.W.Frag} {H : Hp} : ∀ {xs ys : List V} {ds es : List PyData}, DpAll K H xs ds → DpAll K H ys es → DpAll K H (xs ++ ys) (ds ++ es)
  | _, _, _, _, .nil, t => t
  | _, _, _, _, .cons h r, t => .cons h (DpAll.app r t)
theorem dpAll_at {K : PySem.W.Frag} {H : Hp} : ∀ {xs : List V} {ds : List PyData}, DpAll K H xs ds → ∀ {i : Nat} {x : V}, xs[i]? = some x → ∃ d, ds[i]? = some d ∧ Dp K H x d
  | _, _, .nil, _, _, h => by cases h
  | _, _, .cons h _, 0, x, e => ⟨_, rfl, by rw [← Option.some.inj e]; exact h⟩
  | _, _, .cons _ t, i + 1, x, e => by
    rw [List.getElem?_cons_succ] at e ⊢
    exact dpAll_at t e
theorem dpAll_len {K : PySem.W.Frag} {H : Hp} : ∀ {xs : List V} {ds : List PyData}, DpAll K H xs ds → ds.length = xs.length
  | _, _, .nil => rfl
  | _, _, .cons _ t => congrArg (· + 1) (dpAll_len t)
theorem ShAll.app {dp w1 w2 : Nat} : ∀ {ds es : List PyData}, ShAll dp w1 ds → ShAll dp w2 es → ShAll dp (w1 + w2) (ds ++ es)
  | [], es, _, t => t.mono (Nat.le_refl _) (by omega)
  | d :: r, es, h, t => by
    have hc : (d.canLay0 && PyData.canLayAll0 r) = true := h.can
    have hs : (d.showable && PyData.showableAll r) = true := h.shw
    have hl : (d.leavesShort 200 && PyData.leavesShortAll 200 r) = true := h.lvs
    have hw : d.weight + 1 + PyData.weightAll r ≤ w1 := h.wgt
    have hd : max d.depth (PyData.depthAll r) ≤ dp := h.dep
    rw [Bool.and_eq_true] at hc hs hl
    rw [Nat.max_le] at hd
    have h1 : Sh dp d.weight d := ⟨hc.1, hd.1, hs.1, hl.1, Nat.le_refl _⟩
    have h2 : ShAll dp (PyData.weightAll r) r := ⟨hc.2, hd.2, hs.2, hl.2, Nat.le_refl _⟩
    exact (ShAll.cons h1 (ShAll.app h2 t)).mono (Nat.le_refl _) (by omega)
/-- all but what stands at p -/
def hide (p : Addr) (H : Hp) : Hp := fun b => if b = p then none else H b
theorem hide_ne {p b : Addr} {H : Hp} (n : b ≠ p) : hide p H b = H b := if_neg n
theorem hide_same (p : Addr) (H : Hp) : Same (hide p H) H := fun b o e => by
  by_cases c : b = p
  · unfold hide at e
    rw [if_pos c] at e
    cases e
  · rw [hide_ne c] at e
    exact e
theorem But.hide {p : Addr} {H H' : Hp} (s : But p H H') : Same (Ef.hide p H) (Ef.hide p H') := fun b o e => by
  by_cases c : b = p
  · unfold Ef.hide at e
    rw [if_pos c] at e
    cases e
  · rw [hide_ne c] at e ⊢
    exact s b o c e
theorem hide_lst {K : PySem.W.Frag} {p a : Addr} {H : Hp} {xs : List V} (n : a ≠ p) (h : H a = some (.lst xs)) : SqL K (hide p H) a xs := SqL.of (by rw [hide_ne n]; exact h)
theorem hide_tup {K : PySem.W.Frag} {p a : Addr} {H : Hp} {xs ys : List V} (hp : H p = some (.lst ys)) (h : SqT K H a xs) : SqT K (hide p H) a xs := by
  rcases h with (h | ⟨o, h⟩) | h
  · have n : a ≠ p := fun z => by
      rw [z, hp] at h
      cases h
    exact .inl (.inl (by rw [hide_ne n]; exact h))
  · have n : a ≠ p := fun z => by
      rw [z, hp] at h
      cases h
    exact .inl (.inr ⟨o, by rw [hide_ne n]; exact h⟩)
  · exact .inr h
/-- data, or an empty dict -/
def ItemV (K : PySem.W.Frag) (H : Hp) (v : V) (d : PyData) : Prop := (Dp K H v d ∧ Sh 60 80000 d) ∨ (d = .dict [] ∧ ∃ p, v = .ref p ∧ H p = some (.dK []))
theorem ItemV.mono {K : PySem.W.Frag} {H H' : Hp} {v : V} {d : PyData} (s : Same H H') (h : ItemV K H v d) : ItemV K H' v d := by
  rcases h with ⟨h, h2⟩ | ⟨e, p, e2, h⟩
  · exact .inl ⟨Dp.mono s h, h2⟩
  · exact .inr ⟨e, p, e2, s _ _ h⟩
def tyN : PyData → String
  | .none => "NoneType"
  | .bool _ => "bool"
  | .int _ => "int"
  | .str _ => "str"
  | .list _ => "list"
  | .tuple _ => "tuple"
  | .dict _ => "dict"
theorem Dp.ty {K : PySem.W.Frag} {H : Hp} {v : V} {d : PyData} (h : Dp K H v d) : TyX K H v (.type (tyN d)) := by
  cases h with
  | non => exact .base .non
  | bl b => exact .base (.bl b)
  | int i => exact .base (.int i)
  | str x => exact .base (.str x)
  | lst h _ =>
    rcases h with (h | ⟨o, h⟩) | ⟨o, its, n, h1, h2, _⟩
    · exact .base (.lst h)
    · exact .base (.frz h)
    · exact .kList h1 h2
  | tup h _ =>
    rcases h with (h | ⟨o, h⟩) | ⟨o, its, n, h1, h2, _⟩
    · exact .base (.tup h)
    · exact .fTuple h
    · exact .kTuple h1 h2
theorem ItemV.ty {K : PySem.W.Frag} {H : Hp} {v : V} {d : PyData} (h : ItemV K H v d) : TyX K H v (.type (tyN d)) := by
  rcases h with ⟨h, _⟩ | ⟨rfl, p, rfl, h⟩
  · exact Ef.Dp.ty h
  · exact .base (.dK h)
section
variable {X : Cx} (K : PySem.W.Frag)
def rReprI (K : PySem.W.Frag) : List V → Hp → VK → Prop := fun xs H Q => ∃ v d, xs = [v] ∧ ItemV K H v d ∧ Q (.str d.shown) H
theorem call_reprI (gd : X.A.guards = some []) (hu : X.A.units + 66 < cLine) (h : X.K = K := by rfl) : CallR X (.builtin "repr") (rReprI K) := by
  subst h
  intro pins s σ H xs us Q I r h
  obtain ⟨v, d, rfl, hI, q⟩ := h
  rcases hI with ⟨hD, hS⟩ | ⟨rfl, p, rfl, hp⟩
  · exact call_reprD gd hu pins s σ H _ us Q I r ⟨v, d, rfl, hD, hS, q⟩
  · obtain ⟨u, rfl, ru⟩ := vals1 r
    obtain rfl : u = Value.ref p := ru
    obtain ⟨_, hsys, vs, kv, o, es, ep, ho, hx, hd, hk, hpr, hn⟩ := dk_of I.hok hp
    have e1 : vs = [] := by
      cases kv
      rfl
    subst e1
    have e2 : es.toList = [] := by
      generalize es.toList = l at hpr ⊢
      cases hpr
      rfl
    have dep : PyData.depth (.dict []) ≤ 2 := by decide
    have rd : Reads s.heap (.ref p) (.dict []) (p :: [] ++ []) := by
      refine .dict ho hx.1 hd ?_ ?_
      · rw [e2]
        exact .nil
      · rw [e2]
        exact .nil
    refine repr_of_reads' rd rfl (fun _ hm => ?_) gd (by omega) (fun _ _ e => e) (fun h' u tk hk => ?_) (by decide +kernel)
    · have e3 : sysModules = p := by simpa using hm
      rw [← e3] at hsys
      exact absurd hsys (by simp)
    · exact ⟨.str _, H, I.kept hk, ⟨u, rfl⟩, q⟩
end
end Ef
set_option maxHeartbeats 4000000
namespace Ef
open PySem PySem.Spec PyProof.Rows L2
/-! ### sum of a list, of a tuple of whole numbers -/
theorem cr_sumK {X : Cx} (K : PySem.W.Frag) (hc : X.calm = true := by rfl) (h : X.K = K := by rfl) : CallR X (.builtin "sum") (rSum K) := by
  subst h
  exact cr_sum hc
def rSumT (K : PySem.W.Frag) : List V → Hp → VK → Prop := fun vs H Q => ∃ (a : Addr) (ns : List Int), vs = [V.ref a] ∧ SqT K H a (ns.map V.int) ∧ Q (.int ns.sum) H
theorem cr_sumT {X : Cx} (K : PySem.W.Frag) (hc : X.calm = true := by rfl) (h : X.K = K := by rfl) : CallR X (.builtin "sum") (rSumT K) := by
  subst h
  intro pins s σ H vs us Q I r h
  obtain ⟨a, ns, rfl, hs, q⟩ := h
  obtain ⟨its, rv, hl, _⟩ := I.tuple hs
  rw [Vals.ref1 r]
  have hi := rv.ints
  obtain ⟨xs, hx⟩ := hi.allInts.items
  have hn : numsOf its.toArray.toList = ns := by rw [show its.toArray.toList = its from rfl, hi.numsOf]
  rw [hx] at hl hn
  rw [nums_intItems] at hn
  refine PySem.W.ktm_sumG (I.ok.hd hc) hl fun h' tk t' hk => ?_
  rw [preSum_eq, List.take_of_length_le (by simp), hn]
  exact ⟨.int _, H, I.kept hk, ⟨_, rfl⟩, q⟩
end Ef
set_option maxHeartbeats 4000000
namespace Ef
open PySem PySem.Spec PyProof.Rows L2
/-! ### Base.__init__(self, ..) where Base is an own class without an __init__ of its own -/
section
variable {X : Cx} {e : Expr} {es : List Expr} {ta : TA} {x : Str} {p1 p2 pos : Pos} {B : Addr}
theorem pe_baseInit {pl : Sem Bool} (hg : Gl X x) (hm : X.mg x = some (.ref B))
    (h1 : PySem.W.specialIn X.K (.ref B) "__getattribute__" = some (some (.builtin "type.__getattribute__")))
    (h2 : PySem.W.typeIn X.K (.ref B) = some (.type "type")) (h3 : PySem.W.readsIn X.K B (.type "type") = true)
    (h4 : PySem.W.findCls X.K (.ref B) (.type "type") "__init__" = some (.val (.builtin "ValueError.__init__"))) (ha : PA X (e :: es) ta)
    (a1 : eval (.Call (.Attribute (.Name x p1) "__init__" p2) (e :: es) [] pos) X.env = (do
      let bv ← eval (.Name x p1) X.env
      standAt p2.atName
      let (g, first) ← holding [bv] (getMethod bv "__init__" pl)
      callWith pos g first (backTo pos (starEach (e :: es) X.env)) (backToKw pos (keywordEach [] X.env))) := by rfl)
    (a2 : starEach (e :: es) X.env = (false, eval e X.env) :: starEach es X.env := by rfl)
    (a3 : (backTo pos (starEach es X.env)).any (fun z => z.1) = false := by rfl) (a4 : (x == ("__debug__" : Str)) = false := by decide) :
    PE X (.Call (.Attribute (.Name x p1) "__init__" p2) (e :: es) [] pos) (tVeI X.K ta) := by
  refine ⟨fun pins s σ H Q I h => ?_⟩
  refine PySem.W.methodCall_KW (ld_glob I hg hm ?_ a4) a1
  obtain ⟨m, fr⟩ := I.fr
  refine PySem.W.method_of_cls fr I.ok.mod.kin h1 ?_
  refine PySem.W.cls_val fr I.ok.mod.kin h2 h3 h4 (by decide +kernel) ?_
  show wpAny _ _ (callWith pos (Value.builtin "ValueError.__init__") [] (backTo pos (starEach (e :: es) X.env)) []) _ _ _
  refine PyProof.Rows.callWith_method1 (thn (ha.run pos pins _ σ H _ (I.tok _) h) fun us s1 got => ?_) a2 a3
  obtain ⟨vs, H1, I1, r1, a, C, ws, rfl, hl, T, ea, q⟩ := got
  cases r1 with
  | @cons _ u0 _ ur ra rest =>
    obtain rfl : u0 = Value.ref a := ra
    refine oinit_ok T I1 ea ?_ fun s' J => ⟨.non, H1, J, rfl, q⟩
    have hl2 := Paired.length rest
    rw [sizeLine_eq]
    omega
end
/-! ### an exception that is kept as a value -/
/-- at a: an exception of the class cls, its dict at d -/
def exk (a : Addr) (cls : Value) (d : Option Addr) : HO := .ext fun h => ∃ oe vs, h.get? a = some oe ∧ oe.cls = cls ∧ oe.dict = d ∧ oe.data = .fields vs
theorem exk_ok {P : Program} {w : World} {H : Hp} {h : Heap} {a : Addr} {cls : Value} {d : Option Addr} {oe : Obj} {vs : Array Value} (he : h.get? a = some oe) (hc : oe.cls = cls) (hd : oe.dict = d) (hv : oe.data = .fields vs) : ObjOk P w H h a (exk a cls d) :=
  ⟨⟨oe, vs, he, hc, hd, hv⟩, ⟨oe, he⟩, fun h1 h2 z k => by
    obtain ⟨o, v, z1, z2⟩ := z
    exact ⟨o, v, k _ z1, z2⟩⟩
theorem exk_at {P : Program} {w : World} {H : Hp} {h : Heap} {a : Addr} {cls : Value} {d : Option Addr} (hok : HOk P w H h) (e : H a = some (exk a cls d)) : ∃ oe vs, h.get? a = some oe ∧ oe.cls = cls ∧ oe.dict = d ∧ oe.data = .fields vs := by
  have z : ObjOk P w H h a (.ext fun h => ∃ oe vs, h.get? a = some oe ∧ oe.cls = cls ∧ oe.dict = d ∧ oe.data = .fields vs) := hok a _ e
  exact z.1
theorem Inv_track {X : Cx} {pins : List (Addr × Obj)} {σ : L2.St} {H : Hp} {s : Shared} {a : Addr} {oe : Obj} {vs : Array Value} {cls : Value} {d : Option Addr} (I : L2.Inv X ((a, oe) :: pins) σ H s)
    (hc : oe.cls = cls) (hd : oe.dict = d) (hv : oe.data = .fields vs) (new : X.s_0.heap.get? a = none) (hp : ∀ p ∈ X.pn ++ pins, p.1 ≠ a) : L2.Inv X pins σ (upd H a (exk a cls d)) s := by
  obtain ⟨ha, na, nL, nF, nc⟩ := I.pin (a, oe) (List.mem_append_right _ List.mem_cons_self)
  have kp : ∀ {b : Addr} {u : HO}, H b = some u → upd H a (exk a cls d) b = some u := fun {b u} z => by
    rw [upd_ne (ne_of_none z na)]
    exact z
  refine ⟨I.ok, I.os, I.bare, ⟨I.base.keep, I.base.slot, fun b o z n hx => ?_, I.base.there, fun b xs z => kp (I.base.tups b xs z), fun b o u z => kp (I.base.frzs b o u z), fun b ps z => ?_⟩, I.loc, I.cell, ?_, fun y c z => ?_, fun p q => ?_, fun b o z => ?_, I.len⟩
  · rw [upd_ne (fun y => by rw [y, new] at z; cases z)]
    exact I.base.free b o z n hx
  · obtain ⟨more, z2⟩ := I.base.tbls b ps z
    exact ⟨more, kp z2⟩
  · rw [upd_ne nL.symm]
    exact I.free
  · have nca : c ≠ a := fun y2 => by
      obtain ⟨v, oc, z3, z4⟩ := I.cell y c z
      rw [y2, ha] at z3
      obtain rfl := Option.some.inj z3
      first
        | exact nc _ z4
        | exact nc _ z4.2
        | exact nc _ z4.1
    rw [upd_ne nca]
    exact I.freeC y c z
  · obtain ⟨z1, z2, z3, z4, z5⟩ := I.pin p (by
      rcases List.mem_append.mp q with q | q
      · exact List.mem_append_left _ q
      · exact List.mem_append_right _ (List.mem_cons_of_mem _ q))
    exact ⟨z1, by rw [upd_ne (hp p q)]; exact z2, z3, z4, z5⟩
  · by_cases hb : b = a
    · subst hb
      rw [upd_same] at z
      obtain rfl := Option.some.inj z
      exact exk_ok ha hc hd hv
    · rw [upd_ne hb] at z
      exact (I.hok b o z).stay (fun _ _ _ y => y) (fun c y => kp y) fun c xs y => kp y
/-- what 'except x as n: suite' wishes of an exception of the body, the exception being kept: slot i is n's -/
def wKeep (K : PySem.W.Frag) (c : Value) (i : Nat) (ts : Addr → Value → Option Addr → TS) (Wout : WX) (D : Ends) : WX := fun cls d σ H =>
  ∃ b, PySem.W.exmOne K cls c = some b ∧ (b = true → ∀ a, H a = none → ts a cls d { nx := fun σ' H' => D.nx (σ'.set i none) (upd H' a (exk a cls d)), rt := fun _ _ => False } (σ.set i (some (.ref a))) H) ∧
    (b = false → Wout cls d σ H)
section
variable {X : Cx} {x n : Str} {c : Value} {i : Nat} {body suite : List Stmt} {b₀ : Stmt} {np pos pos' : Pos} {tb : WX → TS} {ts : Addr → Value → Option Addr → TS} {Wout : WX}
theorem ps_try_keep (stk : X.stack = X.env :: X.outer) (frm : X.env.frame = some X.env.locals) (hex : X.ex = []) (hN : X.N.Nodup) (hi : X.N[i]? = some n) (hln : X.env.kindOf n = some .local) (nm : Names X x c) (tk : Takes X Wout)
    (hb : ∀ (W : WX) (pn : List (Addr × Obj)) (xe : Value → Shared → Prop), Takes (X.tr pn xe) W → PassesOwn (model X.prog X.w) X.A X.env xe → PSs (X.tr pn xe) body (tb W))
    (hsu : ∀ (a : Addr) (oe : Obj) (cls : Value) (d : Option Addr) (pn : List (Addr × Obj)), Zc cls d oe → (∃ vs, oe.data = .fields vs) → PSs (X.suite a ((a, oe) :: pn)) (b₀ :: suite) (ts a cls d)) :
    PS X (.Try body [.ExceptHandler (some (.Name x np)) (some n) (b₀ :: suite) pos'] [] [] pos) (fun D σ H => tb (wKeep X.K c i ts Wout D) D σ H) := by
  refine ⟨fun pins s σ H D I wish => ?_⟩
  have okX := I.ok
  have frs1 : X.A.frames = some (X.env :: X.outer) := by rw [okX.frames, stk]
  refine wpAny_Try_except ?_
  refine wpAny_mono ((hb (wKeep X.K c i ts Wout D) (X.pn ++ pins) (fun z s₁ => wpAny (model X.prog X.w) X.A (noteFrame z X.env) (fun _ s₂ => wpAny (model X.prog X.w) X.A (setFlight z none) (fun _ s₃ =>
    wpAny (model X.prog X.w) X.A (handleBy z X.env [.ExceptHandler (some (.Name x np)) (some n) (b₀ :: suite) pos']) (SP X pins D) X.xe s₃) X.xe s₂) X.xe s₁) (fun u s' air => ?_) PassesOwn.looking).run [] s σ H D (I.toTry _) wish) (fun fl s1 got => ?_) (fun z s1 got => got)
  · obtain ⟨a, B, sI, pins', σ', H', cls, d, rfl, J', nb, up, sky, na, os, ag, b, hb1, hyes, hno⟩ := air
    have J : L2.Inv X pins σ' H' sI := J'.ofTry okX
    have sky1 : Sky B (X.env :: X.outer) a (Zc cls d) X.env.locals s'.heap := by rw [← stk]; exact sky
    show wpAny (model X.prog X.w) X.A (noteFrame (.ref a) X.env) _ _ _
    refine Sky.land Zc.steady frs1 frm sky1 fun h3 fl3 up3 => ?_
    have J3 : L2.Inv X pins σ' H' { s' with heap := h3 } := J.landed nb fl3.1 (up.trans up3) os ag
    obtain ⟨oe3, vs3, he3, hz3, hd3⟩ := fl3.there
    have nfr : a ∉ frs (X.env :: X.outer) := fun hm => by
      obtain ⟨_, o', e', hnf⟩ := fl3.2.2.1.mem hm
      rw [he3] at e'
      cases e'
      exact hnf _ hd3
    have nL : a ≠ X.env.locals := fun z => nfr (List.mem_filterMap.mpr ⟨X.env, List.mem_cons_self, by rw [frm, z]⟩)
    have nF : a ∉ X.fs := fun hm => by
      obtain ⟨en, hen, y⟩ := List.mem_filterMap.mp hm
      exact nfr (List.mem_filterMap.mpr ⟨en, List.mem_cons_of_mem _ hen, y⟩)
    have newI : ∀ o, sI.heap.get? a = some o → False := fun o y => by
      have y2 := nb a o y (by rw [stk]; exact nfr)
      rw [fl3.2.1] at y2
      cases y2
    have new0 : X.s_0.heap.get? a = none := by
      cases y : X.s_0.heap.get? a with
      | none => rfl
      | some o =>
        obtain ⟨o', y2⟩ := J.base.there a o y (by rw [hex]; exact List.not_mem_nil)
        exact (newI o' y2).elim
    have apart : ∀ p ∈ X.pn ++ pins, p.1 ≠ a := fun p hp y => newI p.2 (by rw [← y]; exact (J.pin p hp).1)
    have S3 := J3.suite he3 hd3 na nL nF
    refine wpAny_handleBy_cons (codeAny_handlers_test ?_) (by intro y; cases y)
    have LT : PySem.W.Looks (model X.prog X.w) h3 (typeOf (.ref a)) cls := fun A Q E s k y => wpAny_typeOf_ref (k _ _ he3) (by rw [hz3.1]; exact y)
    have LM := PySem.W.exm_one (M := model X.prog X.w) (J3.kIn) LT hb1
    have asked : ∀ {Q : Value → Shared → Prop} {E : Value → Shared → Prop}, Q c { s' with heap := h3 } → wpAny (model X.prog X.w) (X.A.mark (some (.ref a))) (eval (.Name x np) X.env) Q E { s' with heap := h3 } := fun {Q E} y => by
      obtain ⟨hg, hdbg, hm | ⟨hm, hv, hnn⟩⟩ := nm
      · exact ld_glob (X := X.suite a ((a, oe3) :: (X.pn ++ pins))) S3 hg hm y hdbg
      · exact ld_blt (X := X.suite a ((a, oe3) :: (X.pn ++ pins))) S3 hg hm hv y hnn hdbg
    refine asked (LM.here ?_)
    cases b with
    | true =>
      refine codeAny_handlers_suite_as ?_
      refine HandSPX.lands_againZ fl3 fun h4 fl4 up4 => ?_
      have J4 : L2.Inv X pins σ' H' { s' with heap := h4 } := J.landed nb fl4.1 ((up.trans up3).trans up4) os ag
      obtain ⟨oe4, vs4, he4, hz4, hd4⟩ := fl4.there
      have S4 := J4.suite he4 hd4 na nL nF
      refine store_ok (X := X.suite a ((a, oe4) :: (X.pn ++ pins))) (v := .ref a) S4 hN hi (.inl hln) rfl (fun s5 S5 => ?_) (.inr hln)
      refine wpAny_mono ((hsu a oe4 cls d (X.pn ++ pins) hz4 ⟨_, hd4⟩).run [] s5 _ H' _ S5 (hyes rfl a na)) (fun fl s6 got => ?_) (fun _ _ y => False.elim y)
      cases fl with
      | next =>
        obtain ⟨σ6, H6, S6, q6⟩ := got
        have P6 := S6.pin (a, oe4) (List.mem_append_left _ List.mem_cons_self)
        have J6 : L2.Inv X ((a, oe4) :: pins) σ6 H6 s6 := (S6.unsuite okX).pins_of fun p hp => by
          rcases List.mem_cons.mp hp with rfl | hp
          · exact P6
          · exact (S6.unsuite okX).pin p (List.mem_append_right _ hp)
        exact gone_ok J6 hN hi hln fun s7 J7 => ⟨_, _, Inv_track J7 hz4.1 hz4.2 hd4 new0 apart, q6⟩
      | brk =>
        obtain ⟨σ6, H6, S6, q6⟩ := got
        exact q6.elim
      | cont =>
        obtain ⟨σ6, H6, S6, q6⟩ := got
        exact q6.elim
      | ret u =>
        obtain ⟨v6, σ6, H6, S6, r6, q6⟩ := got
        exact q6.elim
    | false =>
      show wpAny _ X.A (handleBy (.ref a) X.env []) _ _ _
      refine wpAny_handleBy_nil ?_
      obtain ⟨k1, k2, k3, oe, vs, T, oT, ts', he, hz, hd, h1, hr⟩ := id fl3
      unfold PySem.passOn
      refine wpAny_bind (wpAny_field he hd h1 ?_)
      rw [if_neg (show ¬ ((Value.ref T == Value.none) = true) from by simp)]
      have fin : wpAny (model X.prog X.w) X.A (setFlight (.ref a) X.env.frame) (fun _ s4 => wpAny (model X.prog X.w) X.A (throw (.ref a) : Sem Flow) (SP X pins D) X.xe s4) X.xe { s' with heap := h3 } := by
        rw [frm]
        refine HandSPX.setFlight_upZ fl3 fun h4 hh4 up4 => wpAny_throw (tk _ _ ?_)
        exact ⟨a, B, sI, pins, σ', H', cls, d, rfl, J, nb, (up.trans up3).trans up4, .inr (.inr (by rw [stk]; exact hh4)), na, os, ag, hno rfl⟩
      first
        | exact wpAny_bind (wpAny_pure (wpAny_bind fin))
        | exact wpAny_bind fin
  · cases fl with
    | next =>
      obtain ⟨σ', H', J', q⟩ := got
      exact wpAny_execs_nil ⟨σ', H', J'.ofTry okX, q⟩
    | brk =>
      obtain ⟨σ', H', J', q⟩ := got
      exact ⟨σ', H', J'.ofTry okX, q⟩
    | cont =>
      obtain ⟨σ', H', J', q⟩ := got
      exact ⟨σ', H', J'.ofTry okX, q⟩
    | ret u =>
      obtain ⟨v, σ', H', J', r, q⟩ := got
      exact ⟨v, σ', H', J'.ofTry okX, r, q⟩
end
theorem takesF {X : Cx} : Takes X (fun _ _ _ _ => False) := fun _ _ x => by
  obtain ⟨_, _, _, _, _, _, _, _, _, _, _, _, _, _, _, _, z⟩ := x
  exact z.elim
theorem passF {X : Cx} : Passes (L2.CX X.prog X.w) X (fun _ _ _ => False) := fun _ _ _ _ _ _ _ x => by
  obtain ⟨_, _, _, _, _, _, _, _, _, _, _, _, z⟩ := x
  exact z.elim
/-! ### what is asked of an exception that was kept -/
section
open PySem.W PySem.Calls
variable {prog : Program} {w : World} {A : Around} {E : Value → Shared → Prop} {s : Shared} {K : PySem.W.Frag} {y D : Addr} {oy : Obj} {od : Option Obj}
theorem class_of_exc {Q : Option Value → Shared → Prop} (T : ExcC K D) (kin : K.In s.heap) (I : InstAt s.heap y oy D od) (hod : od.isSome = true) (h : Q (some (.ref D)) { s with toks := s.toks + 1 }) :
    wpAny (model prog w) A (getAttr? (.ref y) "__class__") Q E s := by
  obtain ⟨oo, rfl⟩ := Option.isSome_iff_exists.mp hod
  have ff : findObj K D (some oo) "__class__" = some (.bind (.builtin "getset_descriptor.__get__") (.builtin "object.__class__")) := findObj_data (by obtain ⟨cd, hc, _⟩ := any_some T.hd; rw [hc]; rfl) T.ha T.hn T.ht
  obtain ⟨hp, g, d, t, os⟩ := s
  have T0 := I.type (M := model prog w)
  have T1 := looks_findIn (M := model prog w) kin T.hg
  have T2 := looks_findIn (M := model prog w) kin T.hk
  have T3 := looks_find (M := model prog w) kin I ff
  have inB : Looks (model prog w) hp (isInstance (.ref y) (.type "BaseException")) true := T0.andThen (looks_subIn kin T.hs)
  have b0 : (false && onTheHeap (Value.builtin "BaseException.__getattribute__")) = false := rfl
  have b2 : (Value.builtin "BaseException.__getattribute__" == Value.builtin "object.__getattribute__") = false := by decide +kernel
  have b1 : (onTheHeap (Value.ref D) && Value.builtin "BaseException.__getattribute__" == Value.builtin "object.__getattribute__") = false := by rw [b2]; rfl
  unfold getAttr? getAttrBy? getAttrBy
  refine wpAny_bind (wpAny_mkText (wpAny_bind (wpAny_attempt (wpAny_holding (wpAny_bind (T0.at (wpAny_bind (T1.at ?_))))))))
  show wpAny _ _ (if (onTheHeap (Value.ref D) && Value.builtin "BaseException.__getattribute__" == Value.builtin "object.__getattribute__") = true then _ else _) _ _ ⟨hp, g, d, t + 1, os⟩
  rw [b1, if_neg Bool.false_ne_true]
  unfold getAttrByItsOwn hookBefore
  refine wpAny_bind ?_
  rw [if_pos (show onTheHeap (Value.ref D) = true from rfl)]
  refine T2.at ?_
  refine wpAny_bind (wpAny_attempt (wpAny_holding ?_))
  unfold callGetattribute
  rw [b0, if_neg Bool.false_ne_true]
  unfold boundAndCalled
  rw [PySem.F.excAttr_ValueError.ga.bind (.ref y)]
  refine wpAny_bind (wpAny_pure ?_)
  show wpAny _ _ (call (.builtin "BaseException.__getattribute__") [.ref y, .str "__class__" t]) _ _ _
  refine wpAny_call (codeAny_call_builtin PySem.F.excAttr_ValueError.ga.plain PySem.F.entry_bexc_ga ?_)
  refine @check_slot (model prog w) _ _ ⟨hp, g, d, t + 1, os⟩ "BaseException.__getattribute__" "BaseException" "__getattribute__" (.ref y) [.str "__class__" t] [] _ (by decide +kernel) (by decide +kernel) inB (PySem.F.args_bexc_ga (.ref y) (.str "__class__" t)) ?_
  unfold Builtin.«object.__getattribute__»
  refine wpAny_bind (wpAny_of_eq (a := ((Value.ref y : Value), [Value.str "__class__" t])) (by first | rfl | (simp only [slotArgs]; rfl)) ?_)
  refine wpAny_bind (wpAny_pure (wpAny_bind (T0.at (wpAny_bind (T3.at ?_)))))
  show wpAny _ _ (holding [Value.builtin "object.__class__"] (call (.builtin "getset_descriptor.__get__") [.builtin "object.__class__", .ref y, .ref D]) >>= ret) _ _ ⟨hp, g, d, t + 1, os⟩
  refine wpAny_bind (wpAny_holding (wpAny_call (class_get (s := ⟨hp, g, d, t + 1, os⟩) (ox := oy) (od := some oo) kin I T.hm ?_)))
  refine wpAny_pure ?_
  show wpAny _ _ (handedOut (.ref D)) _ _ ⟨hp, g, d, t + 1, os⟩
  rw [handedOut_of (v := .ref D) rfl]
  first
    | exact wpAny_pure (wpAny_pure h)
    | exact wpAny_pure h
    | exact wpAny_pure (wpAny_bind (wpAny_pure (wpAny_pure h)))
theorem kit_kept (T : ExcC K D) : KitX K (.ref y) (.ref D) (fun h => ∃ oy oo, InstAt h y oy D (some oo)) where
  ty := fun _ _ _ I => by
    obtain ⟨_, _, I⟩ := I
    exact I.type
  it := fun _ _ kin _ => by
    obtain ⟨cd, hc, _⟩ := any_some T.hd
    unfold clsIn at hc
    split at hc
    · rename_i c' d' cd' sl' ho
      intro A' Q' E' s' k q
      unfold isType loadHead
      exact wpAny_bind (wpAny_loadPart (k _ _ (kin _ _ ho)) (wpAny_pure q))
    · cases hc
  ne := fun h tp dd its n sl kin htp => by
    obtain ⟨cd, hc, _⟩ := any_some T.hd
    refine Bool.eq_false_iff.mpr fun q => ?_
    obtain rfl : D = tp := Value.ref.inj (beq_iff_eq.mp q)
    unfold clsIn at hc
    split at hc
    · rename_i c' d' cd' sl' ho
      have z := (kin _ _ ho).symm.trans htp
      cases z
    · cases hc
  ca := fun kin I k => by
    obtain ⟨_, _, I⟩ := I
    exact class_of_exc T kin I rfl k
end
section
variable {X : Cx} {pins : List (Addr × Obj)} {σ : L2.St} {H : Hp} {s : Shared}
theorem kept_inst {a D d : Addr} {fs : List (Str × V)} (I : L2.Inv X pins σ H s) (e : H a = some (exk a (.ref D) (some d))) (ed : H d = some (.xd fs)) : ∃ oy oo, PySem.W.InstAt s.heap a oy D (some oo) ∧ ∃ mA : Str → Option Value, (∀ f, RelO (fs.lookup f) (mA f)) ∧ ∀ n, PySem.W.lookIn n oo = some (mA n) := by
  obtain ⟨oe, vs, h1, h2, h3, h4⟩ := exk_at I.hok e
  obtain ⟨mA, hns, hr⟩ := (show ObjOk X.prog X.w H s.heap d (.xd fs) from I.hok d _ ed)
  obtain ⟨oo, ho, hl⟩ := lookIn_ns hns
  exact ⟨oe, oo, ⟨h1, h2, by unfold PySem.W.notCls; rw [h4] <;> rfl, by rw [h3]; exact ho⟩, mA, hr, hl⟩
end
/-- isinstance(x, c), x an exception that was kept -/
def rIsX (K : PySem.W.Frag) : List V → Hp → VK → Prop := fun xs H Q => ∃ (a D d : Addr) (fs : List (Str × V)) (c : V) (u : Value) (b : Bool), xs = [.ref a, c] ∧ H a = some (exk a (.ref D) (some d)) ∧ H d = some (.xd fs) ∧ ExcC K D ∧ ClsV c u ∧ PySem.W.kitOne K (.ref D) u = some b ∧ Q (.bl b) H
/-- isinstance(x, (c1, ..)) -/
def rIsXT (K : PySem.W.Frag) : List V → Hp → VK → Prop := fun xs H Q => ∃ (a D d : Addr) (fs : List (Str × V)) (tp : Addr) (cs : List V) (us : List Value) (b : Bool), xs = [.ref a, .ref tp] ∧ H a = some (exk a (.ref D) (some d)) ∧ H d = some (.xd fs) ∧ ExcC K D ∧ H tp = some (.tup cs) ∧ Paired ClsV cs us ∧ PySem.W.kitAny K (.ref D) us = some b ∧ Q (.bl b) H
section
variable {X : Cx}
theorem call_isX : CallR X (.builtin "isinstance") (rIsX X.K) := by
  intro pins s σ H xs us Q I r h
  obtain ⟨a, D, d, fs, c, u, b, rfl, ea, ed, T, k, e, q⟩ := h
  obtain ⟨u1, u2, rfl, r1, r2⟩ := vals2 r
  obtain rfl := k.eq r2
  obtain rfl : u1 = Value.ref a := r1
  obtain ⟨oy, oo, J, _⟩ := kept_inst I ea ed
  exact PySem.W.kia_one (kit_kept T) I.kIn ⟨_, _, J⟩ e (fun z => nomatch z) fun tk => ⟨.bl b, H, I.tok tk, rfl, q⟩
theorem call_isXT : CallR X (.builtin "isinstance") (rIsXT X.K) := by
  intro pins s σ H xs us Q I r h
  obtain ⟨a, D, d, fs, tp, cs, ws, b, rfl, ea, ed, T, hT, k, e, q⟩ := h
  obtain ⟨u1, u2, rfl, r1, r2⟩ := vals2 r
  obtain rfl : u1 = Value.ref a := r1
  obtain rfl : u2 = Value.ref tp := r2
  obtain ⟨oy, oo, J, _⟩ := kept_inst I ea ed
  obtain ⟨_, its, rv, o, h1, h2, n, h3⟩ := (show ObjOk X.prog X.w H s.heap tp (.tup cs) from I.hok tp _ hT)
  obtain rfl := ClsV.all k rv
  obtain ⟨oc, odd, dt, sl⟩ := o
  simp only at h2 h3
  subst h2 h3
  exact PySem.W.kia_tup (kit_kept T) I.kIn ⟨_, _, J⟩ h1 e (fun z => nomatch z) fun tk => ⟨.bl b, H, I.tok tk, rfl, q⟩
/-- e.f, e an exception that was kept -/
def tFldX (K : PySem.W.Frag) (f : Str) (te : TE) : TE := fun σ H Q => te σ H fun x H1 => ∃ (a D d : Addr) (fs : List (Str × V)) (v : V), x = .ref a ∧ H1 a = some (exk a (.ref D) (some d)) ∧ H1 d = some (.xd fs) ∧ XfC K D ∧ PySem.W.findIn K (.ref D) f = some none ∧ fs.lookup f = some v ∧ Q v H1
theorem pe_fldX {e : Expr} {te : TE} {pos : Pos} {f : Str} (he : PE X e te) (hb : attributeBase e f X.env (eval e X.env) = eval e X.env := by rfl) : PE X (.Attribute e f pos) (tFldX X.K f te) := by
  refine ⟨fun pins s σ H Q I h => ?_⟩
  refine attr_of hb (thn (he.run pins s σ H _ I h) fun u s1 got => ?_)
  obtain ⟨x, H1, I1, rx, a, D, d, fs, v, rfl, ea, ed, T, hno, l, q⟩ := got
  obtain rfl : u = Value.ref a := rx
  obtain ⟨oy, oo, J, mA, hr, hl⟩ := kept_inst I1 ea ed
  obtain ⟨u, hu, ru⟩ := RelO.some_of (v := v) (o := mA f) (by rw [← l]; exact hr f)
  exact HandSPX.exc_get I1.kIn J T.ga T.gg T.exC (PySem.W.findObj_own T.hdC hno rfl (by rw [hl, hu])) (handed_of ru) ⟨v, H1, I1.tok _, ru, q⟩
end
/-! ### what the written part says of the program's error classes -/
structure BaseT (K : PySem.W.Frag) (B : Addr) : Prop where
  sp : PySem.W.specialIn K (.ref B) "__getattribute__" = some (some (.builtin "type.__getattribute__"))
  ty : PySem.W.typeIn K (.ref B) = some (.type "type")
  rd : PySem.W.readsIn K B (.type "type") = true
  fc : PySem.W.findCls K (.ref B) (.type "type") "__init__" = some (.val (.builtin "ValueError.__init__"))
structure ErrT (K : PySem.W.Frag) (C fI : Addr) (f : Str) (B : Addr) : Prop where
  ox : OexC K C
  xf : XfC K C
  ec : ExcC K C
  no : PySem.W.findIn K (.ref C) f = some none
  iC : PySem.W.findIn K (.ref C) "__init__" = some (some (.ref fI))
  tI : PySem.W.typeIn K (.ref fI) = some (.type "function")
  ex : PySem.W.exmOne K (.ref C) (.ref B) = some true
/-- an error's __init__: the base's, then the field -/
def spErr (K : PySem.W.Frag) (C : Addr) (f : Str) : Sp := fun vs H Q _ => ∃ (a : Addr) (v : V), vs = [.ref a, v] ∧ H a = some (exo a C none) ∧ ∀ dx, H dx = none → dx ≠ a → Q .non (upd (upd H dx (exd dx [(f, v)])) a (exo a C (some dx)))
/-- behind the raise: the error's dict, all else as it was -/
theorem err_end {H : Hp} {a C dx : Addr} {f : Str} {v : V} (na : H a = none) (nd : (upd H a (exo a C none)) dx = none) (ne : dx ≠ a) :
    let H2 := upd (upd (upd H a (exo a C none)) dx (exd dx [(f, v)])) a (exo a C (some dx))
    H2 a = some (exo a C (some dx)) ∧ H2 dx = some (exd dx [(f, v)]) ∧ H dx = none ∧ Same H (upd (del H2 a) dx (.xd [(f, v)])) ∧ (upd (del H2 a) dx (.xd [(f, v)])) dx = some (.xd [(f, v)]) := by
  have hd : H dx = none := by
    rw [upd_ne ne] at nd
    exact nd
  refine ⟨upd_same, by rw [upd_ne ne, upd_same], hd, fun b o z => ?_, upd_same⟩
  have n1 : b ≠ a := ne_of_none z na
  have n2 : b ≠ dx := ne_of_none z hd
  rw [upd_ne n2, del_ne n1, upd_ne n1, upd_ne n2, upd_ne n1]
  exact z
end Ef
set_option maxHeartbeats 4000000
namespace Ef
open PySem PySem.Spec PyProof.Rows L2
open Sem (wp)
/-! ### enumerate(tuple) -/
theorem meets_enumerate_newG {v : Value} {o : Obj} {H : Heap → Prop} (B : Begins v o H) :
    Meets (Builtin.«enumerate.__new__» ⟨[.type "enumerate", v], []⟩) (fun _ R s => H s.heap ∧
      R (.ok (.ret (.ref (s.heap.push o).objs.size))) { s with heap := (s.heap.push o).push { cls := .type "enumerate", data := .fields #[.none, .bool false, .ref s.heap.objs.size, rawInt 0, .none, .none] } }) :=
  .of_wp fun prog w A R s h => by
    obtain ⟨hp, g, d, tk, os⟩ := s; obtain ⟨h1, h⟩ := h
    have hsub := sub_enumerate
    have q1 : ∀ {A' : Around} {E : Value → Shared → Prop} {Q : Value → Shared → Prop}, Q (.ref hp.objs.size) ⟨hp.push o, g, d, tk, os⟩ → wpAny (model prog w) A' (pyIter v) Q E ⟨hp, g, d, tk, os⟩ :=
      fun q => B.iter prog w _ _ ⟨hp, g, d, tk, os⟩ _ h1 q
    wp_walk using q1
    refine wpAny_stack_any fun st => wpAny_pure ?_
    split
    · rename_i c _ _ _ _ _
      cases (c == Value.type "enumerate")
      · wp_walk using q1
        exact ⟨_, rfl, h⟩
      · wp_walk using q1
        exact ⟨_, rfl, h⟩
    · wp_walk using q1
      exact ⟨_, rfl, h⟩
theorem call_enumerate_tup {prog : Program} {w : World} {A : Around} {E : Value → Shared → Prop} {s : Shared} {t : Addr} {items : Array Value} {Q : Value → Shared → Prop} (hT : s.heap.IsTuple t items)
    (h : ∀ h', IsEnum h' (s.heap.objs.size + 1) s.heap.objs.size 0 .none → h'.IsTupleIter s.heap.objs.size t 0 → h'.objs.size = s.heap.objs.size + 2 →
      (∀ b o, s.heap.get? b = some o → h'.get? b = some o) → Q (.ref (s.heap.objs.size + 1)) { s with heap := h' }) :
    wpAny (model prog w) A (call (.type "enumerate") [.ref t]) Q E s := by
  refine callType_new F.called_enumerate (by decide) (F.typeCall_enumerate_1 _) (F.newCall_enumerate_1 _) (fun obj => F.args_object_init_2 obj _) F.entry_enumerate_new
    (meets_enumerate_newG (begins_tuple t items)) ⟨hT, ?_⟩
  have hz : (s.heap.push { cls := .type "tuple_iterator", data := .fields #[.ref t, .int 0 0] }).objs.size = s.heap.objs.size + 1 := Heap.size_push ..
  show _ ∧ _
  rw [hz]
  have he : IsEnum ((s.heap.push { cls := .type "tuple_iterator", data := .fields #[.ref t, .int 0 0] }).push
      { cls := .type "enumerate", data := .fields #[.none, .bool false, .ref s.heap.objs.size, rawInt 0, .none, .none] }) (s.heap.objs.size + 1) s.heap.objs.size 0 .none := by
    have := Heap.get?_push_size (s.heap.push { cls := .type "tuple_iterator", data := .fields #[.ref t, .int 0 0] })
      (o := { cls := .type "enumerate", data := .fields #[.none, .bool false, .ref s.heap.objs.size, rawInt 0, .none, .none] }) rfl
    rw [hz] at this; exact this
  exact ⟨⟨_, he, rfl⟩, h _ he ⟨_, Heap.get?_push_of_some _ (Heap.get?_push_size _ rfl), rfl, rfl⟩ (by rw [Heap.size_push, hz]) fun b o x => Heap.get?_push_of_some _ (Heap.get?_push_of_some _ x)⟩
/-- the tuple at a, each item in a new pair -/
def Itet (K : PySem.W.Frag) (a : Addr) : It :=
  ⟨fun i H => ∃ (xs : List V) (x : V), SqT K H a xs ∧ xs[i]? = some x, fun i H v H' => ∃ T x, v = .ref T ∧ H T = none ∧ H' = upd H T (.tup [.int (i : Nat), x]) ∧ ∀ xs, SqT K H a xs → xs[i]? = some x, fun i H => ∃ xs : List V, SqT K H a xs ∧ xs.length ≤ i⟩
theorem tup_ne_iter {h : Heap} {a it : Addr} {items : Array Value} {i : Nat} (ht : h.IsTuple a items) (hit : h.IsTupleIter it a i) : a ≠ it := by
  rintro rfl
  obtain ⟨o, h1, c1, _⟩ := ht
  obtain ⟨o', h2, c2, _⟩ := hit
  rw [h1] at h2
  obtain rfl := Option.some.inj h2
  rw [c1] at c2
  injection c2 with c3
  exact absurd c3 (by decide)
theorem enum_ne_tup {h : Heap} {a e it : Addr} {items : Array Value} {i : Int} {old : Value} (ht : h.IsTuple a items) (he : IsEnum h e it i old) : e ≠ a := by
  rintro rfl
  obtain ⟨o, h1, c1, _⟩ := ht
  have h2 : h.get? e = _ := he
  rw [h1] at h2
  obtain rfl := Option.some.inj h2
  injection c1 with c3
  exact absurd c3 (by decide)
theorem wpAny_pyNext_enum_endX {prog : Program} {w : World} {A : Around} {E : Value → Shared → Prop} {s : Shared} {e it t : Addr} {i : Nat} {items : Array Value} {old : Value} {Q : Option Value → Shared → Prop} (hh : A.handled = none)
    (he : IsEnum s.heap e it i old) (hit : s.heap.IsTupleIter it t i) (ht : s.heap.IsTuple t items) (hx : items[i]? = none)
    (hQ : ∀ h', Heap.ExtBut it s.heap h' → Q none { s with heap := h' }) : wpAny (model prog w) A (pyNext (.ref e)) Q E s := by
  have hT : s.TypeIs (.ref e) "enumerate" := ⟨_, he, rfl⟩
  unfold pyNext
  refine wpAny_bind (wpAny_attempt (wpAny_callSpecial?_slot (name := Str.ofString "__next__") hT F.slot_enumerate_next
    (wpAny_call_entry F.slot_enumerate_next hT F.entry_enumerate_next ?_ (F.args_enumerate_next_1 _))))
  show wpAny _ _ (field (.ref e) 2 >>= _) _ _ _
  refine wpAny_bind (wpAny_field he rfl (x := .ref it) rfl ?_)
  refine wpAny_bind (wpAny_nextOf_tuple_end (show A.in1.handled = none from hh) hit ht hx fun h' x he' hx' => ?_)
  obtain ⟨o, ho, hc⟩ := hx'
  refine wpAny_bind (wpAny_isInstance (T := "StopIteration") (b := true) ⟨o, ho, hc⟩ isSubtype_stop ?_)
  exact wpAny_pure (hQ _ he')
theorem turn_enumT {P : Program} {w : World} {K : PySem.W.Frag} {elts : List Expr} {kk : Nat} {tpos : Pos} (a e it : Addr) :
    Turn P w K (.Tuple elts kk tpos) (Itet K a) [e, it] e (fun i h => (∃ old, IsEnum h e it ((i : Nat) : Int) old) ∧ h.IsTupleIter it a i ∧ e ≠ it) where
  mem := by simp
  obj := fun i h st b hb => by
    obtain ⟨⟨old, he⟩, ⟨o, ho, hc, hd⟩, _⟩ := st
    have e' : b = e ∨ b = it := by simpa using hb
    rcases e' with z | z
    · rw [z]; exact ⟨_, he, fun v q => nomatch q⟩
    · rw [z]; exact ⟨o, ho, fun v q => by rw [hd] at q; cases q⟩
  keep := fun i h h' st k => let ⟨⟨old, he⟩, hi, hne⟩ := st; ⟨⟨old, k e (by simp) _ he⟩, hi.at fun o q => k it (by simp) o q, hne⟩
  item := by
    intro X hP hw hK hc i pins s σ H E I hf st hg
    subst hP hw hK
    obtain ⟨⟨old, he⟩, hit, hne⟩ := st
    obtain ⟨xs, x, hq, hx⟩ := hg
    obtain ⟨its, rv, p, hz⟩ := I.tuple hq
    obtain ⟨u, hu, ru⟩ := rv.get hx
    have hel : e < s.heap.objs.size := Heap.lt_size he
    have hil : it < s.heap.objs.size := by obtain ⟨_, q, _⟩ := hit; exact Heap.lt_size q
    have pT : s.heap.IsTuple a its.toArray := p
    have hai := tup_ne_iter pT hit
    have hei : i < its.toArray.size := by
      have h9 : i < its.length := by
        rw [← rv.length]
        exact (List.getElem?_eq_some_iff.mp hx).1
      simpa using h9
    refine wpAny_pyNext_enum_itemD (Draws.tuple (show X.A.in1.handled = none from I.ok.hd hc) it a hai its.toArray) he ⟨hit, pT⟩ hei hne (fun z => ?_) fun x2 h' tk hP ho hst' hT hsz hk => ?_
    · rcases List.mem_cons.mp z with z | z
      · exact hne z
      · exact enum_ne_tup pT he (by simpa using z)
    have hP2 : its.toArray[i]? = some x2 := hP
    obtain rfl : u = x2 := by
      have h9 : its[i]? = some x2 := by simpa using hP2
      rw [hu] at h9
      exact Option.some.inj h9
    refine ⟨_, rfl, wpAny_letOwnedTupleGo_enum (s := { s with heap := h', toks := tk + 1 }) ho fun h'' he' sb => ?_⟩
    have hT2 : h''.get? s.heap.objs.size = some { cls := .type "tuple", data := .seq #[.int i tk, u] } := (sb.2 _ (Nat.ne_of_gt hel)).trans hT
    have new : ObjOk X.prog X.w (upd H s.heap.objs.size (.tup [.int (i : Nat), x])) h'' s.heap.objs.size (.tup [.int (i : Nat), x]) :=
      ⟨by show 2 ≤ sizeLine; decide, [.int i tk, u], .cons ⟨_, rfl⟩ (.cons ru .nil), ⟨_, hT2, rfl, _, rfl⟩⟩
    have I1 : Inv X pins σ (upd H s.heap.objs.size (.tup [.int (i : Nat), x])) { s with heap := h'', toks := tk + 1 } :=
      I.turnedNew (ch := [e, it]) (fun b ob hb q => (sb.2 b (fun z => hb (by simp [z]))).trans (hk b ob (fun z => hb (by simp [z])) (fun z => hb (by simp [z])) q)) hf (Nat.le_refl _) new
    refine ⟨.ref s.heap.objs.size, _, I1, rfl, ⟨_, x, rfl, I.hok.fresh (Nat.le_refl _), rfl, fun ys hy => by rw [I.tuple_inj hy hq]; exact hx⟩, ⟨⟨u, ?_⟩, hst'.1.at fun o q => (sb.2 it (Ne.symm hne)).trans q, hne⟩, fun b hb => ?_⟩
    · have e1 : ((i + 1 : Nat) : Int) = (i : Int) + 1 := by omega
      rw [e1]; exact he'
    · have hb' : b < s.heap.objs.size := by
        have e' : b = e ∨ b = it := by simpa using hb
        rcases e' with z | z
        · rw [z]; exact hel
        · rw [z]; exact hil
      rw [upd_ne (Nat.ne_of_lt hb')]
      exact (hf b hb).1
  done := by
    intro X hP hw hK hc i pins s σ H E I hf st hg
    subst hP hw hK
    obtain ⟨⟨old, he⟩, hit, hne⟩ := st
    obtain ⟨xs, hq, hx⟩ := hg
    obtain ⟨its, rv, p, hz⟩ := I.tuple hq
    obtain ⟨f0, f1, f2, f3, f4, f5⟩ := hf it (by simp)
    have pT : s.heap.IsTuple a its.toArray := p
    have hl := rv.length
    refine wpAny_pyNext_enum_endX (I.ok.hd hc) he hit pT (by simp; omega) fun h' eb => ⟨rfl, I.turned (t' := s.toks) (fun b o hb q => eb b o hb q) f0 f1 f3 f4 f5⟩
  self := fun A i s Q E st h => let ⟨⟨_, he⟩, _⟩ := st; wpAny_pyIter_enum he h
def iEnumT (K : PySem.W.Frag) (ta : TA) : TI := fun σ H R => ta σ H fun vs H1 => ∃ a xs, vs = [.ref a] ∧ SqT K H1 a xs ∧ R (Itet K a) H1
theorem pi_enumT {X : Cx} {e : Expr} {ta : TA} {p pos tpos : Pos} {elts : List Expr} {kk : Nat} (hg : Gl X "enumerate") (hm : X.mg "enumerate" = none) (ha : PA X [e] ta) (hs : starEach [e] X.env = [(false, eval e X.env)] := by rfl) :
    PI X (.Tuple elts kk tpos) (.Call (.Name "enumerate" p) [e] [] pos) (iEnumT X.K ta) := by
  refine ⟨fun pins s σ H R I h => ?_⟩
  refine Call_ (ld_blt I hg hm boot_enumerate (PyProof.Rows.callWith_type1 (thn (ha.run pos pins s σ H _ I h) fun us s1 ⟨vs, H1, I1, r1, q1⟩ => ?_) hs rfl))
  obtain ⟨a, xs, ex, hq, q⟩ := q1
  subst ex
  cases r1 with
  | cons r rr =>
    cases rr
    cases r
    obtain ⟨its, rv, p', hz⟩ := I1.tuple hq
    refine call_enumerate_tup (show s1.heap.IsTuple a its.toArray from p') fun h' he hit hsz hk => wpAny_pyIter_enum he ?_
    have I2 : Inv X pins σ H1 { s1 with heap := h' } := I1.kept (t' := s1.toks) hk
    refine ⟨s1.heap.objs.size + 1, [s1.heap.objs.size + 1, s1.heap.objs.size], _, _, H1, rfl, I2, turn_enumT a (s1.heap.objs.size + 1) s1.heap.objs.size, ⟨⟨.none, he⟩, hit, Nat.succ_ne_self _⟩, fun b hb => ?_, q⟩
    have e' : b = s1.heap.objs.size + 1 ∨ b = s1.heap.objs.size := by simpa using hb
    have hle : s1.heap.objs.size ≤ b := by
      rcases e' with z | z
      · rw [z]; exact Nat.le_add_right _ _
      · rw [z]; exact Nat.le_refl _
    exact I1.fpOk hle (I1.hok.fresh hle)
/-! ### sorted(xs) of tuples of ints, also of at most one -/
theorem sort_short {prog : Program} {w : World} {A : Around} {E : Value → Shared → Prop} {s : Shared} {a : Addr} {vs : List Value} {n : Nat} {P : PySem.Fin → Shared → Prop} (ho : s.heap.get? a = some (seqObj "list" vs.toArray n)) (h1 : vs.length < 2)
    (h : ∀ out : Array Value, out.toList.Perm vs → P (.done (.ret .none)) { s with heap := sortedHeap s.heap a vs out }) :
    wpAny (model prog w) A (Builtin.«list.sort» ⟨[.ref a], []⟩) P E s :=
  SK.plain_sort (r := fun _ => 0) ho (by omega) (fun h2 Q hQ => absurd h2 (by omega)) fun ps out e1 e2 e3 => h out (TS.out_rank (r := fun _ => 0) e1 e2 e3).1
theorem sorted_short {prog : Program} {w : World} {A : Around} {E : Value → Shared → Prop} {s : Shared} {l : Addr} {vs : List Value} {Q : Value → Shared → Prop} (hl : s.heap.IsList l vs.toArray) (h1 : vs.length < 2)
    (h : ∀ out : Array Value, out.toList.Perm vs → Q (.ref (s.heap.objs.size + 1)) { s with heap := sortedAll s.heap vs out }) :
    wpAny (model prog w) A (call (.builtin "sorted") [.ref l]) Q E s := by
  refine Calls.call_function_entry kind_sorted plain_sorted entry_sorted (args_sorted1 _) ?_
  unfold Builtin.«sorted»
  refine wpAny_bind (m := checkCount "sorted" 1 1 _) (wpAny_pure ?_)
  refine wpAny_bind (collect_list hl ?_ (by rw [sizeLine_eq]; omega))
  refine wpAny_bind (wpAny_newList ?_ (by rw [sizeLine_eq]; omega))
  have hsz : ((s.heap.push (seqObj "list" #[] 0)).update s.heap.objs.size (Obj.mapSeq (· ++ vs.toArray))).objs.size = s.heap.objs.size + 1 := by
    rw [Heap.size_update, size_push']
  have hoL : (((s.heap.push (seqObj "list" #[] 0)).update s.heap.objs.size (Obj.mapSeq (· ++ vs.toArray))).push (seqObj "list" vs.toArray 0)).get? (s.heap.objs.size + 1) = some (seqObj "list" vs.toArray 0) := by
    rw [← hsz]; exact Heap.get?_push_size _ rfl
  show wpAny _ _ _ _ _ { s with heap := ((s.heap.push (seqObj "list" #[] 0)).update s.heap.objs.size (Obj.mapSeq (· ++ vs.toArray))).push (seqObj "list" vs.toArray 0) }
  rw [hsz]
  refine wpAny_bind (wpAny_holding (wpAny_call_entry slot_list_sort ⟨_, hoL, rfl⟩ entry_list_sort (sort_short hoL h1 fun out a1 => ⟨_, rfl, ?_⟩) (args_list_sort _)))
  exact wpAny_pure ⟨_, rfl, h out a1⟩
def rSortA (K : PySem.W.Frag) (B : Int) : List V → Hp → VK → Prop := fun vs H Q => (∃ d, 1 ≤ d ∧ rSortU K d B vs H Q) ∨
  ∃ (a : Addr) (xs : List V), vs = [V.ref a] ∧ SqL K H a xs ∧ xs.length < 2 ∧ (∀ x ∈ xs, ∃ t, x = .ref t) ∧ ∀ p, H p = none → Q (.ref p) (upd H p (.lst xs))
theorem perm_short {α : Type} {l m : List α} (h : l.Perm m) (h1 : m.length < 2) : l = m := by
  cases m with
  | nil => exact List.perm_nil.mp h
  | cons x r =>
    cases r with
    | nil => exact List.perm_singleton.mp h
    | cons y r => exact absurd h1 (by simp)
theorem cr_sortA {X : Cx} {B : Int} : CallR X (.builtin "sorted") (rSortA X.K B) := by
  intro pins s σ H vs us Q I r h
  rcases h with ⟨d, hd, h⟩ | ⟨a, xs, rfl, hs, h1, hx, q⟩
  · exact cr_sortT hd pins s σ H vs us Q I r h
  · obtain ⟨its, rv, hl, hz⟩ := I.list hs
    rw [Vals.ref1 r]
    obtain ⟨e1, e2⟩ := bkV_refs rv hx
    refine sorted_short hl.isList (by rw [← rv.length]; exact h1) fun out p1 => ?_
    · obtain ⟨ep, he'⟩ := PyProof.Rows.sortedAll_at s.heap its out
      have e9 : out.toList = its := perm_short p1 (by rw [← rv.length]; exact h1)
      refine ⟨.ref _, upd H (s.heap.objs.size + 1) (.lst xs), I.laid (t' := s.toks) (fun _ _ => PyProof.Rows.sortedAll_old) (Nat.le_succ _) ⟨hz, out.toList, ep, by rw [e9]; exact rv, he'⟩, rfl, q _ (I.hok.fresh (Nat.le_succ _))⟩
theorem walk_enumT {K : PySem.W.Frag} {a : Addr} {xs : List V} : Walk (Itet K a) xs.length (fun H => SqT K H a xs) (YPair (fun i => some (.int (i : Nat))) (fun i => xs[i]?)) := by
  refine ⟨fun i _ hi q => ⟨xs, xs[i], q, by simp [hi]⟩, fun _ q => ⟨xs, q, Nat.le_refl _⟩, fun i H v H' _ q y => ?_⟩
  obtain ⟨T, x, h1, h2, h3, h4⟩ := y
  exact ⟨T, .int (i : Nat), x, h1, h2, h3, rfl, h4 xs q⟩
end Ef
set_option maxHeartbeats 4000000
namespace Ef
open PySem PySem.Spec PyProof.Rows L2
/-! ### sorted(t) of a tuple of ints -/
section
variable {prog : Program} {w : World} {A : Around} {E : Value → Shared → Prop} {s : Shared}
theorem collect_tup {l : Addr} {vs : List Value} {Q : List Value → Shared → Prop} (hl : s.heap.IsTuple l vs.toArray) (hn : vs.length ≤ sizeLine)
    (h : Q vs { s with heap := (s.heap.push (seqObj "list" #[] 0)).update s.heap.objs.size (Obj.mapSeq (· ++ vs.toArray)) }) : wpAny (model prog w) A (collect (.ref l)) Q E s := by
  obtain ⟨o, ho, hc, n, hd⟩ := hl
  have h2 : (s.heap.push (seqObj "list" #[] 0)).get? l = some o := Heap.get?_push_of_some _ ho
  have h3 : (s.heap.push (seqObj "list" #[] 0)).get? s.heap.objs.size = some (seqObj "list" #[] 0) := Heap.get?_push_size _ rfl
  have h4 : ((#[] : Array Value) ++ vs.toArray).toList = vs := by simp
  have h5 : (#[] ++ vs.toArray).size ≤ sizeLine + 1 := by
    simp only [Array.size_append, List.size_toArray, List.length_nil]
    omega
  unfold collect
  refine wpAny_bind (wpAny_runValue (codeAny_builtin entry_proto_collect' (show wpAny _ _ (do again (.builtin "list.__iadd__" ⟨[← newList [], .ref l], []⟩)) _ _ s from ?_)))
  refine wpAny_bind (wpAny_newList (wpAny_pure ⟨Code.quiet_builtin _ (by decide +kernel), codeAny_builtin entry_list_iadd' (show wpAny _ _ (Builtin.List.listExtendWith (.ref s.heap.objs.size) (.ref l) (.ref s.heap.objs.size)) _ _ { s with heap := s.heap.push (seqObj "list" #[] 0) } from ?_)⟩))
  unfold Builtin.List.listExtendWith
  refine wpAny_bind (wpAny_typeOf (T := "tuple") ⟨o, h2, hc⟩ ?_)
  rw [if_pos (by rw [show (Value.type "tuple" == Value.type "tuple") = true from rfl]; simp)]
  refine wpAny_bind (listItems_at h2 hd (wpAny_bind (listItems_at (xs := #[]) (n := 0) h3 rfl ?_)))
  rw [if_neg (by simp)]
  refine wpAny_bind (listUpdate_at (xs := #[]) (n := 0) h3 rfl (wpAny_pure ?_) (Nat.zero_le _) h5)
  show wpAny (model prog w) A (do
      let o ← load s.heap.objs.size
      match o.data with
      | .seq ys _ => pure ys.toList
      | _ => unsupported "internal:collect") Q E { s with heap := (s.heap.push (seqObj "list" #[] 0)).update s.heap.objs.size (Obj.mapSeq (· ++ vs.toArray)) }
  refine wpAny_bind (wpAny_load (get?_update_seq h3 _) (show wpAny _ _ (pure ((#[] : Array Value) ++ vs.toArray).toList) Q E _ from ?_))
  rw [h4]
  exact wpAny_pure h
theorem sorted_tup {l : Addr} {vs : List Value} {ns : List Int} {Q : Value → Shared → Prop} (hl : s.heap.IsTuple l vs.toArray) (hI : IntsAre vs ns) (hn : vs.length < 64)
    (h : ∀ (out : Array Value) (ns' : List Int), IntsAre out.toList ns' → ns'.Perm ns → ns'.Pairwise (· ≤ ·) → Q (.ref (s.heap.objs.size + 1)) { s with heap := sortedAll s.heap vs out }) :
    wpAny (model prog w) A (call (.builtin "sorted") [.ref l]) Q E s := by
  refine Calls.call_function_entry kind_sorted plain_sorted entry_sorted (args_sorted1 (.ref l)) ?_
  unfold Builtin.«sorted»
  refine wpAny_bind (m := checkCount "sorted" 1 1 _) (wpAny_pure (wpAny_bind (collect_tup hl (by rw [sizeLine_eq]; omega) (wpAny_bind (wpAny_newList ?_ (by rw [sizeLine_eq]; omega))))))
  have z1 : ((s.heap.push (seqObj "list" #[] 0)).update s.heap.objs.size (Obj.mapSeq (· ++ vs.toArray))).objs.size = s.heap.objs.size + 1 := (Heap.size_update ..).trans (size_push' ..)
  have z2 := Heap.get?_push_size ((s.heap.push (seqObj "list" #[] 0)).update s.heap.objs.size (Obj.mapSeq (· ++ vs.toArray))) (o := seqObj "list" vs.toArray 0) rfl
  rw [z1] at z2
  show wpAny _ _ _ _ _ { s with heap := ((s.heap.push (seqObj "list" #[] 0)).update s.heap.objs.size (Obj.mapSeq (· ++ vs.toArray))).push (seqObj "list" vs.toArray 0) }
  rw [z1]
  refine wpAny_bind (wpAny_holding (wpAny_call_entry slot_list_sort ⟨_, z2, rfl⟩ entry_list_sort (list_sort_tree z2 hI hn fun out ns' a1 a2 a3 => ⟨_, rfl, wpAny_pure ⟨_, rfl, h out ns' a1 a2 a3⟩⟩) (args_list_sort _)))
end
def rSortTI (K : PySem.W.Frag) : List V → Hp → VK → Prop := fun vs H Q => ∃ (a : Addr) (ns : List Int), vs = [V.ref a] ∧ (SqL K H a (ns.map V.int) ∨ SqT K H a (ns.map V.int)) ∧ ns.length < 64 ∧
  ∀ (ns' : List Int) (p : Addr), ns'.Perm ns → ns'.Pairwise (· ≤ ·) → H p = none → Q (.ref p) (upd H p (.lst (ns'.map V.int)))
section
variable {X : Cx} (K : PySem.W.Frag)
theorem cr_sortTI (h : X.K = K := by rfl) : CallR X (.builtin "sorted") (rSortTI K) := by
  subst h
  intro pins s σ H vs us Q I r h
  obtain ⟨a, ns, rfl, hs | hs, h64, q⟩ := h
  · exact cr_sorted pins s σ H _ us Q I r ⟨a, ns, rfl, hs, h64, q⟩
  · obtain ⟨its, rv, hl, hz⟩ := I.tuple hs
    rw [Vals.ref1 r]
    have hi := rv.ints
    refine sorted_tup (show s.heap.IsTuple a its.toArray from hl) hi (by rw [hi.length]; exact h64) fun out ns' h1 h2 h3 => ?_
    obtain ⟨ep, he'⟩ := PyProof.Rows.sortedAll_at s.heap its out
    have hlen : (ns'.map V.int).length ≤ sizeLine := by
      rw [List.length_map, h2.length_eq]
      exact small64 h64
    exact ⟨.ref _, upd H (s.heap.objs.size + 1) (.lst (ns'.map V.int)), I.laid (t' := s.toks) (fun _ _ => PyProof.Rows.sortedAll_old) (Nat.le_succ _) ⟨hlen, out.toList, ep, vals_of_ints h1, he'⟩, rfl, q ns' _ h2 h3 (I.hok.fresh (Nat.le_succ _))⟩
end
end Ef
set_option maxHeartbeats 4000000
namespace Ef
open PySem PySem.Spec PyProof.Rows L2
/-! ### set(xs) of a list of ints -/
section
variable {P : Program} {w : World} {A : Around} {E : Value → Shared → Prop} {s : Shared}
/-- a new set -/
abbrev set0 (w : World) : Obj := { cls := .type "set", dict := none, data := .set #[] 0 (.fresh 0 0 (!w.params.followText "set-order")) }
theorem call_setL {l : Addr} {items : Array Value} (ns : List Int) {Q : Value → Shared → Prop} (hh : A.handled = none) (hl : s.heap.IsList l items) (hit : IntsAre items.toList ns) (hb : ns.length + 1 < scanBound)
    (h : ∀ (h' : Heap) (tk c : Nat), SetR w h' s.heap.objs.size (fun j => decide (j ∈ ns)) c → c ≤ ns.length → (∀ b o, s.heap.get? b = some o → h'.get? b = some o) → Q (.ref s.heap.objs.size) { s with heap := h', toks := tk }) :
    wpAny (model P w) A (call (.type "set") [.ref l]) Q E s := by
  have len : items.size = ns.length := by
    have q := IntsAre.length hit
    rw [Array.length_toList] at q
    exact q
  obtain ⟨mc, mt, y0⟩ := F.called_set.mro
  have y1 := F.called_set.made
  have y2 := F.called_set.sub
  have y3 := F.called_set.notType
  have y4 := F.called_set.canCreate
  have y5 := F.typeCall_set_1 (.ref l)
  have hS : (s.heap.push (set0 w)).get? s.heap.objs.size = some (set0 w) := Heap.get?_push_size _ rfl
  have hT : Shared.TypeIs { s with heap := s.heap.push (set0 w) } (.ref s.heap.objs.size) "set" := ⟨_, hS, rfl⟩
  have y6 := F.called_set.init.lookup
  have y7 := F.called_set.init.bind (.ref s.heap.objs.size)
  refine wpAny_call (codeAny_of_tree (show wpAny _ _ (callAny (.type "set") _) _ _ _ from wpAny_pure ⟨Code.quiet_builtin _ (by decide +kernel), codeAny_builtin F.entry_type_call ?_⟩))
  rw [Around.under_plain (weight_type_call_type "set" [.ref l] []) rfl]
  repeat any_goals first | assumption | wp_step
  refine codeAny_mono (code_set_led1 (.ref l) (E := E) (Q₁ := fun obj s₁ => obj = .ref s.heap.objs.size ∧ s₁ = { s with heap := s.heap.push (set0 w) }) ⟨rfl, rfl⟩) fun r s₁ hr => ?_
  cases r with
  | error e => exact hr
  | ok fl =>
    cases fl with
    | ret obj =>
      obtain ⟨rfl, rfl⟩ := hr
      repeat any_goals first | assumption | wp_step
      refine codeAny_mono (codeAny_call_builtin (R := wants (fun r s₂ => r = .none ∧ ∃ h' tk c, s₂ = { s with heap := h', toks := tk } ∧ SetR w h' s.heap.objs.size (fun j => decide (j ∈ ns)) c ∧ c ≤ ns.length ∧
          (∀ b o, s.heap.get? b = some o → h'.get? b = some o)) E) F.called_set.init.plain F.entry_set_init (check_set_init_1 hT ?_)) fun r₂ s₂ hr₂ => ?_
      · obtain ⟨⟨c1, c2, c3, c4⟩, hol, hcl, nl, hdl⟩ := hl
        simp only at hcl hdl
        subst hcl hdl
        have ho2 : (s.heap.push (set0 w)).get? l = some { cls := .type "list", dict := c2, data := .seq items nl, slots := c4 } := Heap.get?_push_of_some _ hol
        have z1 := F.sub_list_set
        have z2 := F.sub_list_frozenset
        have z3 : (Value.type "list" == Value.type "dict") = false := by decide
        have hl1 : (s.heap.push (set0 w)).IsList l items := ⟨_, ho2, rfl, nl, rfl⟩
        have lS : l < s.heap.objs.size := Heap.lt_size hol
        have sz : (s.heap.push (set0 w)).objs.size = s.heap.objs.size + 1 := Heap.size_push ..
        unfold Builtin.«set.__init__» noKeywords Builtin.Frozenset.updateFrom
        generalize hPI : pyIter = PI
        wp_walk
        subst hPI
        refine wpAny_pyIter_list hl1 (wpAny_bind (wpAny_runValue ?_))
        have h3 : A.in1.in1.in1.handled = none := by simp [hh]
        have ne1 : l ≠ (s.heap.push (set0 w)).objs.size := by
          rw [sz]
          exact Nat.ne_of_lt (Nat.lt_succ_of_lt lS)
        have nf : s.heap.objs.size ∉ [(s.heap.push (set0 w)).objs.size, l] := by
          rw [sz]
          simp only [List.mem_cons, List.not_mem_nil, or_false, not_or]
          exact ⟨Nat.ne_of_lt (Nat.lt_succ_self _), Nat.ne_of_gt lS⟩
        have val : ∀ (i : Nat) (v : Value), items[i]? = some v → ∃ k t, ns[i]? = some k ∧ v = .int k t := fun i v hv => by
          have hi : i < ns.length := by rw [← len]; exact (Array.getElem?_eq_some_iff.mp hv).1
          obtain ⟨t, e⟩ := PyProof.Rows.IntsAre.int_at hit i v (by rw [Array.getElem?_toList]; exact hv)
          refine ⟨ns[i], t, List.getElem?_eq_getElem hi, ?_⟩
          rw [e, List.getD_eq_getElem?_getD, List.getElem?_eq_getElem hi] <;> rfl
        refine set_update_ints ((Walks.list h3 _ l ne1 items).toS) s.heap.objs.size nf ns len hb val (items.size - 0) 0 _ (by omega) (Nat.zero_le _) ⟨⟨_, Heap.get?_push_size _ rfl, rfl, rfl⟩, (hl1.push _)⟩ ⟨0, Nat.le_refl 0, setR_new_at (Heap.get?_push_of_some _ hS)⟩ ?_
        intro s' c' hm hc' hS'
        obtain ⟨h', g2, d', tk', os'⟩ := s'
        have eg : g2 = s.gens := hm.gens
        have ed : d' = s.drawn := hm.drawn
        have eo : os' = s.os := hm.os
        subst eg ed eo
        rw [len] at hc'
        refine wpAny_pure (show wpAny _ _ (ret Value.none) _ _ _ from wpAny_pure ⟨rfl, h', tk', c', rfl, hS', hc', fun b o e => ?_⟩)
        have b0 : b < s.heap.objs.size := Heap.lt_size e
        refine hm.heap b o ?_ (Heap.get?_push_of_some _ (Heap.get?_push_of_some _ e))
        simp only [List.mem_cons, List.not_mem_nil, or_false, not_or]
        rw [sz]
        exact ⟨Nat.ne_of_lt b0, Nat.ne_of_lt (Nat.lt_succ_of_lt b0)⟩
      · cases r₂ with
        | error e => exact hr₂
        | ok fl₂ =>
          cases fl₂ with
          | ret r =>
            obtain ⟨rfl, h', tk, c', rfl, hS', hc', hk'⟩ := hr₂
            repeat any_goals first | assumption | wp_step
            exact h _ _ _ hS' hc' hk'
          | _ => exact hr₂.elim
    | _ => exact hr.elim
end
def rSetL (K : PySem.W.Frag) (w : World) : List V → Hp → VK → Prop := fun xs H Q => ∃ (l : Addr) (ns : List Int), xs = [.ref l] ∧ SqL K H l (ns.map V.int) ∧ ns.length ≤ 1000 ∧
    ∀ (p : Addr) (c : Nat), H p = none → c ≤ ns.length → Q (.ref p) (upd H p (SetO w p (fun j => decide (j ∈ ns)) c))
section
variable {X : Cx} (K : PySem.W.Frag) (w : World)
theorem cr_setL (hc : X.calm = true) (h : X.K = K := by rfl) (hw : X.w = w := by rfl) : CallR X (.type "set") (rSetL K w) := by
  subst h hw
  intro pins s σ H xs us Q I r h
  obtain ⟨l, ns, rfl, hq, hl, q⟩ := h
  obtain ⟨u, rfl, ru⟩ := vals1 r
  obtain rfl : u = Value.ref l := ru
  obtain ⟨its, rv, pt, hz⟩ := I.list hq
  refine call_setL ns (I.ok.hd hc) (show s.heap.IsList l its.toArray from pt.isList) (ints_of_vals rv) (by unfold scanBound; omega) fun h' tk c R1 hcn k => ?_
  exact ⟨.ref _, _, I.laid (t' := tk) k (Nat.le_refl _) (setO_new R1), rfl, q _ c (I.hok.fresh (Nat.le_refl _)) hcn⟩
end
end Ef
set_option maxHeartbeats 4000000
namespace Ef
open PySem PySem.Spec PyProof.Rows L2
open AutoSeq1 (wpAny_loadPart')
/-! ### list(reversed(range(..))) -/
section
variable {prog : Program} {w : World} {A : Around} {E : Value → Shared → Prop} {s : Shared} {I : Addr} {a c : Int} {n : Nat}
theorem hint_rit {x y z : Int} {Q : Value → Shared → Prop} (hi : IsRangeIter s.heap I x y z) (hb : 0 ≤ y ∧ y < 2 ^ 24)
    (h : ∀ u tk, s.toks ≤ tk → Q (.int y u) { s with toks := tk }) : wpAny (model prog w) A (call (.builtin "range_iterator.__length_hint__") [.ref I]) Q E s := by
  have hT : s.TypeIs (.ref I) "range_iterator" := ⟨_, hi, rfl⟩
  refine wpAny_call_entry F.slot_range_iterator_length_hint hT F.entry_range_iterator_length_hint ?_ (F.args_range_iterator_length_hint_1 _)
  obtain ⟨hp, g, d, tk, os⟩ := s
  wp_walk using wpAny_loadPart' hi
  exact ⟨_, rfl, h _ _ (Nat.le_succ _)⟩
theorem extend_rit {R : Result → Shared → Prop} (hh : A.handled = none) (hn : n < 2 ^ 24) (hit : IsRangeIter s.heap I (a + ((0 : Nat) : Int) * c) ((n : Int) - ((0 : Nat) : Int)) c) (S : Addr) (c₀ : Nat) (hSI : S ≠ I)
    (hS : s.heap.get? S = some { cls := .type "list", data := .seq #[] c₀ })
    (hR : ∀ h' tk acc' c', (∀ b o, b ≠ S → b ≠ I → s.heap.get? b = some o → h'.get? b = some o) → h'.get? S = some { cls := .type "list", dict := none, data := .seq acc' c', slots := #[] } →
      ItemsOf (fun i v => ∃ t, v = .int (a + i * c) t) acc' n → R (.ok (.ret .none)) { s with heap := h', toks := tk }) :
    wpAny (model prog w) A.in1 (Builtin.List.listExtendWith (.ref S) (.ref I) .none)
      (fun fin s' => match fin with | .done f => R (.ok f) s' | .again c' => c'.quiet = true ∧ codeAny (model prog w) A c' R s') (fun e s' => R (.error e) s') s := by
  have W := (Walks.range (prog := prog) (w := w) (A := A.in1) hh I a c n).toS
  have hSf : S ∉ [I] := fun hm => hSI (List.mem_singleton.mp hm)
  have hT : s.TypeIs (.ref I) "range_iterator" := ⟨_, hit, rfl⟩
  have z1 : Builtin.List.listSameRef (.ref S) (.ref I) = false := by simp [Builtin.List.listSameRef, hSI]
  unfold Builtin.List.listExtendWith
  refine wpAny_bind (wpAny_typeOf hT ?_)
  rw [if_neg (by rw [z1]; decide)]
  refine wpAny_bind (W.self 0 _ _ _ hit (wpAny_bind (wpAny_holding ?_)))
  unfold Builtin.List.listLengthHint
  refine wpAny_bind (wpAny_specialOf hT F.nolen_ra ?_)
  show wpAny _ A.in1 (specialOf (Value.ref I) (Str.ofString "__length_hint__") >>= _) _ _ _
  refine wpAny_bind (wpAny_specialOf hT F.hint_ra ?_)
  generalize hid : ("range_iterator.__length_hint__" : String) = id0
  wp_delta
  rw [show splitId id0 = some ("range_iterator", "__length_hint__") from by subst hid; decide +kernel]
  subst hid
  refine wpAny_bind (wpAny_isInstance (b := true) hT (by rw [isSubtype_type]; kernel_rfl) ?_)
  show wpAny _ A.in1 (call (.builtin "range_iterator.__length_hint__") [.ref I] >>= _) _ _ _
  have e0 : (n : Int) - ((0 : Nat) : Int) = (n : Int) := by omega
  refine wpAny_bind (hint_rit hit (by rw [e0]; omega) fun u tk htk => ?_)
  refine wpAny_bind (m := asInt? (.int _ u)) (wpAny_pure ?_)
  have z2 : Builtin.List.listTooLong (Int.toNat ((n : Int) - ((0 : Nat) : Int))) = false := by
    rw [e0]
    simp [Builtin.List.listTooLong, sizeLine]
    omega
  dsimp only
  rw [if_neg (by rw [z2]; decide)]
  refine wpAny_pure ?_
  rw [if_neg (by decide)]
  refine wpAny_pure ⟨plainId_quiet F.plain_extend_loop _, codeAny_extend_loopS W (by rw [sizeLine_eq]; omega) S hSf .none n 0 _ #[] c₀ rfl (Nat.zero_le _) hit hS (ItemsOf.nil _) fun s' acc' c' hm hS' hacc => ?_⟩
  rw [Moved.eq_with hm]
  refine hR s'.heap s'.toks acc' c' (fun b o hb hb2 e => hm.heap b o (fun hmem => ?_) e) hS' hacc
  rcases List.mem_cons.mp hmem with e' | hmem
  · exact hb e'
  · exact hb2 (List.mem_singleton.mp hmem)
theorem call_list_rit {Q : Value → Shared → Prop} (hh : A.handled = none) (hn : n < 2 ^ 24) (hit : IsRangeIter s.heap I (a + ((0 : Nat) : Int) * c) ((n : Int) - ((0 : Nat) : Int)) c)
    (hQ : ∀ h' tk acc' c', (∀ b o, b ≠ I → s.heap.get? b = some o → h'.get? b = some o) →
      h'.get? s.heap.objs.size = some { cls := .type "list", dict := none, data := .seq acc' c', slots := #[] } → ItemsOf (fun i v => ∃ t, v = .int (a + i * c) t) acc' n → Q (.ref s.heap.objs.size) { s with heap := h', toks := tk }) :
    wpAny (model prog w) A (call (.type "list") [.ref I]) Q E s := by
  have hIl : I < s.heap.objs.size := Heap.lt_size hit
  refine callType_codes (Q₁ := fun obj s₁ => obj = .ref s.heap.objs.size ∧ s₁ = { s with heap := s.heap.push { cls := .type "list", data := .seq #[] } }) F.called_list (F.typeCall_list_1 _) F.entry_list_init
    (code_list_new _ ⟨rfl, rfl⟩) fun obj s₁ h₁ => ?_
  obtain ⟨rfl, rfl⟩ := h₁
  have hS : (s.heap.push { cls := .type "list", data := .seq #[] }).get? s.heap.objs.size = some { cls := .type "list", data := .seq #[] } := Heap.get?_push_size _ rfl
  refine ⟨⟨_, hS, rfl⟩, F.args_list_init_2 _ _, ?_⟩
  show wpAny _ _ (do let old ← Builtin.List.listItems (.ref s.heap.objs.size); Builtin.List.listUpdate (.ref s.heap.objs.size) (fun _ => #[]); letGo old.toList.reverse; Builtin.List.listExtendWith (.ref s.heap.objs.size) (.ref I) .none) _ _ _
  refine wpAny_bind ?_
  unfold Builtin.List.listItems
  refine wpAny_bind (wpAny_seqItems hS rfl (wpAny_pure ?_))
  show wpAny _ _ (updateSeq s.heap.objs.size (fun _ => #[]) >>= fun _ => letGo (#[] : Array Value).toList.reverse >>= fun _ => Builtin.List.listExtendWith (.ref s.heap.objs.size) (.ref I) .none) _ _ _
  refine wpAny_bind (wpAny_updateSeq hS rfl ?_)
  have hS₂ := Heap.get?_update_self (Obj.mapSeq (fun _ => (#[] : Array Value))) hS rfl
  have oth : ∀ b o, b ≠ s.heap.objs.size → (s.heap.push { cls := .type "list", data := .seq #[] }).get? b = some o → ((s.heap.push { cls := .type "list", data := .seq #[] }).update s.heap.objs.size (Obj.mapSeq (fun _ => (#[] : Array Value)))).get? b = some o :=
    fun b o hb e => (Heap.get?_update_other _ _ (Ne.symm hb)).trans e
  refine wpAny_bind (wpAny_letGo ?_)
  refine extend_rit (A := A.in1) hh hn (oth I _ (Nat.ne_of_lt hIl) (Heap.get?_push_of_some _ hit)) s.heap.objs.size _ (Nat.ne_of_gt hIl) hS₂ fun h' tk acc' c' hk hS' hacc => ?_
  exact ⟨rfl, hQ h' tk acc' c' (fun b o hb e => hk b o (Nat.ne_of_lt (Heap.lt_size e)) hb (oth b o (Nat.ne_of_lt (Heap.lt_size e)) (Heap.get?_push_of_some _ e))) hS' hacc⟩
end
def tLstRev (te : L2.St → Hp → (Int → Int → Hp → Prop) → Prop) : TE := fun σ H Q => te σ H fun a b H1 => RgOk a b ∧ (b - a).toNat < 2 ^ 24 ∧ ∀ q, H1 q = none → Q (.ref q) (upd H1 q (.lst (rgV a b).reverse))
theorem rg_rev (a b : Int) : (rgV a b).reverse = (List.range (b - a).toNat).map fun i => V.int (a + (((b - a).toNat : Nat) : Int) - 1 + (i : Nat) * (-1)) := by
  unfold rgV
  refine List.ext_getElem (by simp) fun i h1 h2 => ?_
  rw [List.getElem_reverse, List.getElem_map, List.getElem_map, List.getElem_range, List.getElem_range, List.length_map, List.length_range]
  rw [List.length_map, List.length_range] at h2
  congr 1
  omega
theorem vals_of {f : Nat → Int} {acc : Array Value} {n : Nat} (h : ItemsOf (fun i v => ∃ t, v = .int (f i) t) acc n) : Vals ((List.range n).map fun i => V.int (f i)) acc.toList := by
  have e : acc.toList.length = n := by rw [Array.length_toList]; exact h.1
  rw [← e]
  refine vals_of_get acc.toList _ fun j u hj => ?_
  obtain ⟨t, rfl⟩ := h.2 j u (by rw [← hj, Array.getElem?_toList])
  exact ⟨t, rfl⟩
section
variable {X : Cx} {e : Expr} {te : L2.St → Hp → (Int → Int → Hp → Prop) → Prop}
theorem pe_listRev {p pos p2 pos2 : Pos} (hc : X.calm = true) (hg : Gl X "list") (hm : X.mg "list" = none) (hg2 : Gl X "reversed") (hm2 : X.mg "reversed" = none) (he : PRg X e te)
    (na : starEach [.Call (.Name "reversed" p2) [e] [] pos2] X.env = (false, eval (.Call (.Name "reversed" p2) [e] [] pos2) X.env) :: starEach [] X.env := by rfl) (nb : starEach [e] X.env = (false, eval e X.env) :: starEach [] X.env := by rfl) :
    PE X (.Call (.Name "list" p) [.Call (.Name "reversed" p2) [e] [] pos2] [] pos) (tLstRev te) := by
  refine ⟨fun pins s σ H Q I h => ?_⟩
  refine Call_ (ld_blt I hg hm boot_list (PyProof.Rows.callWith_type1 (args_cons (Call_ (ld_blt I hg2 hm2 PyProof.Rows.boot_reversed (PyProof.Rows.callWith_type1 (args_cons (thn (he pins s σ H _ I h) fun x s1 ⟨r, a, b, t, u, v, H1, ex, hr, I1, ok, hb, q⟩ => args_nil ?_) nb) nb rfl))) na) na))
  subst ex
  obtain ⟨b1, b2, b3, b4, b5⟩ := ok
  have hn : Builtin.Range.rangeSize a b 1 = (((b - a).toNat : Nat) : Int) := rangeSize_nat a b
  refine call_reversed_range hr (smallRev_one b1 b2 b3 b4) (args_nil ?_)
  have hit : IsRangeIter (s1.heap.push (rngRevObj a b 1)) s1.heap.objs.size (a + (((b - a).toNat : Nat) : Int) - 1 + ((0 : Nat) : Int) * (-1)) ((((b - a).toNat : Nat) : Int) - ((0 : Nat) : Int)) (-1) := by
    have e1 : a + (((b - a).toNat : Nat) : Int) - 1 + ((0 : Nat) : Int) * (-1) = a + (Builtin.Range.rangeSize a b 1 - 1) * 1 := by rw [hn]; omega
    have e2 : (((b - a).toNat : Nat) : Int) - ((0 : Nat) : Int) = Builtin.Range.rangeSize a b 1 := by rw [hn]; omega
    rw [e1, e2]
    exact Heap.get?_push_size _ rfl
  have hsz : (s1.heap.push (rngRevObj a b 1)).objs.size = s1.heap.objs.size + 1 := size_push' ..
  refine call_list_rit (I1.ok.hd hc) hb hit fun h' tk acc c' hk e' hi => ?_
  have kp : ∀ x o, s1.heap.get? x = some o → h'.get? x = some o := fun x o z => hk x o (Nat.ne_of_lt (Heap.lt_size z)) (Heap.get?_push_of_some _ z)
  have ei := rg_rev a b
  have hlen : ((rgV a b).reverse).length ≤ sizeLine := by
    rw [List.length_reverse, rgV_length, sizeLine_eq]
    omega
  show EP X pins σ Q (.ref (s1.heap.push (rngRevObj a b 1)).objs.size) _
  rw [hsz] at e' ⊢
  refine ⟨.ref (s1.heap.objs.size + 1), upd H1 (s1.heap.objs.size + 1) (.lst (rgV a b).reverse), I1.laid (t' := tk) kp (Nat.le_succ _) ⟨hlen, acc.toList, c', ?_, ?_⟩, rfl, q _ (I1.hok.fresh (Nat.le_succ _))⟩
  · rw [ei]
    exact vals_of hi
  · rw [Array.toArray_toList]
    exact e'
end
end Ef
set_option maxHeartbeats 4000000
namespace Ef
open PySem PySem.Spec PyProof.Rows L2
/-! ### list(range(i, j, c)) -/
def rgC (i c : Int) (n : Nat) : List V := (List.range n).map fun k => V.int (i + (k : Nat) * c)
def tLstRgC (ta : TA) : TE := fun σ H Q => ta σ H fun vs H1 => ∃ (i j c : Int) (n : Nat), vs = [.int i, .int j, .int c] ∧ RgC i j c n ∧ n ≤ 2 ^ 24 ∧ ∀ q, H1 q = none → Q (.ref q) (upd H1 q (.lst (rgC i c n)))
section
variable {X : Cx}
theorem pe_listRgC {a b c : Expr} {ta : TA} {p pos p2 pos2 : Pos} (hc : X.calm = true) (hg : Gl X "list") (hm : X.mg "list" = none) (hg2 : Gl X "range") (hm2 : X.mg "range" = none) (ha : PA X [a, b, c] ta)
    (n1 : starEach [a, b, c] X.env = (false, eval a X.env) :: starEach [b, c] X.env := by rfl) (n2 : (backTo pos2 (starEach [b, c] X.env)).any (·.1) = false := by rfl)
    (n3 : starEach [.Call (.Name "range" p2) [a, b, c] [] pos2] X.env = (false, eval (.Call (.Name "range" p2) [a, b, c] [] pos2) X.env) :: starEach [] X.env := by rfl) :
    PE X (.Call (.Name "list" p) [.Call (.Name "range" p2) [a, b, c] [] pos2] [] pos) (tLstRgC ta) := by
  refine ⟨fun pins s σ H Q I h => ?_⟩
  refine Call_ (ld_blt I hg hm boot_list (PyProof.Rows.callWith_type1 (args_cons (Call_ (ld_blt I hg2 hm2 boot_range ?_)) n3) n3))
  refine PyProof.Rows.callWith_type1 ?_ n1 n2
  refine thn (ha.run pos2 pins s σ H _ I h) ?_
  rintro us s1 ⟨vs, H1, I1, r1, q1⟩
  obtain ⟨i, j, k, n, ev, ⟨c0, c1, c2, c3⟩, hn, q⟩ := q1
  subst ev
  match us, r1 with
  | [_, _, _], .cons ⟨t1, e1⟩ (.cons ⟨t2, e2⟩ (.cons ⟨t3, e3⟩ .nil)) =>
    subst e1 e2 e3
    refine call_range_3 c0 (args_nil ?_) (.inl (PyProof.noPylong_small c1))
    have I2 : Inv X pins σ H1 { s1 with heap := s1.heap.push { cls := .type "range", data := .fields #[.int i t1, .int j t2, .int k t3] } } := I1.kept (t' := s1.toks) fun _ _ z => Heap.get?_push_of_some _ z
    refine call_list_range (n := n) (I2.ok.hd hc) (IsRange.new ..) c2 c3 hn fun h' tk acc c' hk e' hi => ?_
    refine ⟨.ref _, upd H1 _ (.lst (rgC i k n)), I2.laid hk (Nat.le_refl _) (show ObjOk X.prog X.w _ _ _ (.lst (rgC i k n)) from ⟨?_, acc.toList, c', vals_of hi, ?_⟩), rfl, q _ (I2.hok.fresh (Nat.le_refl _))⟩
    · unfold rgC
      rw [List.length_map, List.length_range, sizeLine_eq]
      omega
    · rw [Array.toArray_toList]
      exact e'
end
/-! ### list(reversed(xs)), xs a list -/
section
variable {prog : Program} {w : World} {A : Around} {E : Value → Shared → Prop} {s : Shared} {I l : Addr} {xs : Array Value}
theorem extend_rev {R : Result → Shared → Prop} (hh : A.handled = none) (hn : xs.size ≤ sizeLine) (hit : s.heap.IsRevIter I l ((xs.size : Int) - 1)) (hl : s.heap.IsList l xs) (hne : l ≠ I) (S : Addr) (c₀ : Nat) (hSI : S ≠ I) (hSl : S ≠ l)
    (hS : s.heap.get? S = some { cls := .type "list", data := .seq #[] c₀ })
    (hR : ∀ h' tk acc' c', (∀ b o, b ≠ S → b ≠ I → s.heap.get? b = some o → h'.get? b = some o) → h'.get? S = some { cls := .type "list", dict := none, data := .seq acc' c', slots := #[] } →
      ItemsOf (fun i v => xs[xs.size - 1 - i]? = some v) acc' xs.size → R (.ok (.ret .none)) { s with heap := h', toks := tk }) :
    wpAny (model prog w) A.in1 (Builtin.List.listExtendWith (.ref S) (.ref I) .none)
      (fun fin s' => match fin with | .done f => R (.ok f) s' | .again c' => c'.quiet = true ∧ codeAny (model prog w) A c' R s') (fun e s' => R (.error e) s') s := by
  have Wk := (Walks.listRev (prog := prog) (w := w) (A := A.in1) hh I l hne xs).toS
  have hSf : S ∉ [I, l] := by
    intro hm
    rcases List.mem_cons.mp hm with z | z
    · exact hSI z
    · exact hSl (List.mem_singleton.mp z)
  have hT : s.TypeIs (.ref I) "list_reverseiterator" := Heap.IsRevIter.typeIs hit
  have z1 : Builtin.List.listSameRef (.ref S) (.ref I) = false := by simp [Builtin.List.listSameRef, hSI]
  unfold Builtin.List.listExtendWith
  refine wpAny_bind (wpAny_typeOf hT ?_)
  rw [if_neg (by rw [z1]; decide)]
  refine wpAny_bind (wpAny_pyIter_revIter hit (wpAny_bind (wpAny_holding ?_)))
  unfold Builtin.List.listLengthHint
  refine wpAny_bind (wpAny_specialOf hT RT.nolen_lri ?_)
  show wpAny _ A.in1 (specialOf (Value.ref I) (Str.ofString "__length_hint__") >>= _) _ _ _
  refine wpAny_bind (wpAny_specialOf hT RT.hint_lri ?_)
  generalize hid : ("list_reverseiterator.__length_hint__" : String) = id1
  wp_delta
  rw [show splitId id1 = some ("list_reverseiterator", "__length_hint__") from by subst hid; decide +kernel]
  subst hid
  refine wpAny_bind (wpAny_isInstance (b := true) hT (by rw [isSubtype_type]; kernel_rfl) ?_)
  refine wpAny_pure ?_
  rw [if_neg (by decide)]
  have z0 : ((xs.size : Nat) : Int) - 1 - ((0 : Nat) : Int) = (xs.size : Int) - 1 := by omega
  refine wpAny_pure ⟨plainId_quiet F.plain_extend_loop _, codeAny_extend_loopS Wk hn S hSf .none xs.size 0 _ #[] c₀ rfl (Nat.zero_le _) ⟨Nat.zero_le _, by rw [z0]; exact hit, hl⟩ hS (ItemsOf.nil _) fun s' acc' c' hm hS' hacc => ?_⟩
  rw [Moved.eq_with hm]
  refine hR s'.heap s'.toks acc' c' (fun b o hb hb2 e => hm.heap b o (fun hmem => ?_) e) hS' hacc
  rcases List.mem_cons.mp hmem with z | hmem
  · exact hb z
  · exact hb2 (List.mem_singleton.mp hmem)
theorem call_list_rev {Q : Value → Shared → Prop} (hh : A.handled = none) (hn : xs.size ≤ sizeLine) (hit : s.heap.IsRevIter I l ((xs.size : Int) - 1)) (hl : s.heap.IsList l xs) (hne : l ≠ I)
    (hQ : ∀ h' tk acc' c', (∀ b o, b ≠ I → s.heap.get? b = some o → h'.get? b = some o) →
      h'.get? s.heap.objs.size = some { cls := .type "list", dict := none, data := .seq acc' c', slots := #[] } → ItemsOf (fun i v => xs[xs.size - 1 - i]? = some v) acc' xs.size → Q (.ref s.heap.objs.size) { s with heap := h', toks := tk }) :
    wpAny (model prog w) A (call (.type "list") [.ref I]) Q E s := by
  obtain ⟨oi, hoi, _⟩ := id hit
  obtain ⟨ol, hol, _⟩ := id hl
  have hIl := Heap.lt_size hoi
  have hll := Heap.lt_size hol
  refine callType_codes (Q₁ := fun obj s₁ => obj = .ref s.heap.objs.size ∧ s₁ = { s with heap := s.heap.push { cls := .type "list", data := .seq #[] } }) F.called_list (F.typeCall_list_1 _) F.entry_list_init
    (code_list_new _ ⟨rfl, rfl⟩) fun obj s₁ h₁ => ?_
  obtain ⟨rfl, rfl⟩ := h₁
  have hS : (s.heap.push { cls := .type "list", data := .seq #[] }).get? s.heap.objs.size = some { cls := .type "list", data := .seq #[] } := Heap.get?_push_size _ rfl
  refine ⟨⟨_, hS, rfl⟩, F.args_list_init_2 _ _, ?_⟩
  show wpAny _ _ (do let old ← Builtin.List.listItems (.ref s.heap.objs.size); Builtin.List.listUpdate (.ref s.heap.objs.size) (fun _ => #[]); letGo old.toList.reverse; Builtin.List.listExtendWith (.ref s.heap.objs.size) (.ref I) .none) _ _ _
  refine wpAny_bind ?_
  unfold Builtin.List.listItems
  refine wpAny_bind (wpAny_seqItems hS rfl (wpAny_pure ?_))
  show wpAny _ _ (updateSeq s.heap.objs.size (fun _ => #[]) >>= fun _ => letGo (#[] : Array Value).toList.reverse >>= fun _ => Builtin.List.listExtendWith (.ref s.heap.objs.size) (.ref I) .none) _ _ _
  refine wpAny_bind (wpAny_updateSeq hS rfl ?_)
  have hS₂ := Heap.get?_update_self (Obj.mapSeq (fun _ => (#[] : Array Value))) hS rfl
  have oth : ∀ b o, b ≠ s.heap.objs.size → (s.heap.push { cls := .type "list", data := .seq #[] }).get? b = some o → ((s.heap.push { cls := .type "list", data := .seq #[] }).update s.heap.objs.size (Obj.mapSeq (fun _ => (#[] : Array Value)))).get? b = some o :=
    fun b o hb e => (Heap.get?_update_other _ _ (Ne.symm hb)).trans e
  refine wpAny_bind (wpAny_letGo ?_)
  have kp : ∀ b o, s.heap.get? b = some o → ((s.heap.push { cls := .type "list", data := .seq #[] }).update s.heap.objs.size (Obj.mapSeq (fun _ => (#[] : Array Value)))).get? b = some o := fun b o e => oth b o (Nat.ne_of_lt (Heap.lt_size e)) (Heap.get?_push_of_some _ e)
  refine extend_rev (A := A.in1) hh hn (hit.at fun o e => kp _ o e) (hl.at fun o e => kp _ o e) hne s.heap.objs.size _ (Nat.ne_of_gt hIl) (Nat.ne_of_gt hll) hS₂ fun h' tk acc' c' hk hS' hacc => ?_
  exact ⟨rfl, hQ h' tk acc' c' (fun b o hb e => hk b o (Nat.ne_of_lt (Heap.lt_size e)) hb (kp b o e)) hS' hacc⟩
end
def tLstRevL (K : PySem.W.Frag) (te : TE) : TE := fun σ H Q => te σ H fun v H1 => ∃ (a : Addr) (xs : List V), v = .ref a ∧ SqL K H1 a xs ∧ ∀ q, H1 q = none → Q (.ref q) (upd H1 q (.lst xs.reverse))
section
variable {X : Cx}
theorem pe_listRevL {e : Expr} {te : TE} {p p2 pos pos2 : Pos} (hc : X.calm = true) (hg : Gl X "list") (hm : X.mg "list" = none) (hg2 : Gl X "reversed") (hm2 : X.mg "reversed" = none) (he : PE X e te)
    (hs : starEach [e] X.env = (false, eval e X.env) :: starEach [] X.env := by rfl)
    (hs2 : starEach [.Call (.Name "reversed" p2) [e] [] pos2] X.env = (false, eval (.Call (.Name "reversed" p2) [e] [] pos2) X.env) :: starEach [] X.env := by rfl) :
    PE X (.Call (.Name "list" p) [.Call (.Name "reversed" p2) [e] [] pos2] [] pos) (tLstRevL X.K te) := by
  refine ⟨fun pins s σ H Q I h => ?_⟩
  refine Call_ (ld_blt I hg hm boot_list (PyProof.Rows.callWith_type1 (args_cons (Call_ (ld_blt I hg2 hm2 PyProof.Rows.boot_reversed (PyProof.Rows.callWith_type1 (args_cons (thn (he.run pins s σ H _ I h) fun u s1 ⟨v, H1, I1, r1, q1⟩ => args_nil ?_) hs) hs rfl))) hs2) hs2 rfl))
  obtain ⟨a, xs, ev, hq, q⟩ := q1
  subst ev
  obtain rfl : u = Value.ref a := r1
  obtain ⟨its, rv, pl, hz⟩ := I1.list hq
  refine call_reversed_list pl.isList (args_nil ?_)
  have I2 : Inv X pins σ H1 { s1 with heap := s1.heap.push (revObj a ((its.toArray.size : Int) - 1)) } := I1.kept (t' := s1.toks) fun b o z => Heap.get?_push_of_some _ z
  obtain ⟨f0, f1, f2, f3, f4, f5⟩ := I1.fpOk (H' := H1) (b := s1.heap.objs.size) (Nat.le_refl _) (I1.hok.fresh (Nat.le_refl _))
  have hl := pl.isList
  obtain ⟨ol, hol, _⟩ := id hl
  have hsz : (s1.heap.push (revObj a ((its.toArray.size : Int) - 1))).objs.size = s1.heap.objs.size + 1 := size_push' ..
  refine call_list_rev (s := { s1 with heap := s1.heap.push (revObj a ((its.toArray.size : Int) - 1)) }) (I1.ok.hd hc) (by rw [List.size_toArray, ← rv.length]; exact hz) ⟨_, Heap.get?_push_size _ rfl, rfl, rfl⟩ (hl.push _) (Nat.ne_of_lt (Heap.lt_size hol)) fun h' tk acc c' hk e' hi => ?_
  have I3 : Inv X pins σ H1 { s1 with heap := h', toks := tk } := I2.turned (t' := tk) (fun b o hb z => hk b o hb z) f0 f1 f3 f4 f5
  have kp : ∀ b o, s1.heap.get? b = some o → h'.get? b = some o := fun b o z => hk b o (Nat.ne_of_lt (Heap.lt_size z)) (Heap.get?_push_of_some _ z)
  show EP X pins σ Q (.ref (s1.heap.push (revObj a ((its.toArray.size : Int) - 1))).objs.size) _
  rw [hsz]
  have e2 : h'.get? (s1.heap.objs.size + 1) = some { cls := .type "list", dict := none, data := .seq acc c', slots := #[] } := by
    rw [← hsz]
    exact e'
  refine ⟨.ref (s1.heap.objs.size + 1), upd H1 (s1.heap.objs.size + 1) (.lst xs.reverse), I1.laid (t' := tk) kp (Nat.le_succ _) ⟨by rw [List.length_reverse]; exact hz, acc.toList, c', RT.vals_rev rv hi, ?_⟩, rfl, q _ (I1.hok.fresh (Nat.le_succ _))⟩
  rw [Array.toArray_toList]
  exact e2
end
end Ef
namespace Ef
open PySem PySem.Spec PyProof.Rows L2
/-! ### repr of a list of one value of any sort -/
section
variable {X : Cx} {es : List Expr} {t : TA} {pos : Pos}
def tLstN (t : TA) : TE := fun σ H Q => t σ H fun xs H1 => xs.length ≤ sizeLine ∧ ∀ p, H1 p = none → p ≠ sysModules → Q (.ref p) (upd H1 p (.lst xs))
theorem far_new {pins : List (Addr × Obj)} {σ : L2.St} {H : Hp} {s : Shared} (I : Inv X pins σ H s) : s.heap.objs.size ≠ sysModules := by
  obtain ⟨mc, h1, _⟩ := I.nolimit
  have h2 : cStatics < s.heap.objs.size := h1.lt
  have h3 : (2 : Nat) < s.heap.objs.size := h2
  show ¬ s.heap.objs.size = 1
  omega
theorem pe_lstN (h : PA X es t) : PE X (.List es pos) (tLstN t) := by
  refine ⟨fun pins s σ H Q I hq => ?_⟩
  refine wpAny_List_spliced (thn (h.run pos pins s σ H _ I hq) fun us s1 ⟨xs, H1, I1, r, z, q⟩ => ⟨by rw [← r.length]; exact z, ?_⟩)
  have hf : H1 s1.heap.objs.size = none := I1.hok.fresh (Nat.le_refl _)
  refine ⟨.ref s1.heap.objs.size, upd H1 s1.heap.objs.size (.lst xs), I1.laid (t' := s1.toks) (fun b u e => Heap.get?_push_of_some _ e) (Nat.le_refl _) ?_, rfl, q _ hf (far_new I1)⟩
  exact ⟨z, us, 0, r, Heap.get?_push_size _ rfl⟩
end
/-- data that is not deep, or an empty dict -/
def ItemS (K : PySem.W.Frag) (H : Hp) (v : V) (d : PyData) : Prop := (Dp K H v d ∧ Sh 50 70000 d) ∨ (d = .dict [] ∧ ∃ p, v = .ref p ∧ H p = some (.dK []))
theorem ItemS.mono {K : PySem.W.Frag} {H H' : Hp} {v : V} {d : PyData} (s : Same H H') (h : ItemS K H v d) : ItemS K H' v d := by
  rcases h with ⟨h, h2⟩ | ⟨e, p, e2, h⟩
  · exact .inl ⟨Dp.mono s h, h2⟩
  · exact .inr ⟨e, p, e2, s _ _ h⟩
def rReprL (K : PySem.W.Frag) : List V → Hp → VK → Prop := fun xs H Q => ∃ l v d, xs = [.ref l] ∧ H l = some (.lst [v]) ∧ l ≠ sysModules ∧ ItemS K H v d ∧ Q (.str (PyData.list [d]).shown) H
section
variable {X : Cx} (K : PySem.W.Frag)
theorem call_reprL (gd : X.A.guards = some []) (hu : X.A.units + 66 < cLine) (h : X.K = K := by rfl) : CallR X (.builtin "repr") (rReprL K) := by
  subst h
  intro pins s σ H xs us Q I r h
  obtain ⟨l, v, d, rfl, hl, hne, hI, q⟩ := h
  rcases hI with ⟨hD, hS⟩ | ⟨rfl, p, rfl, hp⟩
  · refine call_reprD gd hu pins s σ H _ us Q I r ⟨.ref l, .list [d], rfl, .lst (SqL.of hl) (.cons hD .nil), ?_, q⟩
    exact (Sh.lst (ShAll.cons hS (ShAll.nil.mono (Nat.zero_le 50) (Nat.zero_le 0)))).mono (by decide) (by decide)
  · obtain ⟨u, rfl, ru⟩ := vals1 r
    obtain rfl : u = Value.ref l := ru
    obtain ⟨_, hsys, vs, kv, o, es, ep, ho, hx, hd, hk, hpr, hn⟩ := dk_of I.hok hp
    have e1 : vs = [] := by
      cases kv
      rfl
    subst e1
    have e2 : es.toList = [] := by
      generalize es.toList = l at hpr ⊢
      cases hpr
      rfl
    have rd : Reads s.heap (.ref p) (.dict []) (p :: [] ++ []) := by
      refine .dict ho hx.1 hd ?_ ?_
      · rw [e2]
        exact .nil
      · rw [e2]
        exact .nil
    obtain ⟨its, rv, ⟨ol, nl, g1, g2, g3, g4⟩, hz⟩ := I.list (SqL.of hl)
    obtain ⟨u, rfl, ru⟩ := vals1 rv
    obtain rfl : u = Value.ref p := ru
    have dep : PyData.depth (.list [.dict []]) ≤ 3 := by decide
    have rdl : Reads s.heap (.ref l) (.list [.dict []]) (l :: ((p :: [] ++ []) ++ [])) := .list g1 g2 (by first | exact g3 | exact g4) (.cons rd .nil)
    refine repr_of_reads' rdl rfl (fun _ hm => ?_) gd (by omega) (fun _ _ e => e) (fun h' u tk hk => ?_) (by decide +kernel)
    · have e3 : sysModules = l ∨ sysModules = p := by simpa using hm
      rcases e3 with e3 | e3
      · exact hne e3.symm
      · rw [← e3] at hsys
        exact absurd hsys (by simp)
    · exact ⟨.str _, H, I.kept hk, ⟨u, rfl⟩, q⟩
end
section
variable {X : Cx} (K : PySem.W.Frag)
theorem cr_allK (hc : X.calm = true := by rfl) (h : X.K = K := by rfl) : CallR X (.builtin "all") (rAll K) := h ▸ cr_all hc
end
end Ef
namespace Ef
open PySem PySem.Spec PyProof.Rows L2
/-! ### data: equal to itself, shown -/
theorem neD_same {K : PySem.W.Frag} {H : Hp} {x y : V} {d : PyData} {Q : VK} (hx : Dp K H x d) (hy : Dp K H y d) (s : Sh 60 80000 d) (q : Q (.bl false) H) : rNeD K x y H Q := by
  refine ⟨d, d, hx, hy, s.shaped (by decide), s.shaped (by decide), ?_⟩
  rw [SeqAt.eqv_refl d s.can]
  exact q
theorem eqD_same {K : PySem.W.Frag} {H : Hp} {x y : V} {d : PyData} {Q : VK} (hx : Dp K H x d) (hy : Dp K H y d) (s : Sh 60 80000 d) (q : Q (.bl true) H) : rEqD K x y H Q := by
  refine ⟨d, d, hx, hy, s.shaped (by decide), s.shaped (by decide), ?_⟩
  rw [SeqAt.eqv_refl d s.can]
  exact q
/-- numbers as data -/
def natD (ms : List Nat) : List PyData := ms.map fun (m : Nat) => PyData.int (m : Int)
theorem sh_nat {ms : List Nat} {b : Nat} (h0 : 0 < b) (h6 : b ≤ 600) (h : ∀ x ∈ ms, x < 2 ^ b) : ShAll 0 ((b + 1) * ms.length) (natD ms) := by
  have e : natD ms = (ms.map fun (m : Nat) => (m : Int)).map PyData.int := by
    unfold natD
    rw [List.map_map]
    rfl
  rw [e]
  have h1 := ShAll.ints h0 h6 (ns := ms.map fun (m : Nat) => (m : Int)) fun x hx => by
    obtain ⟨m, hm, rfl⟩ := List.mem_map.mp hx
    exact h m hm
  rw [List.length_map] at h1
  exact h1
theorem sh_list {ms : List Nat} (hl : ms.length ≤ 60) (h : ∀ x ∈ ms, x < 60) : Sh 1 500 (.tuple (natD ms)) := by
  have h1 := sh_nat (b := 6) (by decide) (by decide) (ms := ms) fun x hx => by
    have := h x hx
    omega
  exact Sh.tup (h1.mono (by decide) (by omega))
end Ef
set_option maxHeartbeats 4000000
namespace Ef
open PySem PySem.Spec PyProof.Rows L2
/-! ### x in l, l.index(x), l.count(x) where items are data -/
def rCntD (K : PySem.W.Frag) : V → List V → Hp → VK → Prop := fun x xs H Q => ∃ (a : Addr) (y : V) (d : PyData) (ds : List PyData), x = V.ref a ∧ xs = [y] ∧ Dp K H (V.ref a) (.list ds) ∧ Dp K H y d ∧
  SeqAt.shaped (.list ds) = true ∧ SeqAt.shaped d = true ∧ Q (.int (ds.countP (fun z => PyData.eqv z d) : Nat)) H
theorem mt_countD {X : Cx} (hu : X.A.units + 65 < cLine) : MtR X "list.count" (rCntD X.K) := by
  intro pins s σ H x xs v us Q I rx rxs h
  obtain ⟨a, y, d, ds, rfl, rfl, hl, hy, sl, sd, q⟩ := h
  cases rx
  cases rxs with
  | cons ry rt =>
    rename_i uy ut
    cases rt
    obtain ⟨bs, r1⟩ := Dp.reads I d y uy hy ry
    have hxs : PyData.canLayAll0 ds = true := SeqAt.canLay_of_shaped sl
    have hroom : X.A.units + 1 + min (PyData.depthAll ds) d.depth < cLine := room_in_shaped sd hu
    cases hl with
    | lst hs ha =>
      obtain ⟨its, rv, ⟨⟨cls, dd, data, sls⟩, n, ho, hc, hdn, hdt⟩, hlen⟩ := I.list hs
      simp only at hc hdt
      subst hc hdt
      obtain ⟨as, h4⟩ := Dp.readsAll I ds _ its ha rv
      have hmap : its.map (SeqAt.readOf s.heap) = ds := SeqAt.readsAll_map ds its as hxs h4
      refine call_meets PySem.F.slot_list_count ⟨_, ho, rfl⟩ PySem.F.entry_list_count (PySem.F.args_list_count_2 _ _)
        (SeqAt.list_countAt a its.toArray n dd sls uy (fun u => PyData.eqv (SeqAt.readOf s.heap u) d)) ⟨ho, SeqAt.items_eqAt (vs := its.toArray) (show ReadsAll s.heap its.toArray.toList ds as from h4) r1 hxs (SeqAt.canLay_of_shaped sd) hroom, ?_⟩
      refine ⟨.int (ds.countP (fun z => PyData.eqv z d) : Nat), H, I.tok _, ⟨s.toks, ?_⟩, q⟩
      show Value.int ((its.toArray.toList.countP (fun u => PyData.eqv (SeqAt.readOf s.heap u) d) : Nat) : Int) s.toks = _
      rw [← hmap, List.countP_map]
      rfl
theorem op_inDK {X : Cx} (K : PySem.W.Frag) (hu : X.A.units + 65 < cLine) (h : X.K = K := by rfl) : OpR X (compareOp .In) (rInD K) := h ▸ op_inD hu
theorem op_notInDK {X : Cx} (K : PySem.W.Frag) (hu : X.A.units + 65 < cLine) (h : X.K = K := by rfl) : OpR X (compareOp .NotIn) (rNotInD K) := h ▸ op_notInD hu
theorem mt_indexDK {X : Cx} (K : PySem.W.Frag) (hu : X.A.units + 65 < cLine) (h : X.K = K := by rfl) : MtR X "list.index" (rIndexD K) := h ▸ mt_indexD hu
theorem mt_countDK {X : Cx} (K : PySem.W.Frag) (hu : X.A.units + 65 < cLine) (h : X.K = K := by rfl) : MtR X "list.count" (rCntD K) := h ▸ mt_countD hu
/-- two lists of numbers, as data -/
theorem eqv_nats : ∀ (a b : List Nat), PyData.eqvAll (natD a) (natD b) = decide (a = b)
  | [], [] => by simp [natD, PyData.eqvAll]
  | [], b :: s => by simp [natD, PyData.eqvAll]
  | a :: r, [] => by simp [natD, PyData.eqvAll]
  | a :: r, b :: s => by
    have ih := eqv_nats r s
    have e : PyData.eqvAll (natD (a :: r)) (natD (b :: s)) = (((a : Int) == (b : Int)) && PyData.eqvAll (natD r) (natD s)) := by
      show PyData.eqvAll (PyData.int (a : Int) :: natD r) (PyData.int (b : Int) :: natD s) = _
      simp only [PyData.eqvAll, PyData.eqv]
    rw [e, ih]
    by_cases h1 : a = b
    · subst h1
      by_cases h2 : r = s
      · subst h2
        simp
      · simp [h2]
    · have h3 : ((a : Int) == (b : Int)) = false := beq_eq_false_iff_ne.mpr fun z => h1 (by omega)
      rw [h3]
      simp [h1]
theorem eqv_natT (a b : List Nat) : PyData.eqv (.tuple (natD a)) (.tuple (natD b)) = decide (a = b) := by
  simp only [PyData.eqv]
  exact eqv_nats a b
end Ef
set_option maxHeartbeats 4000000
namespace Ef
open PySem PySem.Spec PyProof.Rows L2
open PySem.W (dataLe AllAlike Sortable EachIs sorted_data sortLe_total TotalLe dataLt dataLt_tuple dataLt_ints)
/-! ### sorted of a list of data, any number of them -/
abbrev dLe : V × PyData → V × PyData → Bool := dataLe false (fun b : V × PyData => b.2)
def rSortD (K : PySem.W.Frag) : List V → Hp → VK → Prop := fun vs H Q => ∃ (a : Addr) (bs : List (V × PyData)), vs = [V.ref a] ∧ SqL K H a (bs.map (·.1)) ∧ (∀ b ∈ bs, Dp K H b.1 b.2) ∧ AllAlike (bs.map (·.2)) ∧ Sortable (bs.map (·.2)) ∧ (∀ b ∈ bs, b.2.depth ≤ 20) ∧
  ∀ p : Addr, H p = none → Q (.ref p) (upd H p (.lst ((bs.mergeSort dLe).map (·.1))))
theorem each_vals : ∀ {bs : List (V × PyData)} {us : List Value}, Vals (bs.map (·.1)) us → EachIs (fun u (b : V × PyData) => RelV b.1 u) us bs
  | [], _, .nil => .nil
  | _ :: _, _, .cons r t => .cons r (each_vals t)
theorem vals_each : ∀ {bs : List (V × PyData)} {us : List Value}, EachIs (fun u (b : V × PyData) => RelV b.1 u) us bs → Vals (bs.map (·.1)) us
  | [], _, .nil => .nil
  | _ :: _, _, .cons r t => .cons r (vals_each t)
section
variable {X : Cx} {K : PySem.W.Frag}
theorem each_reads {pins : List (Addr × Obj)} {σ : L2.St} {H : Hp} {s : Shared} (I : Inv X pins σ H s) : ∀ {bs : List (V × PyData)} {us : List Value}, (∀ b ∈ bs, Dp X.K H b.1 b.2) → EachIs (fun u (b : V × PyData) => RelV b.1 u) us bs → EachIs (fun u (b : V × PyData) => ∃ as, Reads s.heap u b.2 as) us bs
  | [], _, _, .nil => .nil
  | b :: _, _, h, .cons r t => .cons (Dp.reads I b.2 b.1 _ (h b List.mem_cons_self) r) (each_reads I (fun c hc => h c (List.mem_cons_of_mem _ hc)) t)
theorem cr_sortD (hu : X.A.units + 64 < cLine) (h : X.K = K := by rfl) : CallR X (.builtin "sorted") (rSortD K) := by
  subst h
  intro pins s σ H vs us Q I r hq
  obtain ⟨a, bs, rfl, hs, hd, hal, hk, hdp, q⟩ := hq
  obtain ⟨its, rv, hl, hz⟩ := I.list hs
  obtain ⟨u, rfl, ru⟩ := vals1 r
  obtain rfl : u = Value.ref a := ru
  have ee := each_vals rv
  have hz2 : bs.length ≤ sizeLine := by
    rw [List.length_map] at hz
    exact hz
  refine sorted_data (β := V × PyData) (bs := bs) (enc := fun b : V × PyData => b.2) (R := fun u (b : V × PyData) => RelV b.1 u) hl.isList ee (each_reads I hd ee) hal hk hz2 (fun b hb => by have := hdp b hb; omega) fun out hlen eo => ?_
  obtain ⟨n, hn⟩ := sortedAll_at s.heap its out.toArray
  refine ⟨.ref _, upd H (s.heap.objs.size + 1) (.lst ((bs.mergeSort dLe).map (·.1))), I.laid (t' := s.toks) (fun _ _ z => sortedAll_old z) (Nat.le_succ _) ⟨?_, out, n, vals_each eo, ?_⟩, rfl, q _ (I.hok.fresh (Nat.le_succ _))⟩
  · rw [List.length_map, List.length_mergeSort]
    exact hz2
  · simpa using hn
end
theorem sl_listK {X : Cx} {K : PySem.W.Frag} (h : X.K = K := by rfl) : SlR X (rSlL K) := h ▸ sl_list
def rDictP (K : PySem.W.Frag) : List V → Hp → VK → Prop := fun xs H Q => ∃ (a : Addr) (ps : List Addr) (kvs : List (Key × V)), xs = [.ref a] ∧ SqL K H a (ps.map V.ref) ∧ Paired (fun p kv => SqT K H p [kV kv.1, kv.2]) ps kvs ∧ ∀ p, H p = none → Q (.ref p) (upd H p (.dK (mergeK [] kvs)))
theorem call_dictPK {X : Cx} {K : PySem.W.Frag} (hc : X.calm = true) (h : X.K = K := by rfl) : CallR X (.type "dict") (rDictP K) := by
  subst h
  exact call_dictP hc
/-! the order -/
theorem dLe_ord : TotalLe dLe := sortLe_total _ false _
theorem dLe_trans (a b c : V × PyData) (h1 : dLe a b = true) (h2 : dLe b c = true) : dLe a c = true := dLe_ord.trans a b c h1 h2
theorem dLe_total (a b : V × PyData) : (dLe a b || dLe b a) = true := (Bool.or_eq_true _ _).mpr (dLe_ord.total a b)
theorem dsort_perm (bs : List (V × PyData)) : (bs.mergeSort dLe).Perm bs := List.mergeSort_perm bs dLe
theorem dsort_asc (bs : List (V × PyData)) : (bs.mergeSort dLe).Pairwise fun a b => dLe a b = true := List.pairwise_mergeSort dLe_trans dLe_total bs
theorem dsort_id {bs : List (V × PyData)} (h : bs.Pairwise fun a b => dLe a b = true) : bs.mergeSort dLe = bs := List.mergeSort_of_pairwise h
theorem dLe_lt (a b : V × PyData) : dLe a b = !dataLt b.2 a.2 := rfl
theorem dLe_ints {u v : V} {xs ys : List Int} : dLe (u, .tuple (xs.map .int)) (v, .tuple (ys.map .int)) = !decide (ys < xs) := by
  rw [dLe_lt]
  show (!dataLt (.tuple (ys.map .int)) (.tuple (xs.map .int))) = _
  rw [dataLt_tuple]
  exact congrArg (!·) (dataLt_ints ys xs)
end Ef
namespace Ef
open PySem PySem.Spec PyProof.Rows L2
/-! ### a comprehension within a comprehension -/
theorem lookup_map (c : Str → NameKind → Bool) (x : Str) : ∀ names : List (Str × NameKind), (names.lookup x = some .cell ∨ names.lookup x = some .free) → ((names.map fun (n, k) => if c n k = true then (n, NameKind.cell) else (n, k)).lookup x = some .cell ∨ (names.map fun (n, k) => if c n k = true then (n, NameKind.cell) else (n, k)).lookup x = some .free)
  | [], h => by simp at h
  | (n, k) :: r, h => by
    rw [List.map_cons]
    by_cases e : x == n
    · rw [List.lookup_cons, e] at h
      by_cases cc : c n k = true
      · simp only [cc, if_true]
        rw [List.lookup_cons, e]
        exact .inl rfl
      · simp only [cc, Bool.false_eq_true, if_false]
        rw [List.lookup_cons, e]
        exact h
    · have e2 : (x == n) = false := by simpa using e
      rw [List.lookup_cons, e2] at h
      have ih := lookup_map c x r h
      by_cases cc : c n k = true
      · simp only [cc, if_true]
        rw [List.lookup_cons, e2]
        exact ih
      · simp only [cc, Bool.false_eq_true, if_false]
        rw [List.lookup_cons, e2]
        exact ih
theorem blkOk_in {N : List Str} {sc scope : Scope} {own : List (Str × Nat)} {env : Env} (h : BlkOk N sc scope own) : BlkOk N (relabel sc env) scope own :=
  ⟨h.kind, h.uniq, h.ix, fun y hy e => lookup_map (fun n k => k == NameKind.free && env.scope.kind == .function && env.kindOf n == some .cell) y.1 sc.names (h.free y hy e), h.own⟩
end Ef
set_option maxHeartbeats 4000000
namespace Ef
open PySem PySem.Spec PyProof.Rows L2
/-! ### set(t) of a tuple of ints with its size, len(s) of a set -/
/-- c is the number of different ones among ns -/
def Diff (ns : List Int) (c : Nat) : Prop := ∃ ks : List Int, ks.Nodup ∧ (∀ k, k ∈ ks ↔ k ∈ ns) ∧ ks.length = c
theorem Diff.nodup {ns : List Int} {c : Nat} (h : Diff ns c) (hn : ns.Nodup) : c = ns.length := by
  obtain ⟨ks, h1, h2, rfl⟩ := h
  exact ((List.perm_ext_iff_of_nodup h1 hn).mpr h2).length_eq
theorem sub_len : ∀ {ks ns : List Int}, ks.Nodup → (∀ k ∈ ks, k ∈ ns) → ks.length ≤ ns.length
  | [], _, _, _ => Nat.zero_le _
  | k :: r, ns, h, hs => by
    have hk := hs k List.mem_cons_self
    have h1 := sub_len (ks := r) (ns := ns.erase k) (List.nodup_cons.mp h).2 fun x hx => (List.mem_erase_of_ne (fun e : x = k => (List.nodup_cons.mp h).1 (e ▸ hx))).mpr (hs x (List.mem_cons_of_mem _ hx))
    have h2 := List.length_erase_of_mem hk
    have h3 := List.length_pos_of_mem hk
    show r.length + 1 ≤ ns.length
    omega
theorem sub_perm : ∀ {ks ns : List Int}, ks.Nodup → (∀ k ∈ ks, k ∈ ns) → ns.length ≤ ks.length → ks.Perm ns
  | [], ns, _, _, h => by
    have : ns = [] := List.length_eq_zero_iff.mp (Nat.le_zero.mp h)
    rw [this]
  | k :: r, ns, h, hs, hl => by
    have hk := hs k List.mem_cons_self
    have h2 := List.length_erase_of_mem hk
    have hl2 : ns.length ≤ r.length + 1 := hl
    have h1 := sub_perm (ks := r) (ns := ns.erase k) (List.nodup_cons.mp h).2 (fun x hx => (List.mem_erase_of_ne (fun e : x = k => (List.nodup_cons.mp h).1 (e ▸ hx))).mpr (hs x (List.mem_cons_of_mem _ hx))) (by omega)
    exact (h1.cons k).trans (List.perm_cons_erase hk).symm
theorem Diff.le {ns : List Int} {c : Nat} (h : Diff ns c) : c ≤ ns.length := by
  obtain ⟨ks, h1, h2, rfl⟩ := h
  exact sub_len h1 fun k hk => (h2 k).mp hk
theorem Diff.not {ns : List Int} {c : Nat} (h : Diff ns c) (hn : ¬ ns.Nodup) : c ≠ ns.length := by
  intro e
  obtain ⟨ks, h1, h2, rfl⟩ := h
  have p : ks.Perm ns := sub_perm h1 (fun k hk => (h2 k).mp hk) (by omega)
  exact hn (p.nodup_iff.mp h1)
section
variable {X : Cx} {K : PySem.W.Frag} {w : World}
theorem setR_diff {h : Heap} {a : Addr} {ns : List Int} {c : Nat} (R : SetR w h a (fun j => decide (j ∈ ns)) c) : Diff ns c := by
  obtain ⟨o, es, ep, t, _, _, _, _, nd, mem, _, _, sz, _⟩ := R
  refine ⟨es.toList.map keyOf, nd, fun k => ?_, ?_⟩
  · rw [← mem k]
    exact decide_eq_true_iff
  · rw [List.length_map, Array.length_toList]
    exact sz
def rSetTn (K : PySem.W.Frag) (w : World) : List V → Hp → VK → Prop := fun xs H Q => ∃ (l : Addr) (ns : List Int), xs = [.ref l] ∧ (SqT K H l (ns.map V.int)) ∧ ns.length ≤ 1000 ∧
    ∀ (p : Addr) (c : Nat), H p = none → Diff ns c → Q (.ref p) (upd H p (SetO w p (fun j => decide (j ∈ ns)) c))
theorem cr_setTn (hc : X.calm = true) (h : X.K = K := by rfl) (hw : X.w = w := by rfl) : CallR X (.type "set") (rSetTn K w) := by
  subst h hw
  intro pins s σ H xs us Q I r h
  obtain ⟨l, ns, rfl, hq, hl, q⟩ := h
  obtain ⟨u, rfl, ru⟩ := vals1 r
  obtain rfl : u = Value.ref l := ru
  obtain ⟨its, rv, pt, hz⟩ := I.tuple hq
  refine call_set_tupI ns (I.ok.hd hc) (show s.heap.IsTuple l its.toArray from pt) (ints_of_vals rv) (by unfold scanBound; omega) fun h' tk c R1 hcn k => ?_
  exact ⟨.ref _, _, I.laid (t' := tk) k (Nat.le_refl _) (setO_new R1), rfl, q _ c (I.hok.fresh (Nat.le_refl _)) (setR_diff R1)⟩
def rLenSet (w : World) : List V → Hp → VK → Prop := fun xs H Q => ∃ (p : Addr) (S : Int → Bool) (c : Nat), xs = [.ref p] ∧ H p = some (SetO w p S c) ∧ Q (.int (c : Int)) H
theorem call_lenSet (hw : X.w = w := by rfl) : CallR X (.builtin "len") (rLenSet w) := by
  subst hw
  intro pins s σ H xs us Q I r h
  obtain ⟨p, S, c, rfl, hp, q⟩ := h
  obtain ⟨u, rfl, ru⟩ := vals1 r
  obtain rfl : u = Value.ref p := ru
  obtain ⟨o, es, ep, t, ho, hex, hd, _, _, _, sb, hf, hn, _⟩ := setO_get I hp
  have b : (es.size : Int) < 2 ^ 63 := by
    have : scanBound ≤ 2 ^ 62 := by unfold scanBound; decide
    omega
  exact call_len_set ho hex hd hf b ⟨.int c, H, I.tok _, ⟨_, by rw [hn]⟩, q⟩
end
end Ef
set_option maxHeartbeats 4000000
namespace Ef
open PySem PySem.Spec PyProof.Rows L2
/-! ### a list or a tuple walked through; len(set(xs)) of a list -/
def iEither (K : PySem.W.Frag) (tl : TE) : TI := fun σ H R => iList K tl σ H R ∨ iTup K tl σ H R
theorem pi_either {X : Cx} (K : PySem.W.Frag) {tg l : Expr} {tl : TE} (hl : PE X l tl) (h : X.K = K := by rfl) : PI X tg l (iEither K tl) := by
  subst h
  exact ⟨fun pins s σ H R I h => h.elim ((pi_list hl).run pins s σ H R I) ((pi_tup hl).run pins s σ H R I)⟩
theorem for_either {K : PySem.W.Frag} {a : Addr} {xs : List V} {g : TG} {tb : TS} {D : Ends} {σ : L2.St} {H : Hp} {i : Nat} (hv : σ[i]? = some (some (.ref a))) (hA : SqL K H a xs ∨ SqT K H a xs) (Pv : Nat → L2.St → Hp → Prop) (h0 : Pv 0 σ H) (hl : ∀ i σ H', Pv i σ H' → Same H H')
    (hs : ∀ i x σ H, xs[i]? = some x → Pv i σ H → g x σ H fun σ2 H2 => tb { D with nx := Pv (i + 1), ct := Pv (i + 1), bk := D.nx } σ2 H2) (hd : ∀ σ H, Pv xs.length σ H → D.nx σ H) : tFor (iEither K (tVar i)) g tb D σ H := by
  rcases hA with hA | hA
  · exact .inl ⟨.ref a, hv, a, rfl, ⟨_, hA⟩, for_list Pv h0 (fun i σ H' _ p => (hl i σ H' p).seq hA) hs hd⟩
  · exact .inr ⟨.ref a, hv, a, rfl, ⟨_, hA⟩, for_tup Pv h0 (fun i σ H' _ p => Same.seqT (hl i σ H' p) hA) hs hd⟩
/-- a method of a list, in a comprehension -/
theorem pe_bmK {X : Cx} (K : PySem.W.Frag) {T : String} {name : Str} {id : String} {r : V → List V → Hp → VK → Prop} {o e : Expr} {es : List Expr} {to : TE} {t : TA} {apos cpos : Pos} (pa : PlainAttrs T) (slot : Slot T name id) (hty : typeOf (.builtin id) = pure (.type "method_descriptor")) (hm : MtR X id r) (ho : PE X o to) (ha : PA X (e :: es) t) (h : X.K = K := by rfl)
    (hbase : attributeBase o name X.env (eval o X.env) = eval o X.env := by rfl)
    (hfew : ((backTo cpos (starEach (e :: es) X.env)).all (fun x => !x.1) && (backToKw cpos (keywordEach [] X.env)).all (fun x => x.1.isSome)
      && decide ((e :: es).length + ([] : List Keyword).length + (if ([] : List Keyword).isEmpty then 0 else 1) < 30)) = true := by rfl)
    (hline : (apos.endLine == cpos.line) = true := by rfl) (hs : starEach (e :: es) X.env = (false, eval e X.env) :: starEach es X.env := by rfl) (hplain : (backTo cpos (starEach es X.env)).any (·.1) = false := by rfl) : PE X (.Call (.Attribute o name apos) (e :: es) [] cpos) (tBM K T r to t) := h ▸ pe_bm pa slot hty hm ho ha hbase hfew hline hs hplain
theorem lc_either {K : PySem.W.Frag} {a : Addr} {xs : List V} {g : TG} {tt : TT} {te : TE} {vs : List Nat} {σ : L2.St} {H : Hp} {Q : VK} {i : Nat} (hv : σ[i]? = some (some (.ref a))) (hA : SqL K H a xs ∨ SqT K H a xs) (Pv : Addr → Nat → Hp → Prop) (h0 : ∀ D, H D = none → Pv D 0 (upd H D (.lst []))) (hl : ∀ D k H', Pv D k H' → Same H H')
    (hs : ∀ D, H D = none → ∀ k x H', xs[k]? = some x → Pv D k H' → g x (wipe σ vs) H' fun σ2 H2 => wipe σ2 vs = wipe σ vs ∧ tt σ2 H2 fun b H3 => if b = true then te σ2 H3 fun y H4 => ∃ acc, H4 D = some (.lst acc) ∧ acc.length < sizeLine ∧ Pv D (k + 1) (upd H4 D (.lst (acc ++ [y]))) else Pv D (k + 1) H3)
    (hd : ∀ D, H D = none → ∀ H', Pv D xs.length H' → Q (.ref D) H') : tLc (iEither K (tVar i)) g tt te vs σ H Q := by
  rcases hA with hA | hA
  · exact .inl ⟨.ref a, hv, a, rfl, ⟨_, hA⟩, fun D nD => lc_list (Pv D) (h0 D nD) (fun k H' _ p => (hl D k H' p).seq hA) (hs D nD) (hd D nD)⟩
  · exact .inr ⟨.ref a, hv, a, rfl, ⟨_, hA⟩, fun D nD => lc_tup (Pv D) (h0 D nD) (fun k H' _ p => Same.seqT (hl D k H' p) hA) (hs D nD) (hd D nD)⟩
/-- a dict comprehension over anything that is walked -/
theorem dc_walk {J : It} {n : Nat} {G : Hp → Prop} {Y : Nat → Hp → V → Hp → Prop} (wk : Walk J n G Y) {g : TG} {tt : TT} {tk tv : TE} {vs : List Nat} {σ : L2.St} {H1 : Hp} {D : Addr} {Qd : Hp → Prop} (Pv : Nat → Hp → Prop) (h0 : Pv 0 (upd H1 D (.dK []))) (hG : ∀ k H, k ≤ n → Pv k H → G H)
    (hs : ∀ k x H H', k < n → Pv k H → Y k H x H' → g x (wipe σ vs) H' fun σ2 H2 => wipe σ2 vs = wipe σ vs ∧ tt σ2 H2 fun b H3 =>
      if b = true then tk σ2 H3 fun y H4 => tv σ2 H4 fun z H5 => ∃ kvs k', y = kV k' ∧ H5 D = some (.dK kvs) ∧ kvs.length < sizeLine ∧ Pv (k + 1) (upd H5 D (.dK (putK kvs k' z))) else Pv (k + 1) H3) (hd : ∀ H, Pv n H → Qd H) :
    ∃ W : Nat → Nat → Hp → Prop, (∃ m, W 0 m (upd H1 D (.dK []))) ∧ ∀ k m H, W k m H →
      (J.stop k H ∧ Qd H) ∨ (J.go k H ∧ ∃ Nx : Hp → Prop, (∀ H', Nx H' → ∃ m', m' < m ∧ W (k + 1) m' H') ∧ ∀ x H', J.yld k H x H' → g x (wipe σ vs) H' fun σ2 H2 => wipe σ2 vs = wipe σ vs ∧ tt σ2 H2 fun b H3 =>
        if b = true then tk σ2 H3 fun y H4 => tv σ2 H4 fun z H5 => ∃ kvs k', y = kV k' ∧ H5 D = some (.dK kvs) ∧ kvs.length < sizeLine ∧ Nx (upd H5 D (.dK (putK kvs k' z))) else Nx H3) := by
  refine ⟨fun k m H => (m = n - k ∧ k ≤ n) ∧ Pv k H, ⟨n, ⟨by omega, Nat.zero_le _⟩, h0⟩, fun k m H hw => ?_⟩
  obtain ⟨⟨hm, hk⟩, hp⟩ := hw
  have hg := hG k H hk hp
  rcases Nat.lt_or_eq_of_le hk with hlt | heq
  · exact .inr ⟨wk.goes k H hlt hg, Pv (k + 1), fun H' hp' => ⟨n - (k + 1), by omega, ⟨rfl, hlt⟩, hp'⟩, fun x H' hy => hs k x H H' hlt hp (wk.yields k H x H' hlt hg hy)⟩
  · subst heq
    exact .inl ⟨wk.stops H hg, hd H hp⟩
theorem dc_either {K : PySem.W.Frag} {a : Addr} {xs : List V} {g : TG} {tt : TT} {tk tv : TE} {vs : List Nat} {σ : L2.St} {H : Hp} {Q : VK} {i : Nat} (hv : σ[i]? = some (some (.ref a))) (hA : SqL K H a xs ∨ SqT K H a xs) (Pv : Addr → Nat → Hp → Prop) (h0 : ∀ D, H D = none → Pv D 0 (upd H D (.dK []))) (hl : ∀ D k H', Pv D k H' → Same H H')
    (hs : ∀ D, H D = none → ∀ k x H', xs[k]? = some x → Pv D k H' → g x (wipe σ vs) H' fun σ2 H2 => wipe σ2 vs = wipe σ vs ∧ tt σ2 H2 fun b H3 => if b = true then tk σ2 H3 fun y H4 => tv σ2 H4 fun z H5 => ∃ kvs k', y = kV k' ∧ H5 D = some (.dK kvs) ∧ kvs.length < sizeLine ∧ Pv D (k + 1) (upd H5 D (.dK (putK kvs k' z))) else Pv D (k + 1) H3)
    (hd : ∀ D, H D = none → ∀ H', Pv D xs.length H' → Q (.ref D) H') : tDc (iEither K (tVar i)) g tt tk tv vs σ H Q := by
  rcases hA with hA | hA
  · exact .inl ⟨.ref a, hv, a, rfl, ⟨_, hA⟩, fun D nD => dc_walk walk_list (Pv D) (h0 D nD) (fun k H' _ p => (hl D k H' p).seq hA) (fun k x H2 H' hk hp hy => by obtain ⟨e1, e2⟩ := hy; rw [e1]; exact hs D nD k x H2 e2 hp) (hd D nD)⟩
  · exact .inr ⟨.ref a, hv, a, rfl, ⟨_, hA⟩, fun D nD => dc_tup (Pv D) (h0 D nD) (fun k H' _ p => Same.seqT (hl D k H' p) hA) (hs D nD) (hd D nD)⟩
/-- an item of a list or of a tuple -/
theorem ix_either {X : Cx} (K : PySem.W.Frag) (h : X.K = K := by rfl) : IxR X (fun x y H Q => rIxL K x y H Q ∨ rIxT K x y H Q) := by
  intro value slice pins s σ H x y v u Q I rx ry hq
  rcases hq with hq | hq
  · exact ix_listK K h value slice pins s σ H x y v u Q I rx ry hq
  · exact ix_tupK K h value slice pins s σ H x y v u Q I rx ry hq
def rSetLn (K : PySem.W.Frag) (w : World) : List V → Hp → VK → Prop := fun xs H Q => ∃ (l : Addr) (ns : List Int), xs = [.ref l] ∧ SqL K H l (ns.map V.int) ∧ ns.length ≤ 1000 ∧
    ∀ (p : Addr) (c : Nat), H p = none → Diff ns c → Q (.ref p) (upd H p (SetO w p (fun j => decide (j ∈ ns)) c))
theorem cr_setLn {X : Cx} (K : PySem.W.Frag) (w : World) (hc : X.calm = true) (h : X.K = K := by rfl) (hw : X.w = w := by rfl) : CallR X (.type "set") (rSetLn K w) := by
  subst h hw
  intro pins s σ H xs us Q I r h
  obtain ⟨l, ns, rfl, hq, hl, q⟩ := h
  obtain ⟨u, rfl, ru⟩ := vals1 r
  obtain rfl : u = Value.ref l := ru
  obtain ⟨its, rv, pt, hz⟩ := I.list hq
  refine call_setL ns (I.ok.hd hc) (show s.heap.IsList l its.toArray from pt.isList) (ints_of_vals rv) (by unfold scanBound; omega) fun h' tk c R1 hcn k => ?_
  exact ⟨.ref _, _, I.laid (t' := tk) k (Nat.le_refl _) (setO_new R1), rfl, q _ c (I.hok.fresh (Nat.le_refl _)) (setR_diff R1)⟩
/-- at most one different number -/
theorem Diff.one {ns : List Int} {c : Nat} (h : Diff ns c) : c ≤ 1 ↔ ∀ a ∈ ns, ∀ b ∈ ns, a = b := by
  obtain ⟨ks, h1, h2, rfl⟩ := h
  constructor
  · intro hc a ha b hb
    have ha2 := (h2 a).mpr ha
    have hb2 := (h2 b).mpr hb
    match ks, hc, ha2, hb2 with
    | [], _, ha2, _ => cases ha2
    | [x], _, ha2, hb2 => exact (List.mem_singleton.mp ha2).trans (List.mem_singleton.mp hb2).symm
  · intro h
    match ks, h1, h2 with
    | [], _, _ => exact Nat.zero_le _
    | [x], _, _ => exact Nat.le_refl _
    | x :: y :: r, h1, h2 =>
      exfalso
      obtain ⟨g1, _⟩ := List.nodup_cons.mp h1
      have := h x ((h2 x).mp List.mem_cons_self) y ((h2 y).mp (List.mem_cons_of_mem _ List.mem_cons_self))
      exact g1 (this ▸ List.mem_cons_self)
end Ef
namespace Ef
/-! ### the lists ascend -/
abbrev intL (ms : List Nat) : List Int := ms.map fun (m : Nat) => (m : Int)
theorem lt_cons {a b : Int} {l m : List Int} : a :: l < b :: m ↔ a < b ∨ a = b ∧ l < m := List.cons_lt_cons_iff
/-- m is not before l -/
def LexLe (l m : List Nat) : Prop := ¬ intL m < intL l
theorem LexLe.cons_lt {a b : Nat} {l m : List Nat} (h : a < b) : LexLe (a :: l) (b :: m) := fun z => by
  have z2 : ((b : Int) :: intL m) < ((a : Int) :: intL l) := z
  rcases lt_cons.mp z2 with z | ⟨z, _⟩ <;> omega
theorem LexLe.cons_eq {a : Nat} {l m : List Nat} (h : LexLe l m) : LexLe (a :: l) (a :: m) := fun z => by
  have z2 : ((a : Int) :: intL m) < ((a : Int) :: intL l) := z
  rcases lt_cons.mp z2 with z | ⟨_, z⟩
  · omega
  · exact h z
theorem asc_lt {L : List Nat} (a : Asc L) {i j x y : Nat} (hi : L[i]? = some x) (hj : L[j]? = some y) (h : i < j) : x < y := by
  obtain ⟨a1, a2⟩ := List.getElem?_eq_some_iff.mp hi
  obtain ⟨b1, b2⟩ := List.getElem?_eq_some_iff.mp hj
  rw [← a2, ← b2]
  exact List.pairwise_iff_getElem.mp a i j a1 b1 h
theorem fol_asc {n c : Nat} : ∀ {ss L : List Nat} {r r' : Nat}, FolOk n c ss L r → FolOk n c ss L r' → Asc L → r ≤ r' → LexLe (fol n c ss L r).1 (fol n c ss L r').1
  | [], _, _, _, _, _, _, _ => fun z => by cases z
  | s :: ss, L, r, r', ⟨w0, h1, g1, o1⟩, ⟨_, h2, g2, o2⟩, a, h => by
    rw [fol_cons, fol_cons]
    have hd : r / wd n c s ≤ r' / wd n c s := Nat.div_le_div_right h
    by_cases e : r / wd n c s = r' / wd n c s
    · have m1 := Nat.div_add_mod r (wd n c s)
      have m2 := Nat.div_add_mod r' (wd n c s)
      rw [← e] at o2 m2 ⊢
      have hm : r % wd n c s ≤ r' % wd n c s := by omega
      exact LexLe.cons_eq (fol_asc o1 o2 (asc_erase a _) (by omega))
    · exact LexLe.cons_lt (asc_lt a (getD_of h1) (getD_of h2) (by omega))
theorem path_asc {n d c k k' : Nat} (h : Std n d c) (hk : k ≤ k') (hk' : k' < c) : LexLe (path n d c k).1 (path n d c k').1 :=
  fol_asc (path_ok h (by omega)) (path_ok h hk') (asc_range' n 0) hk
end Ef
set_option maxHeartbeats 4000000
namespace Ef
open PySem PySem.Spec PyProof.Rows L2
/-! ### dicts whose keys are tuples, nested at will -/
mutual
/-- the value is this key -/
inductive NkAt (K : PySem.W.Frag) (H : Hp) : NestedKey → V → Prop
  | num (i : Int) : NkAt K H (.num i) (.int i)
  | tup {a : Addr} {xs : List V} {ks : List NestedKey} : SqT K H a xs → NkAll K H ks xs → NkAt K H (.tup ks) (.ref a)
inductive NkAll (K : PySem.W.Frag) (H : Hp) : List NestedKey → List V → Prop
  | nil : NkAll K H [] []
  | cons {k : NestedKey} {v : V} {ks : List NestedKey} {vs : List V} : NkAt K H k v → NkAll K H ks vs → NkAll K H (k :: ks) (v :: vs)
end
mutual
theorem NkAt.mono {K : PySem.W.Frag} {H H' : Hp} (m : ∀ a xs, SqT K H a xs → SqT K H' a xs) : ∀ (k : NestedKey) (v : V), NkAt K H k v → NkAt K H' k v
  | .none, _, h => by cases h
  | .num i, _, h => by cases h; exact .num i
  | .text x, _, h => by cases h
  | .tup ks, _, h => by
    cases h with
    | tup h1 h2 => exact .tup (m _ _ h1) (NkAll.mono m ks _ h2)
theorem NkAll.mono {K : PySem.W.Frag} {H H' : Hp} (m : ∀ a xs, SqT K H a xs → SqT K H' a xs) : ∀ (ks : List NestedKey) (vs : List V), NkAll K H ks vs → NkAll K H' ks vs
  | [], _, h => by cases h; exact .nil
  | k :: ks, _, h => by
    cases h with
    | cons h1 h2 => exact .cons (NkAt.mono m k _ h1) (NkAll.mono m ks _ h2)
end
theorem NkAt.same {K : PySem.W.Frag} {H H' : Hp} {k : NestedKey} {v : V} (s : Same H H') (h : NkAt K H k v) : NkAt K H' k v := NkAt.mono (fun _ _ z => Same.seqT s z) k v h
section
variable {X : Cx} {pins : List (Addr × Obj)} {σ : L2.St} {H : Hp} {s : Shared}
mutual
theorem nk_is (I : Inv X pins σ H s) : ∀ (k : NestedKey) (v : V) (u : Value), NkAt X.K H k v → RelV v u → NestedIs s.heap k u
  | .none, _, _, h, _ => by cases h
  | .num i, _, u, h, r => by
    cases h
    obtain ⟨t, rfl⟩ := (show ∃ t, u = Value.int i t from r)
    exact .int i t
  | .text x, _, _, h, _ => by cases h
  | .tup ks, _, u, h, r => by
    cases h with
    | @tup a xs _ h1 h2 =>
      obtain rfl : u = Value.ref a := r
      obtain ⟨its, rv, ⟨o, ho, hc, n, hd⟩, _⟩ := I.tuple h1
      exact .tup ho hc hd (by simpa using nk_all I ks _ _ h2 rv)
theorem nk_all (I : Inv X pins σ H s) : ∀ (ks : List NestedKey) (vs : List V) (us : List Value), NkAll X.K H ks vs → Vals vs us → NestedAll s.heap ks us
  | [], _, _, h, r => by
    cases h
    cases r
    exact .nil
  | k :: ks, _, _, h, r => by
    cases h with
    | cons h1 h2 =>
      cases r with
      | cons r1 r2 => exact .cons (nk_is I k _ _ h1 r1) (nk_all I ks _ _ h2 r2)
end
end
abbrev DRel : List (NestedKey × Addr × V) → List (NestedKey × Addr × Value) → Prop := PySem.Paired fun p q => p.1 = q.1 ∧ p.2.1 = q.2.1 ∧ RelV p.2.2 q.2.2
abbrev KN (xs : List (NestedKey × Addr × V)) : List (NestedKey × V) := xs.map fun x => (x.1, x.2.2)
theorem DRel.val {xs : List (NestedKey × Addr × V)} {ys : List (NestedKey × Addr × Value)} (r : DRel xs ys) (k : NestedKey) : RelO (valV (KN xs) k) ((atKey ys k).map (·.2)) := by
  induction r with
  | nil => exact True.intro
  | @cons p q ps qs h t ih =>
    obtain ⟨h1, _, h2⟩ := h
    by_cases e : p.1 = k
    · have e' : q.1 = k := h1.symm.trans e
      have b : atKey (q :: qs) k = some q.2 := by simp [atKey, List.find?_cons, e']
      rw [b]
      show RelO (valV ((p.1, p.2.2) :: KN ps) k) _
      rw [valV_pos e]
      exact h2
    · have e' : ¬ q.1 = k := fun z => e (h1.trans z)
      have b : atKey (q :: qs) k = atKey qs k := by simp [atKey, List.find?_cons, e']
      rw [b]
      show RelO (valV ((p.1, p.2.2) :: KN ps) k) _
      rw [valV_neg e]
      exact ih
/-- d[k] = v over the pairs with their keys' places -/
def putN (xs : List (NestedKey × Addr × V)) (k : NestedKey) (b : Addr) (v : V) : List (NestedKey × Addr × V) :=
  if (valV (KN xs) k).isSome = true then xs.map (fun x => if x.1 = k then (x.1, x.2.1, v) else x) else xs ++ [(k, b, v)]
theorem DRel.repl {xs : List (NestedKey × Addr × V)} {ys : List (NestedKey × Addr × Value)} (r : DRel xs ys) (k : NestedKey) {y : V} {u : Value} (ry : RelV y u) :
    DRel (xs.map fun x => if x.1 = k then (x.1, x.2.1, y) else x) (ys.map (putAt k u)) := by
  induction r with
  | nil => exact .nil
  | @cons p q ps qs h t ih =>
    rw [List.map_cons, List.map_cons]
    refine .cons ?_ ih
    obtain ⟨h1, h2, h3⟩ := h
    unfold putAt
    by_cases e : p.1 = k
    · rw [if_pos e, if_pos (h1.symm.trans e)]; exact ⟨h1, h2, ry⟩
    · rw [if_neg e, if_neg (fun z => e (h1.trans z))]; exact ⟨h1, h2, h3⟩
theorem DRel.put {xs : List (NestedKey × Addr × V)} {ys : List (NestedKey × Addr × Value)} (r : DRel xs ys) (k : NestedKey) (b : Addr) {y : V} {u : Value} (ry : RelV y u) :
    DRel (putN xs k b y) (storedH ys k b u) := by
  have e : (valV (KN xs) k).isSome = (atKey ys k).isSome := by
    rw [(r.val k).isSome_eq, Option.isSome_map]
  unfold putN storedH
  rw [e]
  by_cases q : (atKey ys k).isSome = true
  · rw [if_pos q, if_pos q]; exact r.repl k ry
  · rw [if_neg q, if_neg q]; exact Paired.snoc r ⟨rfl, rfl, ry⟩
theorem KN_put (xs : List (NestedKey × Addr × V)) (k : NestedKey) (b : Addr) (v : V) : KN (putN xs k b v) = putK (KN xs) k v := by
  unfold putN putK
  rw [valV_any]
  by_cases q : (valV (KN xs) k).isSome = true
  · rw [if_pos q, if_pos q]
    unfold KN
    rw [List.map_map, List.map_map]
    refine List.map_congr_left fun x _ => ?_
    show ((if x.1 = k then (x.1, x.2.1, v) else x).1, (if x.1 = k then (x.1, x.2.1, v) else x).2.2) = if x.1 = k then (x.1, v) else (x.1, x.2.2)
    by_cases e : x.1 = k
    · rw [if_pos e, if_pos e]
    · rw [if_neg e, if_neg e]
  · rw [if_neg q, if_neg q]
    unfold KN
    rw [List.map_append]
    rfl
theorem putN_mem {xs : List (NestedKey × Addr × V)} {k : NestedKey} {b : Addr} {v : V} {x : NestedKey × Addr × V} (h : x ∈ putN xs k b v) : (∃ y ∈ xs, x.1 = y.1 ∧ x.2.1 = y.2.1) ∨ (x.1 = k ∧ x.2.1 = b) := by
  unfold putN at h
  split at h
  · obtain ⟨y, hy, rfl⟩ := List.mem_map.mp h
    refine .inl ⟨y, hy, ?_⟩
    by_cases e : y.1 = k
    · rw [if_pos e]; exact ⟨rfl, rfl⟩
    · rw [if_neg e]; exact ⟨rfl, rfl⟩
  · rcases List.mem_append.mp h with h | h
    · exact .inl ⟨x, h, rfl, rfl⟩
    · rw [List.mem_singleton.mp h]
      exact .inr ⟨rfl, rfl⟩
/-- a dict at a: its keys, where they stand, its values -/
def DN (P : Program) (w : World) (a : Addr) (xs : List (NestedKey × Addr × V)) : HO := .ext fun h => (a == sysModules) = false ∧ xs.length ≤ sizeLine ∧ ∃ ys : List (NestedKey × Addr × Value), DRel xs ys ∧
  ∃ o es ep, h.get? a = some o ∧ o.ExactDict ∧ o.data = .dict es ep ∧ es.toList = ys.map (entryOfKey (nestedKind P w)) ∧ (ys.map (·.1)).Nodup
theorem dn_ok {P : Program} {w : World} {H : Hp} {h : Heap} {a : Addr} {xs : List (NestedKey × Addr × V)} (h1 : (a == sysModules) = false) (h2 : xs.length ≤ sizeLine) {ys : List (NestedKey × Addr × Value)} (r : DRel xs ys) (d : h.DictOfH (nestedKind P w) a ys) :
    ObjOk P w H h a (DN P w a xs) := by
  obtain ⟨o, es, ep, e1, e2, e3, e4, _, e5⟩ := d
  refine ⟨⟨h1, h2, ys, r, o, es, ep, e1, e2, e3, e4, e5⟩, ⟨o, e1⟩, fun g1 g2 ⟨a1, a2, ys', a3, o', es', ep', b1, b2⟩ st => ⟨a1, a2, ys', a3, o', es', ep', st _ b1, b2⟩⟩
/-- the pairs of the dict at d -/
def DAt (P : Program) (w : World) (K : PySem.W.Frag) (H : Hp) (d : Addr) (kvs : List (NestedKey × V)) : Prop := ∃ xs, H d = some (DN P w d xs) ∧ (∀ x ∈ xs, NkAt K H x.1 (.ref x.2.1) ∧ x.1.depth ≤ 8) ∧ kvs = KN xs
theorem DAt.same {P : Program} {w : World} {K : PySem.W.Frag} {H H' : Hp} {d : Addr} {kvs : List (NestedKey × V)} (s : Same H H') (h : DAt P w K H d kvs) : DAt P w K H' d kvs := by
  obtain ⟨xs, h1, h2, h3⟩ := h
  exact ⟨xs, s _ _ h1, fun x hx => ⟨(h2 x hx).1.same s, (h2 x hx).2⟩, h3⟩
theorem SqT_updE {K : PySem.W.Frag} {H : Hp} {a D : Addr} {xs : List V} {φ : Heap → Prop} {o : HO} (h : SqT K H a xs) (hD : H D = some (.ext φ)) : SqT K (upd H D o) a xs := by
  rcases h with (h | ⟨o, h⟩) | h
  · exact .inl (.inl (by rw [upd_ne (fun c => by rw [c, hD] at h; cases h)]; exact h))
  · exact .inl (.inr ⟨o, by rw [upd_ne (fun c => by rw [c, hD] at h; cases h)]; exact h⟩)
  · exact .inr h
theorem DAt.ext {P : Program} {w : World} {K : PySem.W.Frag} {H : Hp} {d : Addr} {kvs : List (NestedKey × V)} (h : DAt P w K H d kvs) : ∃ φ, H d = some (.ext φ) := by
  obtain ⟨xs, h1, _⟩ := h
  exact ⟨_, h1⟩
/-- a list is changed -/
theorem DAt.updL {P : Program} {w : World} {K : PySem.W.Frag} {H : Hp} {d D : Addr} {kvs : List (NestedKey × V)} {ys : List V} {o : HO} (h : DAt P w K H d kvs) (hD : H D = some (.lst ys)) : DAt P w K (upd H D o) d kvs := by
  obtain ⟨xs, h1, h2, h3⟩ := h
  refine ⟨xs, by rw [upd_ne (fun c => by rw [c, hD] at h1; cases h1)]; exact h1, fun x hx => ⟨NkAt.mono (fun a zs h => ?_) _ _ (h2 x hx).1, (h2 x hx).2⟩, h3⟩
  rcases h with (h | ⟨o, h⟩) | h
  · exact .inl (.inl (by rw [upd_ne (fun c => by rw [c, hD] at h; cases h)]; exact h))
  · exact .inl (.inr ⟨o, by rw [upd_ne (fun c => by rw [c, hD] at h; cases h)]; exact h⟩)
  · exact .inr h
section
variable {X : Cx} {pins : List (Addr × Obj)} {σ : L2.St} {H : Hp} {s : Shared}
theorem dat_of {a : Addr} {xs : List (NestedKey × Addr × V)} (I : Inv X pins σ H s) (e : H a = some (DN X.prog X.w a xs)) (hk : ∀ x ∈ xs, NkAt X.K H x.1 (.ref x.2.1) ∧ x.1.depth ≤ 8) :
    (a == sysModules) = false ∧ xs.length ≤ sizeLine ∧ ∃ ys, DRel xs ys ∧ s.heap.DictOfH (nestedKind X.prog X.w) a ys := by
  obtain ⟨h1, h2, ys, r, o, es, ep, e1, e2, e3, e4, e5⟩ := (I.hok a _ e).1
  refine ⟨h1, h2, ys, r, o, es, ep, e1, e2, e3, e4, ?_, e5⟩
  clear h2 e4 e5 e
  induction r with
  | nil => intro x hx; exact absurd hx List.not_mem_nil
  | @cons p q ps qs h t ih =>
    intro x hx
    rcases List.mem_cons.mp hx with rfl | hx
    · obtain ⟨z1, z2⟩ := hk p List.mem_cons_self
      rw [← h.1, ← h.2.1]
      exact ⟨nk_is I _ _ _ z1 rfl, z2⟩
    · exact ih (fun y hy => hk y (List.mem_cons_of_mem _ hy)) x hx
theorem nroom {A : Around} {P : Program} {w : World} (hu : A.units + 9 < cLine) : (nestedKind P w).room A.in1 := by
  show A.in1.units + 8 < cLine
  rw [Around.in1_units]
  omega
end
/-! the rules -/
def tDNewN (P : Program) (w : World) : TE := fun _ H Q => ∀ p, H p = none → Q (.ref p) (upd H p (DN P w p []))
def rGetDN (P : Program) (w : World) (K : PySem.W.Frag) : V → List V → Hp → VK → Prop := fun x args H Q => ∃ (d b : Addr) (z : V) (kvs : List (NestedKey × V)) (k : NestedKey), x = .ref d ∧ args = [.ref b, z] ∧ DAt P w K H d kvs ∧ NkAt K H k (.ref b) ∧ k.depth ≤ 8 ∧ Q ((valV kvs k).getD z) H
def rSetDN (P : Program) (w : World) (K : PySem.W.Frag) : V → V → V → Hp → (Hp → Prop) → Prop := fun o i v H Q => ∃ (d b : Addr) (kvs : List (NestedKey × V)) (k : NestedKey), o = .ref d ∧ i = .ref b ∧ DAt P w K H d kvs ∧ NkAt K H k (.ref b) ∧ k.depth ≤ 8 ∧ kvs.length < sizeLine ∧
  ∀ u, DAt P w K (upd H d u) d (putK kvs k v) → Q (upd H d u)
def rIxDN (P : Program) (w : World) (K : PySem.W.Frag) : R2 := fun x y H Q => ∃ (d b : Addr) (kvs : List (NestedKey × V)) (k : NestedKey) (v : V), x = .ref d ∧ y = .ref b ∧ DAt P w K H d kvs ∧ NkAt K H k (.ref b) ∧ k.depth ≤ 8 ∧ valV kvs k = some v ∧ Q v H
def tBMN (P : Program) (w : World) (r : V → List V → Hp → VK → Prop) (to : TE) (t : TA) : TE := fun σ H Q => to σ H fun x H1 => (∃ a xs, x = .ref a ∧ H1 a = some (DN P w a xs)) ∧ t σ H1 fun xs H2 => r x xs H2 Q
section
variable {X : Cx} {P : Program} {w : World} {K : PySem.W.Frag} {pos : Pos}
theorem pe_dnewN (hp : X.prog = P := by rfl) (hw : X.w = w := by rfl) : PE X (.Dict [] [] pos) (tDNewN P w) := by
  subst hp hw
  exact ⟨fun pins s σ H Q I h => wpAny_Dict_empty ⟨.ref s.heap.objs.size, _, I.laid (a := s.heap.objs.size) (o := DN X.prog X.w s.heap.objs.size []) (t' := s.toks) (fun _ _ q => Heap.get?_push_of_some _ q) (Nat.le_refl _)
    (dn_ok (beq_eq_false_iff_ne.mpr (Ne.symm (Nat.ne_of_lt I.big))) (Nat.zero_le _) .nil (Heap.DictOfH.new s.heap)), rfl, h _ (I.hok.fresh (Nat.le_refl _))⟩⟩
theorem mt_getDN (K : PySem.W.Frag) (hu : X.A.units + 9 < cLine) (hp : X.prog = P := by rfl) (hw : X.w = w := by rfl) (hk : X.K = K := by rfl) : MtR X "dict.get" (rGetDN P w K) := by
  subst hp hw hk
  intro pins s σ H x args v us Q I rx ra h
  obtain ⟨d, b, z, kvs, k, rfl, rfl, ⟨xs, e, hx, rfl⟩, hb, hd8, q⟩ := h
  obtain rfl : v = Value.ref d := rx
  cases ra with
  | cons r1 r2 =>
    cases r2 with
    | cons r2 r3 =>
      cases r3
      rename_i u1 u2
      obtain rfl : u1 = Value.ref b := r1
      obtain ⟨h1, h2, ys, r, dd⟩ := dat_of I e hx
      refine call_meetsIn PySem.F.slot_dict_get dd.typeIs PySem.F.entry_dict_get (PySem.F.args_dict_get_3 _ _ _) (meetsH_dict_get_default (nestedKind X.prog X.w) d b h1 u2) ⟨nroom hu, k, ys, ⟨nk_is I k _ _ hb rfl, hd8⟩, dd, _, H, I.tok _, (r.val k).getD r2, q⟩
theorem set_dN (K : PySem.W.Frag) (hu : X.A.units + 9 < cLine) (hp : X.prog = P := by rfl) (hw : X.w = w := by rfl) (hk : X.K = K := by rfl) : PSet X (rSetDN P w K) := by
  subst hp hw hk
  intro pins s σ H o i v ov iv u Q I ro ri rv h
  obtain ⟨d, b, kvs, k, rfl, rfl, ⟨xs, e, hx, rfl⟩, hb, hd8, hl, q⟩ := h
  obtain rfl : ov = Value.ref d := ro
  obtain rfl : iv = Value.ref b := ri
  obtain ⟨h1, h2, ys, r, dd⟩ := dat_of I e hx
  have hz : ys.length ≤ sizeLine := by rw [← Paired.length r]; exact h2
  refine wpAny_setItem_heap (hsz := hz) (nroom hu) (show (nestedKind X.prog X.w).is s.heap k b from ⟨nk_is I k _ _ hb rfl, hd8⟩) dd fun h' dd' hs => ?_
  have hl2 : (putN xs k b v).length ≤ sizeLine := by
    have l1 := length_putK (KN xs) k v
    rw [← KN_put xs k b v] at l1
    unfold KN at l1 hl
    rw [List.length_map, List.length_map] at l1
    rw [List.length_map] at hl
    omega
  have he : ∃ q, h'.get? d = some q := let ⟨q, _, _, hq, _⟩ := dd'; ⟨q, hq⟩
  refine ⟨upd H d (DN X.prog X.w d (putN xs k b v)), d_write I (by rw [e]; exact True.intro) hs he (dn_ok h1 hl2 (r.put k b rv) dd'), q _ ⟨putN xs k b v, upd_same, fun x hx2 => ?_, (KN_put xs k b v).symm⟩⟩
  have mo : ∀ a zs, SqT X.K H a zs → SqT X.K (upd H d (DN X.prog X.w d (putN xs k b v))) a zs := fun a zs h => SqT_updE h e
  rcases putN_mem hx2 with ⟨y, hy, e1, e2⟩ | ⟨e1, e2⟩
  · rw [e1, e2]
    exact ⟨NkAt.mono mo _ _ (hx y hy).1, (hx y hy).2⟩
  · rw [e1, e2]
    exact ⟨NkAt.mono mo _ _ hb, hd8⟩
theorem ix_dN (K : PySem.W.Frag) (hu : X.A.units + 9 < cLine) (hp : X.prog = P := by rfl) (hw : X.w = w := by rfl) (hk : X.K = K := by rfl) : IxR X (rIxDN P w K) := by
  subst hp hw hk
  intro value slice pins s σ H x y v u Q I rx ry h hs
  obtain ⟨d, b, kvs, k, z, rfl, rfl, ⟨xs, e, hx, rfl⟩, hb, hd8, hv, q⟩ := h
  obtain rfl : v = Value.ref d := rx
  obtain rfl : u = Value.ref b := ry
  obtain ⟨h1, h2, ys, r, dd⟩ := dat_of I e hx
  obtain ⟨w', hw, rw'⟩ := RelO.some_of (v := z) (o := (atKey ys k).map (·.2)) (by rw [← hv]; exact r.val k)
  obtain ⟨p, hp, hp2⟩ := Option.map_eq_some_iff.mp hw
  refine tail_any (ops := [.ref d, .ref b]) dd.typeIs PySem.F.slot_dict_getitem.lookup ?_ hs
  refine wpAny_getItem_heap (nroom hu) (show (nestedKind X.prog X.w).is s.heap k b from ⟨nk_is I k _ _ hb rfl, hd8⟩) dd hp ?_
  rw [hp2]
  exact ⟨z, H, I.tok _, rw', q⟩
theorem pe_bmN {name : Str} {id : String} {r : V → List V → Hp → VK → Prop} {o e : Expr} {es : List Expr} {to : TE} {t : TA} {apos cpos : Pos} (slot : Slot "dict" name id) (hty : typeOf (.builtin id) = pure (.type "method_descriptor")) (hm : MtR X id r) (ho : PE X o to) (ha : PA X (e :: es) t)
    (hp : X.prog = P := by rfl) (hw : X.w = w := by rfl)
    (hbase : attributeBase o name X.env (eval o X.env) = eval o X.env := by rfl)
    (hfew : ((backTo cpos (starEach (e :: es) X.env)).all (fun x => !x.1) && (backToKw cpos (keywordEach [] X.env)).all (fun x => x.1.isSome)
      && decide ((e :: es).length + ([] : List Keyword).length + (if ([] : List Keyword).isEmpty then 0 else 1) < 30)) = true := by rfl)
    (hline : (apos.endLine == cpos.line) = true := by rfl) (hs : starEach (e :: es) X.env = (false, eval e X.env) :: starEach es X.env := by rfl) (hplain : (backTo cpos (starEach es X.env)).any (·.1) = false := by rfl) :
    PE X (.Call (.Attribute o name apos) (e :: es) [] cpos) (tBMN P w r to t) := by
  subst hp hw
  refine ⟨fun pins s σ H Q I h => ?_⟩
  refine wpAny_Call_method_late hbase hfew hline rfl (thn (ho.run pins s σ H _ I h) fun v s1 ⟨x, H1, I1, r1, ⟨a, xs, ex, ea⟩, q1⟩ => ?_)
  subst ex
  obtain rfl : v = Value.ref a := r1
  obtain ⟨_, _, ys, _, oo, _, _, e1, e2, _⟩ := (I1.hok a _ ea).1
  refine ⟨"dict", id, PySem.F.plainAttrs_dict, slot, hty, ⟨oo, e1, e2.1⟩, fun b q => ?_, ?_⟩
  · cases q
    exact ⟨oo, e1, e2.2.1⟩
  have hA := ha.run cpos pins s1 σ H1 _ I1 q1
  rw [hs] at hA ⊢
  refine Calls.callWith_builtin (by show (false || (backTo cpos (starEach es X.env)).any (·.1)) = false; rw [hplain] <;> rfl) (Calls.evalArgs_plain ?_)
  exact thn hA fun us s2 ⟨vs, H2, I2, r2, q2⟩ => hm pins s2 σ H2 (.ref a) vs (.ref a) us Q I2 rfl r2 q2
end
/-! counting -/
def cntV : Option V → Int
  | some (.int i) => i
  | _ => 0
def tallyN (ks : List NestedKey) : List (NestedKey × V) := ks.foldl (fun acc k => putK acc k (.int (cntV (valV acc k) + 1))) []
theorem tally_snoc (ks : List NestedKey) (k : NestedKey) : tallyN (ks ++ [k]) = putK (tallyN ks) k (.int (cntV (valV (tallyN ks) k) + 1)) := by
  unfold tallyN
  rw [List.foldl_append]
  rfl
theorem tally_val : ∀ (n : Nat) (ks : List NestedKey), ks.length = n → ∀ k, valV (tallyN ks) k = if ks.count k = 0 then none else some (.int (ks.count k : Nat))
  | 0, ks, h, k => by
    rw [List.length_eq_zero_iff.mp h]
    rfl
  | n + 1, ks, h, k => by
    obtain ⟨l, x, rfl⟩ : ∃ l x, ks = l ++ [x] := ⟨ks.dropLast, ks.getLast (fun e => by rw [e] at h; cases h), (List.dropLast_concat_getLast _).symm⟩
    have hl : l.length = n := by
      rw [List.length_append] at h
      have : [x].length = 1 := rfl
      omega
    have ih := tally_val n l hl
    rw [tally_snoc]
    have ec : (l ++ [x]).count k = l.count k + if x = k then 1 else 0 := by
      rw [List.count_append, List.count_singleton]
      by_cases e : x = k
      · rw [if_pos e, if_pos (beq_iff_eq.mpr e)]
      · rw [if_neg e, if_neg (fun z => e (beq_iff_eq.mp z))]
    rw [valV_put]
    by_cases e : x = k
    · subst e
      rw [if_pos rfl, ec, if_pos rfl, if_neg (by omega), ih x]
      by_cases c : l.count x = 0
      · rw [if_pos c, c]
        rfl
      · rw [if_neg c]
        rfl
    · rw [if_neg (fun z => e z.symm), ec, if_neg e, Nat.add_zero]
      exact ih k
end Ef
set_option maxHeartbeats 4000000
namespace Ef
open PySem PySem.Spec PyProof.Rows L2
open PySem.W (dataLe AllAlike Sortable EachIs list_sort_data)
/-! ### such a dict, sorted; its values; its size -/
mutual
theorem nk_dp {K : PySem.W.Frag} {H : Hp} : ∀ (k : NestedKey) (v : V), NkAt K H k v → Dp K H v k.data
  | .none, _, h => by cases h
  | .num i, _, h => by
    cases h
    exact .int i
  | .text x, _, h => by cases h
  | .tup ks, _, h => by
    cases h with
    | tup h1 h2 => exact .tup h1 (nk_dpAll ks _ h2)
theorem nk_dpAll {K : PySem.W.Frag} {H : Hp} : ∀ (ks : List NestedKey) (vs : List V), NkAll K H ks vs → DpAll K H vs (NestedKey.datas ks)
  | [], _, h => by
    cases h
    exact .nil
  | k :: ks, _, h => by
    cases h with
    | cons h1 h2 => exact .cons (nk_dp k _ h1) (nk_dpAll ks _ h2)
end
section
variable {X : Cx} {pins : List (Addr × Obj)} {σ : L2.St} {H : Hp} {s : Shared}
mutual
theorem nk_reads (I : Inv X pins σ H s) : ∀ (k : NestedKey) (v : V) (u : Value), NkAt X.K H k v → RelV v u → Reads s.heap u k.data []
  | .none, _, _, h, _ => by cases h
  | .num i, _, u, h, r => by
    cases h
    obtain ⟨t, rfl⟩ := (show ∃ t, u = Value.int i t from r)
    exact .int i t
  | .text x, _, _, h, _ => by cases h
  | .tup ks, _, u, h, r => by
    cases h with
    | @tup a xs _ h1 h2 =>
      obtain rfl : u = Value.ref a := r
      obtain ⟨its, rv, ⟨o, ho, hc, n, hd⟩, _⟩ := I.tuple h1
      exact .tuple ho hc hd (by simpa using nk_readsAll I ks _ _ h2 rv)
theorem nk_readsAll (I : Inv X pins σ H s) : ∀ (ks : List NestedKey) (vs : List V) (us : List Value), NkAll X.K H ks vs → Vals vs us → ReadsAll s.heap us (NestedKey.datas ks) []
  | [], _, _, h, r => by
    cases h
    cases r
    exact .nil
  | k :: ks, _, _, h, r => by
    cases h with
    | cons h1 h2 =>
      cases r with
      | cons r1 r2 => exact .cons (nk_reads I k _ _ h1 r1) (nk_readsAll I ks _ _ h2 r2)
end
end
def nLe : NestedKey → NestedKey → Bool := dataLe false NestedKey.data
def rSortN (P : Program) (w : World) (K : PySem.W.Frag) : List V → Hp → VK → Prop := fun vs H Q => ∃ (d : Addr) (kvs : List (NestedKey × V)), vs = [V.ref d] ∧ DAt P w K H d kvs ∧ AllAlike ((kvs.map (·.1)).map NestedKey.data) ∧ Sortable ((kvs.map (·.1)).map NestedKey.data) ∧ (∀ k ∈ kvs.map (·.1), k.data.depth ≤ 20) ∧
  ∀ p us, H p = none → PySem.Paired (fun v k => NkAt K H k v) us ((kvs.map (·.1)).mergeSort nLe) → Q (.ref p) (upd H p (.lst us))
theorem drel_keys {acc : List Value} {xs : List (NestedKey × Addr × V)} {ys : List (NestedKey × Addr × Value)} (r : DRel xs ys) : ys.map (fun y => Value.ref y.2.1) = xs.map fun x => Value.ref x.2.1 := by
  induction r with
  | nil => rfl
  | cons h _ ih => rw [List.map_cons, List.map_cons, ih, h.2.1]
theorem each_refs {xs : List (NestedKey × Addr × V)} : EachIs (fun u (b : NestedKey × V) => RelV b.2 u) (xs.map fun x => Value.ref x.2.1) (xs.map fun x => (x.1, V.ref x.2.1)) := by
  induction xs with
  | nil => exact .nil
  | cons x r ih => exact .cons rfl ih
theorem each_read {X : Cx} {pins : List (Addr × Obj)} {σ : L2.St} {H : Hp} {s : Shared} {a : Addr} (I : Inv X pins σ H s) : ∀ {xs : List (NestedKey × Addr × V)}, (∀ x ∈ xs, NkAt X.K H x.1 (.ref x.2.1) ∧ x.1.depth ≤ 8) →
    EachIs (fun v (b : NestedKey × V) => ∃ as, Reads s.heap v b.1.data as ∧ a ∉ as) (xs.map fun x => Value.ref x.2.1) (xs.map fun x => (x.1, V.ref x.2.1))
  | [], _ => .nil
  | x :: xs, h => .cons ⟨[], nk_reads I _ _ _ (h x List.mem_cons_self).1 rfl, List.not_mem_nil⟩ (each_read I fun y hy => h y (List.mem_cons_of_mem _ hy))
theorem each_paired {bs : List (NestedKey × V)} {out : List Value} (e : EachIs (fun u (b : NestedKey × V) => RelV b.2 u) out bs) : Vals (bs.map (·.2)) out := by
  induction e with
  | nil => exact .nil
  | cons h _ ih => exact .cons h ih
theorem nk_paired {K : PySem.W.Frag} {H : Hp} : ∀ {bs : List (NestedKey × V)}, (∀ b ∈ bs, NkAt K H b.1 b.2) → PySem.Paired (fun v k => NkAt K H k v) (bs.map (·.2)) (bs.map (·.1))
  | [], _ => .nil
  | b :: r, h => .cons (h b List.mem_cons_self) (nk_paired fun c hc => h c (List.mem_cons_of_mem _ hc))
theorem keys_acc {P : Program} {w : World} {es : Array DictEntry} {ys : List (NestedKey × Addr × Value)} {acc : Array Value} (e4 : es.toList = ys.map (entryOfKey (nestedKind P w))) (h1 : acc.size = es.size) (h2 : ∀ (i : Nat) (v : Value), acc[i]? = some v → ∃ en : DictEntry, es[i]? = some en ∧ v = en.key) :
    acc.toList = ys.map fun x => Value.ref x.2.1 := by
  have l1 : es.size = ys.length := size_of_entries e4
  have hl : acc.toList.length = ys.length := by rw [Array.length_toList, h1]; exact l1
  apply List.ext_getElem?
  intro j
  rw [List.getElem?_map]
  cases hj : acc.toList[j]? with
  | none =>
    have h1 := List.getElem?_eq_none_iff.mp hj
    rw [List.getElem?_eq_none (by omega)]
    all_goals rfl
  | some v =>
    obtain ⟨en, hen, hv⟩ := h2 j v (by rw [← Array.getElem?_toList]; exact hj)
    have qe := entry_at e4 j
    rw [hen] at qe
    cases hb : ys[j]? with
    | none =>
      rw [hb] at qe
      exact nomatch (show some en = none from qe)
    | some b =>
      rw [hb] at qe
      have e2 : en = entryOfKey (nestedKind P w) b := Option.some.inj qe
      rw [hv, e2]
      all_goals rfl
section
variable {X : Cx} {P : Program} {w : World} {K : PySem.W.Frag}
theorem cr_sortN (K : PySem.W.Frag) (hc : X.calm = true) (hu : X.A.units + 64 < cLine) (hp : X.prog = P := by rfl) (hw : X.w = w := by rfl) (hk : X.K = K := by rfl) : CallR X (.builtin "sorted") (rSortN P w K) := by
  subst hp hw hk
  intro pins s σ H vs us Q I r hq
  obtain ⟨d, kvs, rfl, ⟨xs, e, hx, rfl⟩, hal, hso, hdp, q⟩ := hq
  obtain ⟨u, rfl, ru⟩ := vals1 r
  obtain rfl : u = Value.ref d := ru
  obtain ⟨h1, h2, ys, rel, o, es, ep, e1, e2, e3, e4, e5⟩ := (I.hok d _ e).1
  have l1 : es.size = ys.length := size_of_entries e4
  have l2 : xs.length = ys.length := PySem.Paired.length rel
  have ek : (KN xs).map (·.1) = (xs.map fun x => (x.1, V.ref x.2.1)).map (·.1) := by
    rw [List.map_map, List.map_map]
    rfl
  rw [ek] at hal hso hdp q
  refine Calls.call_function_entry PyProof.Rows.kind_sorted PyProof.Rows.plain_sorted PyProof.Rows.entry_sorted (PyProof.Rows.args_sorted1 _) ?_
  unfold Builtin.«sorted»
  refine wpAny_bind (m := checkCount "sorted" 1 1 _) (wpAny_pure ?_)
  refine wpAny_bind (PySem.W.kdu_collect (A := X.A.in1) (kdl_raw h1 e2 e3) (I.ok.hd hc) e1 (by omega) fun h' tk acc hk' hacc => ?_)
  have ea := (keys_acc e4 hacc.1 hacc.2).trans (drel_keys (acc := []) rel)
  have I1 : Inv X pins σ H { s with heap := h', toks := tk } := I.kept hk'
  rw [ea]
  refine wpAny_bind (wpAny_newList ?_ (by rw [List.length_map]; omega))
  have hoL : (h'.push (seqObj "list" (xs.map fun x => Value.ref x.2.1).toArray 0)).get? h'.objs.size = some (seqObj "list" (xs.map fun x => Value.ref x.2.1).toArray 0) := Heap.get?_push_size _ rfl
  show wpAny _ _ _ _ _ { s with heap := h'.push (seqObj "list" (xs.map fun x => Value.ref x.2.1).toArray 0), toks := tk }
  have I2 : Inv X pins σ H { s with heap := h'.push (seqObj "list" (xs.map fun x => Value.ref x.2.1).toArray 0), toks := tk } := I1.kept (t' := tk) fun b u e => Heap.get?_push_of_some _ e
  refine wpAny_bind (wpAny_holding (list_sort_data (s := { s with heap := h'.push (seqObj "list" (xs.map fun x => Value.ref x.2.1).toArray 0), toks := tk }) (β := NestedKey × V) (bs := xs.map fun x => (x.1, V.ref x.2.1)) (enc := fun b : NestedKey × V => b.1.data) (R := fun u (b : NestedKey × V) => RelV b.2 u) hoL each_refs (each_read I2 hx)
    (by rw [List.map_map] at hal; exact hal) (by rw [List.map_map] at hso; exact hso) (by rw [List.length_map]; omega) (fun b hb => ?_) fun out hout eo => ?_))
  · have hb2 : b.1 ∈ (xs.map fun x => (x.1, V.ref x.2.1)).map (·.1) := List.mem_map.mpr ⟨b, hb, rfl⟩
    have := hdp _ hb2
    show X.A.in1.units + 1 + _ < _
    rw [Around.in1_units]
    omega
  · obtain ⟨e', he'⟩ := PyProof.Rows.sortedHeap_at (vs := xs.map fun x => Value.ref x.2.1) (out := out.toArray) hoL
    have hv := each_paired eo
    have hlen : (((xs.map fun x => (x.1, V.ref x.2.1)).mergeSort (dataLe false fun b : NestedKey × V => b.1.data)).map (·.2)).length ≤ sizeLine := by
      rw [List.length_map, List.length_mergeSort, List.length_map]
      omega
    refine wpAny_pure ⟨_, rfl, .ref h'.objs.size, upd H h'.objs.size (.lst (((xs.map fun x => (x.1, V.ref x.2.1)).mergeSort (dataLe false fun b : NestedKey × V => b.1.data)).map (·.2))), I1.laid (t' := tk) (fun b u e => ?_) (Nat.le_refl _)
      (show ObjOk X.prog X.w _ _ _ (.lst _) from ⟨hlen, out, e', hv, he'⟩), rfl, q _ _ (I1.hok.fresh (Nat.le_refl _)) ?_⟩
    · have hb : b < h'.objs.size := Heap.lt_size e
      rw [PyProof.Rows.sortedHeap_old (Nat.ne_of_lt hb) (by rw [size_push']; exact Nat.lt_succ_of_lt hb)]
      exact Heap.get?_push_of_some _ e
    · have em : ((xs.map fun x => (x.1, V.ref x.2.1)).mergeSort (dataLe false fun b : NestedKey × V => b.1.data)).map (·.1) = ((xs.map fun x => (x.1, V.ref x.2.1)).map (·.1)).mergeSort nLe := List.map_mergeSort fun a _ b _ => rfl
      rw [← em]
      have all : ∀ b ∈ (xs.map fun x => (x.1, V.ref x.2.1)).mergeSort (dataLe false fun b : NestedKey × V => b.1.data), NkAt X.K H b.1 b.2 := fun b hb => by
        obtain ⟨x, hx2, rfl⟩ := List.mem_map.mp ((List.mergeSort_perm _ _).mem_iff.mp hb)
        exact (hx x hx2).1
      exact nk_paired all
/-- len(d) -/
def rLenN (P : Program) (w : World) (K : PySem.W.Frag) : List V → Hp → VK → Prop := fun vs H Q => ∃ (d : Addr) (kvs : List (NestedKey × V)), vs = [V.ref d] ∧ DAt P w K H d kvs ∧ Q (.int (kvs.length : Nat)) H
theorem call_lenN (K : PySem.W.Frag) (hp : X.prog = P := by rfl) (hw : X.w = w := by rfl) (hk : X.K = K := by rfl) : CallR X (.builtin "len") (rLenN P w K) := by
  subst hp hw hk
  intro pins s σ H vs us Q I r hq
  obtain ⟨d, kvs, rfl, ⟨xs, e, hx, rfl⟩, q⟩ := hq
  obtain ⟨u, rfl, ru⟩ := vals1 r
  obtain rfl : u = Value.ref d := ru
  obtain ⟨h1, h2, ys, rel, dd⟩ := dat_of I e hx
  have l2 : xs.length = ys.length := PySem.Paired.length rel
  refine call_len_dictH h1 dd (by rw [sizeLine_eq] at h2; omega) ?_
  refine ⟨.int ((KN xs).length : Nat), H, I.tok _, ⟨s.toks + 1, ?_⟩, q⟩
  unfold KN
  rw [List.length_map, l2]
/-- d.values() -/
def tValsN (P : Program) (w : World) (to : TE) : TE := fun σ H Q => to σ H fun x H1 => ∃ a xs, x = .ref a ∧ H1 a = some (DN P w a xs) ∧ ∀ p, H1 p = none → Q (.ref p) (upd H1 p (viewO "dict_values" p a))
theorem pe_valsN {o : Expr} {to : TE} {apos cpos : Pos} (ho : PE X o to) (hp : X.prog = P := by rfl) (hw : X.w = w := by rfl) (hbase : attributeBase o "values" X.env (eval o X.env) = eval o X.env := by rfl) (hline : (apos.endLine == cpos.line) = true := by rfl) :
    PE X (.Call (.Attribute o "values" apos) [] [] cpos) (tValsN P w to) := by
  subst hp hw
  refine ⟨fun pins s σ H Q I h => ?_⟩
  refine wpAny_Call_method0_late hbase hline (thn (ho.run pins s σ H _ I h) fun v s1 ⟨x, H1, I1, r1, a, xs, ex, ea, q1⟩ => ?_)
  subst ex
  obtain rfl : v = Value.ref a := r1
  obtain ⟨h1, _, ys, _, oo, es, ep, e1, e2, e3, _⟩ := (I1.hok a _ ea).1
  refine ⟨"dict", "dict.values", PySem.F.plainAttrs_dict, PySem.F.slot_dict_values, PySem.F.type_dict_values, ⟨oo, e1, e2.1⟩, fun b q => ?_, Calls.callWith_builtin rfl (PySem.evalArgs_none ?_)⟩
  · cases q
    exact ⟨oo, e1, e2.2.1⟩
  refine call_meetsIn PySem.F.slot_dict_values ⟨oo, e1, e2.1⟩ PySem.F.entry_dict_values (PySem.F.args_dict_values_1 _) (meets_dict_values_raw a h1) ⟨⟨es, ep, oo, e1, e2, e3⟩, ?_⟩
  exact ⟨.ref s1.heap.objs.size, _, I1.laid (t' := s1.toks) (fun b o q => Heap.get?_push_of_some _ q) (Nat.le_refl _) (viewO_ok (Heap.get?_push_size _ rfl)), rfl, q1 _ (I1.hok.fresh (Nat.le_refl _))⟩
/-- the values as entries -/
theorem vals_ent {es : Array DictEntry} {ys : List (NestedKey × Addr × Value)} {xs : List (NestedKey × Addr × V)} {ns : List Int} (e4 : es.toList = ys.map (entryOfKey (nestedKind P w))) (rel : DRel xs ys) (hns : (KN xs).map (·.2) = ns.map V.int) : es.size = ns.length ∧ ∀ (i : Nat) (e : DictEntry), es[i]? = some e → ∃ t, e.val = .int (ns.getD i 0) t := by
  have l1 : es.size = ys.length := size_of_entries e4
  have l2 : xs.length = ys.length := PySem.Paired.length rel
  have l3 : xs.length = ns.length := by
    have e := congrArg List.length hns
    rw [List.length_map, List.length_map, List.length_map] at e
    exact e
  refine ⟨by omega, fun i e he => ?_⟩
  have qe := entry_at e4 i
  rw [he] at qe
  cases hb : ys[i]? with
  | none =>
    rw [hb] at qe
    exact nomatch (show some e = none from qe)
  | some b =>
    rw [hb] at qe
    have e2 : e = entryOfKey (nestedKind P w) b := Option.some.inj qe
    have hi : i < ys.length := (List.getElem?_eq_some_iff.mp hb).1
    have hx : xs[i]? = some xs[i] := List.getElem?_eq_getElem (by omega)
    rcases paired_at rel i with ⟨z, _⟩ | ⟨x, y, z1, z2, z3⟩
    · rw [hx] at z
      cases z
    · rw [hb] at z2
      obtain rfl := Option.some.inj z2
      have z4 : ((KN xs).map (·.2))[i]? = some x.2.2 := by
        unfold KN
        rw [List.map_map, List.getElem?_map, z1]
        rfl
      rw [hns, List.getElem?_map] at z4
      obtain ⟨j, hj, ej⟩ := Option.map_eq_some_iff.mp z4
      have r3 := z3.2.2
      rw [← ej] at r3
      obtain ⟨t, et⟩ := (show ∃ t, b.2.2 = Value.int j t from r3)
      refine ⟨t, ?_⟩
      rw [e2]
      show b.2.2 = _
      rw [et, List.getD_eq_getElem?_getD, hj]
      rfl
def rMaxN (P : Program) (w : World) (K : PySem.W.Frag) : List V → Hp → VK → Prop := fun xs H Q => ∃ (p a : Addr) (kvs : List (NestedKey × V)) (ns : List Int), xs = [.ref p] ∧ H p = some (viewO "dict_values" p a) ∧ DAt P w K H a kvs ∧ kvs.map (·.2) = ns.map V.int ∧ 0 < ns.length ∧ ∀ m, m ∈ ns → (∀ y, y ∈ ns → y ≤ m) → Q (.int m) H
def rMinN (P : Program) (w : World) (K : PySem.W.Frag) : List V → Hp → VK → Prop := fun xs H Q => ∃ (p a : Addr) (kvs : List (NestedKey × V)) (ns : List Int), xs = [.ref p] ∧ H p = some (viewO "dict_values" p a) ∧ DAt P w K H a kvs ∧ kvs.map (·.2) = ns.map V.int ∧ 0 < ns.length ∧ ∀ m, m ∈ ns → (∀ y, y ∈ ns → m ≤ y) → Q (.int m) H
def rSumN (P : Program) (w : World) (K : PySem.W.Frag) : List V → Hp → VK → Prop := fun xs H Q => ∃ (p a : Addr) (kvs : List (NestedKey × V)) (ns : List Int), xs = [.ref p] ∧ H p = some (viewO "dict_values" p a) ∧ DAt P w K H a kvs ∧ kvs.map (·.2) = ns.map V.int ∧ Q (.int ns.sum) H
theorem cr_maxN (K : PySem.W.Frag) (hc : X.calm = true) (hp : X.prog = P := by rfl) (hw : X.w = w := by rfl) (hk : X.K = K := by rfl) : CallR X (.builtin "max") (rMaxN P w K) := by
  subst hp hw hk
  intro pins s σ H xs us Q I rx h
  obtain ⟨p, a, kvs, ns, rfl, hpp, ⟨xs, e, hx, rfl⟩, hns, hne, q⟩ := h
  obtain ⟨u, rfl, ru⟩ := vals1 rx
  obtain rfl : u = Value.ref p := ru
  obtain ⟨h1, h2, ys, rel, o, es, ep, e1, e2, e3, e4, e5⟩ := (I.hok a _ e).1
  obtain ⟨hsz, hP⟩ := vals_ent e4 rel hns
  have hv : s.heap.get? p = some (DSub.viewOb "dict_values" a) := (show ObjOk X.prog X.w H s.heap p (viewO "dict_values" p a) from I.hok p _ hpp).1
  refine call_max_walk ?_
  refine DSub.iter_vals hv e1 e3 ?_
  have ha : a < s.heap.objs.size := Heap.lt_size e1
  refine ⟨s.heap.objs.size, [s.heap.objs.size, a], [s.heap.objs.size], es.size, fun i v => ∃ t, v = .int (ns.getD i 0) t, _, fun i j => decide (ns.getD i 0 > ns.getD j 0), rfl, DSub.walksVal (a := a) (show X.A.in1.handled = none from I.ok.hd hc) (Nat.ne_of_lt ha) e3 hP, ⟨Heap.get?_push_size _ rfl, Heap.get?_push_of_some _ e1⟩, fun b hb => ?_, by omega, CmpOf.ints_gt (fun i => ns.getD i 0) (fun i v z => z), fun v h' tk hv' hk => ?_⟩
  · show b < (s.heap.push _).objs.size
    rw [size_push']
    rcases List.mem_cons.mp hb with z | z
    · rw [z]
      exact Nat.lt_succ_self _
    · rw [List.mem_singleton.mp z]
      exact Nat.lt_succ_of_lt ha
  · obtain ⟨t, rfl⟩ := hv'
    obtain ⟨m1', m2'⟩ := argBest_gt (fun i => ns.getD i 0) (es.size - 1)
    have m1 : argBest (fun i j => decide (ns.getD i 0 > ns.getD j 0)) (es.size - 1) ≤ es.size - 1 := m1'
    have m2 : ∀ j, j ≤ es.size - 1 → ns.getD j 0 ≤ ns.getD (argBest (fun i j => decide (ns.getD i 0 > ns.getD j 0)) (es.size - 1)) 0 := m2'
    have hk2 : ∀ b o, s.heap.get? b = some o → h'.get? b = some o := fun b o e => hk b o (fun z => by rw [List.mem_singleton.mp z] at e; exact absurd (Heap.lt_size e) (Nat.lt_irrefl _)) (Heap.get?_push_of_some _ e)
    refine ⟨.int _, H, I.kept (t' := tk) hk2, ⟨t, rfl⟩, q _ (PySem.getD_mem (by omega)) fun y hy => ?_⟩
    obtain ⟨j, hj, e⟩ := List.mem_iff_getElem.mp hy
    have z := m2 j (by omega)
    have e3 : ns.getD j 0 = y := by rw [List.getD_eq_getElem?_getD, List.getElem?_eq_getElem hj, ← e] <;> rfl
    rw [e3] at z
    exact z
theorem cr_minN (K : PySem.W.Frag) (hc : X.calm = true) (hp : X.prog = P := by rfl) (hw : X.w = w := by rfl) (hk : X.K = K := by rfl) : CallR X (.builtin "min") (rMinN P w K) := by
  subst hp hw hk
  intro pins s σ H xs us Q I rx h
  obtain ⟨p, a, kvs, ns, rfl, hpp, ⟨xs, e, hx, rfl⟩, hns, hne, q⟩ := h
  obtain ⟨u, rfl, ru⟩ := vals1 rx
  obtain rfl : u = Value.ref p := ru
  obtain ⟨h1, h2, ys, rel, o, es, ep, e1, e2, e3, e4, e5⟩ := (I.hok a _ e).1
  obtain ⟨hsz, hP⟩ := vals_ent e4 rel hns
  have hv : s.heap.get? p = some (DSub.viewOb "dict_values" a) := (show ObjOk X.prog X.w H s.heap p (viewO "dict_values" p a) from I.hok p _ hpp).1
  refine call_min_walk ?_
  refine DSub.iter_vals hv e1 e3 ?_
  have ha : a < s.heap.objs.size := Heap.lt_size e1
  refine ⟨s.heap.objs.size, [s.heap.objs.size, a], [s.heap.objs.size], es.size, fun i v => ∃ t, v = .int (ns.getD i 0) t, _, fun i j => decide (ns.getD i 0 < ns.getD j 0), rfl, DSub.walksVal (a := a) (show X.A.in1.handled = none from I.ok.hd hc) (Nat.ne_of_lt ha) e3 hP, ⟨Heap.get?_push_size _ rfl, Heap.get?_push_of_some _ e1⟩, fun b hb => ?_, by omega, CmpOf.ints_lt (fun i => ns.getD i 0) (fun i v z => z), fun v h' tk hv' hk => ?_⟩
  · show b < (s.heap.push _).objs.size
    rw [size_push']
    rcases List.mem_cons.mp hb with z | z
    · rw [z]
      exact Nat.lt_succ_self _
    · rw [List.mem_singleton.mp z]
      exact Nat.lt_succ_of_lt ha
  · obtain ⟨t, rfl⟩ := hv'
    obtain ⟨m1', m2'⟩ := argBest_lt (fun i => ns.getD i 0) (es.size - 1)
    have m1 : argBest (fun i j => decide (ns.getD i 0 < ns.getD j 0)) (es.size - 1) ≤ es.size - 1 := m1'
    have m2 : ∀ j, j ≤ es.size - 1 → ns.getD (argBest (fun i j => decide (ns.getD i 0 < ns.getD j 0)) (es.size - 1)) 0 ≤ ns.getD j 0 := m2'
    have hk2 : ∀ b o, s.heap.get? b = some o → h'.get? b = some o := fun b o e => hk b o (fun z => by rw [List.mem_singleton.mp z] at e; exact absurd (Heap.lt_size e) (Nat.lt_irrefl _)) (Heap.get?_push_of_some _ e)
    refine ⟨.int _, H, I.kept (t' := tk) hk2, ⟨t, rfl⟩, q _ (PySem.getD_mem (by omega)) fun y hy => ?_⟩
    obtain ⟨j, hj, e⟩ := List.mem_iff_getElem.mp hy
    have z := m2 j (by omega)
    have e3 : ns.getD j 0 = y := by rw [List.getD_eq_getElem?_getD, List.getElem?_eq_getElem hj, ← e] <;> rfl
    rw [e3] at z
    exact z
theorem pre_sum : ∀ (ns : List Int), preSum (fun i => ns.getD i 0) ns.length = ns.sum
  | [] => rfl
  | n :: ns => by
    show preSum (fun i => (n :: ns).getD i 0) (ns.length + 1) = n + ns.sum
    rw [PySem.W.kdu_shift, ← pre_sum ns]
    rfl
theorem cr_sumN (K : PySem.W.Frag) (hc : X.calm = true) (hp : X.prog = P := by rfl) (hw : X.w = w := by rfl) (hk : X.K = K := by rfl) : CallR X (.builtin "sum") (rSumN P w K) := by
  subst hp hw hk
  intro pins s σ H xs us Q I rx h
  obtain ⟨p, a, kvs, ns, rfl, hpp, ⟨xs, e, hx, rfl⟩, hns, q⟩ := h
  obtain ⟨u, rfl, ru⟩ := vals1 rx
  obtain rfl : u = Value.ref p := ru
  obtain ⟨h1, h2, ys, rel, o, es, ep, e1, e2, e3, e4, e5⟩ := (I.hok a _ e).1
  obtain ⟨hsz, hP⟩ := vals_ent e4 rel hns
  have hv : s.heap.get? p = some (DSub.viewOb "dict_values" a) := (show ObjOk X.prog X.w H s.heap p (viewO "dict_values" p a) from I.hok p _ hpp).1
  refine call_sum_walkAnyS ?_
  refine DSub.iter_vals hv e1 e3 ?_
  have ha : a < s.heap.objs.size := Heap.lt_size e1
  refine ⟨s.heap.objs.size, [s.heap.objs.size, a], [s.heap.objs.size], _, es.size, fun i v => ∃ t, v = .int (ns.getD i 0) t, _, fun i => ns.getD i 0, rfl, (DSub.walksVal (a := a) (show X.A.in1.handled = none from I.ok.hd hc) (Nat.ne_of_lt ha) e3 hP).toS, ⟨Heap.get?_push_size _ rfl, Heap.get?_push_of_some _ e1⟩, fun b hb => ?_, fun i v z => z, fun s' t' hm => ?_⟩
  · show b < (s.heap.push _).objs.size
    rw [size_push']
    rcases List.mem_cons.mp hb with z | z
    · rw [z]
      exact Nat.lt_succ_self _
    · rw [List.mem_singleton.mp z]
      exact Nat.lt_succ_of_lt ha
  · have hk : ∀ b o, s.heap.get? b = some o → s'.heap.get? b = some o := fun b o e =>
      hm.heap b o (fun hI => absurd (Heap.lt_size e) (by rw [List.mem_singleton.mp hI]; exact Nat.lt_irrefl _)) (Heap.get?_push_of_some _ e)
    rw [Moved.eq_with hm]
    refine ⟨.int ns.sum, H, I.kept (h' := s'.heap) (t' := s'.toks) hk, ⟨t', ?_⟩, q⟩
    rw [hsz, pre_sum]
end
end Ef
set_option maxHeartbeats 4000000
namespace Ef
open PySem PySem.Spec PyProof.Rows L2
/-! ### what is counted -/
theorem valV_mem {κ : Type} [DecidableEq κ] : ∀ {kvs : List (κ × V)} {k : κ} {v : V}, (kvs.map (·.1)).Nodup → (k, v) ∈ kvs → valV kvs k = some v
  | [], _, _, _, h => absurd h List.not_mem_nil
  | p :: r, k, v, hn, h => by
    rw [List.map_cons] at hn
    obtain ⟨h1, h2⟩ := List.nodup_cons.mp hn
    by_cases e : p.1 = k
    · rw [valV_pos e]
      rcases List.mem_cons.mp h with z | z
      · rw [← z]
      · exact absurd (List.mem_map.mpr ⟨(k, v), z, rfl⟩) (by rw [← e]; exact h1)
    · rw [valV_neg e]
      rcases List.mem_cons.mp h with z | z
      · exact absurd (by rw [← z]) e
      · exact valV_mem h2 z
theorem valV_some {κ : Type} [DecidableEq κ] : ∀ {kvs : List (κ × V)} {k : κ}, (valV kvs k).isSome = true ↔ k ∈ kvs.map (·.1)
  | [], k => by
    constructor
    · intro h
      cases h
    · intro h
      exact absurd h List.not_mem_nil
  | p :: r, k => by
    rw [List.map_cons, List.mem_cons]
    by_cases e : p.1 = k
    · rw [valV_pos e]
      exact ⟨fun _ => .inl e.symm, fun _ => rfl⟩
    · rw [valV_neg e, valV_some (kvs := r)]
      exact ⟨.inr, fun h => h.resolve_left fun z => e z.symm⟩
theorem putK_keys {κ : Type} [DecidableEq κ] (kvs : List (κ × V)) (k : κ) (v : V) : (putK kvs k v).map (·.1) = if k ∈ kvs.map (·.1) then kvs.map (·.1) else kvs.map (·.1) ++ [k] := by
  unfold putK
  rw [valV_any]
  by_cases c : k ∈ kvs.map (·.1)
  · rw [if_pos c, if_pos (valV_some.mpr c), List.map_map]
    refine List.map_congr_left fun x _ => ?_
    show (if x.1 = k then (x.1, v) else x).1 = x.1
    by_cases e : x.1 = k
    · rw [if_pos e]
    · rw [if_neg e]
  · rw [if_neg c, if_neg (fun z => c (valV_some.mp z)), List.map_append]
    rfl
theorem tally_nodup : ∀ (n : Nat) (ks : List NestedKey), ks.length = n → ((tallyN ks).map (·.1)).Nodup
  | 0, ks, h => by
    rw [List.length_eq_zero_iff.mp h]
    exact List.nodup_nil
  | n + 1, ks, h => by
    obtain ⟨l, x, rfl⟩ : ∃ l x, ks = l ++ [x] := ⟨ks.dropLast, ks.getLast (fun e => by rw [e] at h; cases h), (List.dropLast_concat_getLast _).symm⟩
    have hl : l.length = n := by
      rw [List.length_append] at h
      have : [x].length = 1 := rfl
      omega
    have ih := tally_nodup n l hl
    rw [tally_snoc, putK_keys]
    split
    · exact ih
    · rename_i c
      refine List.nodup_append.mpr ⟨ih, List.nodup_cons.mpr ⟨List.not_mem_nil, List.nodup_nil⟩, fun a ha b hb e => ?_⟩
      rw [List.mem_singleton.mp hb] at e
      exact c (e ▸ ha)
theorem tally_keys (ks : List NestedKey) (k : NestedKey) : k ∈ (tallyN ks).map (·.1) ↔ k ∈ ks := by
  rw [← valV_some, tally_val _ _ rfl]
  by_cases c : ks.count k = 0
  · rw [if_pos c]
    constructor
    · intro h
      cases h
    · intro h
      exact absurd (List.count_pos_iff.mpr h) (by omega)
  · rw [if_neg c]
    exact ⟨fun _ => List.count_pos_iff.mp (by omega), fun _ => rfl⟩
/-- the pairs, by their keys -/
theorem tally_eq (ks : List NestedKey) : tallyN ks = ((tallyN ks).map (·.1)).map fun k => (k, V.int (ks.count k : Nat)) := by
  have hn := tally_nodup _ ks rfl
  have hv := tally_val _ ks rfl
  rw [List.map_map]
  conv => lhs; rw [← List.map_id (tallyN ks)]
  refine List.map_congr_left fun p hp => ?_
  have h1 := valV_mem (k := p.1) (v := p.2) hn hp
  rw [hv] at h1
  split at h1
  · cases h1
  · have h2 := Option.some.inj h1
    show p = (p.1, _)
    rw [h2]
theorem tally_snd (ks : List NestedKey) : (tallyN ks).map (·.2) = (((tallyN ks).map (·.1)).map fun k => ((ks.count k : Nat) : Int)).map V.int := by
  conv => lhs; rw [tally_eq ks]
  rw [List.map_map, List.map_map, List.map_map, List.map_map]
  rfl
theorem sum_oneG {α : Type} [DecidableEq α] {c : α} : ∀ {cs : List α}, cs.Nodup → c ∈ cs → (cs.map fun d => if c = d then 1 else 0).sum = 1
  | [], _, h => absurd h List.not_mem_nil
  | d :: cs, hn, h => by
    obtain ⟨h1, h2⟩ := List.nodup_cons.mp hn
    rw [List.map_cons, List.sum_cons]
    by_cases e : c = d
    · subst e
      have z : ∀ (l : List α), c ∉ l → (l.map fun d => if c = d then 1 else 0).sum = 0 := by
        intro l
        induction l with
        | nil => intro _; rfl
        | cons a l ih =>
          intro hh
          rw [List.map_cons, List.sum_cons, if_neg (fun z : c = a => hh (by rw [z]; exact List.mem_cons_self)), ih fun z => hh (List.mem_cons_of_mem _ z)]
      rw [if_pos rfl, z cs h1]
    · rw [if_neg e, sum_oneG h2 ((List.mem_cons.mp h).resolve_left e)]
theorem sum_addG {α : Type} (f g : α → Nat) : ∀ l : List α, (l.map fun x => f x + g x).sum = (l.map f).sum + (l.map g).sum
  | [] => rfl
  | a :: l => by
    rw [List.map_cons, List.sum_cons, List.map_cons, List.sum_cons, List.map_cons, List.sum_cons, sum_addG f g l]
    omega
theorem sum_countsG {α : Type} [DecidableEq α] {cs : List α} (hn : cs.Nodup) : ∀ {ks : List α}, (∀ k ∈ ks, k ∈ cs) → (cs.map fun c => ks.count c).sum = ks.length
  | [], _ => by
    have : ∀ l : List α, (l.map fun c => ([] : List α).count c).sum = 0 := by
      intro l
      induction l with
      | nil => rfl
      | cons a l ih => rw [List.map_cons, List.sum_cons, ih]; rfl
    exact this cs
  | k :: ks, h => by
    have e : (fun c => (k :: ks).count c) = fun c => ks.count c + if k = c then 1 else 0 := by
      funext c
      rw [List.count_cons]
      congr 1
      by_cases z : k = c
      · rw [if_pos z, if_pos (beq_iff_eq.mpr z)]
      · rw [if_neg z, if_neg (fun y => z (beq_iff_eq.mp y))]
    rw [e, sum_addG, sum_countsG hn fun x hx => h x (List.mem_cons_of_mem _ hx), sum_oneG hn (h k List.mem_cons_self)]
    rfl
theorem sum_ints {α : Type} (f : α → Nat) : ∀ l : List α, (l.map fun k => ((f k : Nat) : Int)).sum = (((l.map f).sum : Nat) : Int)
  | [] => rfl
  | a :: l => by rw [List.map_cons, List.sum_cons, List.map_cons, List.sum_cons, sum_ints f l, Int.natCast_add]
theorem tally_sum (ks : List NestedKey) : (((tallyN ks).map (·.1)).map fun k => ((ks.count k : Nat) : Int)).sum = (ks.length : Int) := by
  rw [sum_ints]
  exact congrArg Int.ofNat (sum_countsG (tally_nodup _ ks rfl) fun k hk => (tally_keys ks k).mpr hk)
/-! of keys that tell what they are made of -/
theorem map_countG {α : Type} [DecidableEq α] (f : α → NestedKey) (inj : ∀ a b, f a = f b → a = b) (ks : List α) (c : α) : (ks.map f).count (f c) = ks.count c := by
  induction ks with
  | nil => rfl
  | cons k r ih =>
    rw [List.map_cons, List.count_cons, List.count_cons, ih]
    congr 1
    by_cases e : k = c
    · rw [e, if_pos (beq_self_eq_true _), if_pos (beq_self_eq_true _)]
    · rw [if_neg (fun z => e (inj _ _ (beq_iff_eq.mp z))), if_neg (fun z => e (beq_iff_eq.mp z))]
theorem tally_getG {α : Type} [DecidableEq α] (f : α → NestedKey) (inj : ∀ a b, f a = f b → a = b) (ks : List α) (c : α) : (valV (tallyN (ks.map f)) (f c)).getD (.int 0) = .int (ks.count c : Nat) := by
  rw [tally_val _ _ rfl, map_countG f inj]
  by_cases e : ks.count c = 0
  · rw [if_pos e, e]
    rfl
  · rw [if_neg e]
    rfl
theorem tally_oneG {α : Type} [DecidableEq α] (f : α → NestedKey) (inj : ∀ a b, f a = f b → a = b) (ks : List α) (c : α) : putK (tallyN (ks.map f)) (f c) (.int ((ks.count c : Nat) + 1)) = tallyN ((ks ++ [c]).map f) := by
  rw [List.map_append]
  show _ = tallyN (ks.map f ++ [f c])
  rw [tally_snoc]
  congr 2
  congr 1
  rw [tally_val _ _ rfl, map_countG f inj]
  by_cases e : ks.count c = 0
  · rw [if_pos e, e]
    rfl
  · rw [if_neg e]
    rfl
theorem tally_lenG (ks : List NestedKey) : (tallyN ks).length ≤ ks.length := by
  unfold tallyN
  have g : ∀ (ks : List NestedKey) (acc : List (NestedKey × V)), (ks.foldl (fun acc k => putK acc k (.int (cntV (valV acc k) + 1))) acc).length ≤ acc.length + ks.length := by
    intro ks
    induction ks with
    | nil => intro acc; exact Nat.le_refl _
    | cons k r ih =>
      intro acc
      rw [List.foldl_cons]
      have h1 := ih (putK acc k (.int (cntV (valV acc k) + 1)))
      have h2 := length_putK acc k (.int (cntV (valV acc k) + 1))
      rw [List.length_cons]
      omega
  have := g ks []
  rw [List.length_nil] at this
  omega
end Ef
set_option maxHeartbeats 4000000
namespace Ef
open PySem PySem.Spec PyProof.Rows L2
/-! ### set - set, of ints -/
section
variable {P : Program} {w : World} {A : Around} {E : Value → Shared → Prop} {s : Shared}
/-- the flags of a fresh set's table, turned -/
theorem setR_flags {h : Heap} {r : Addr} {o : Obj} {es : Array (Int × Value)} {ep : Nat} {t : SetTable} {S : Int → Bool} {n : Nat} {l p : Bool} (ho : h.get? r = some o) (hex : o.ExactSet) (hd : o.data = .set es ep t) (g : ∀ e ∈ es.toList, GoodE e) (nd : (es.toList.map keyOf).Nodup) (hm : ∀ k, S k = true ↔ k ∈ es.toList.map keyOf)
    (hb : es.size < scanBound) (hf : t.fits es.size = true) (hn : es.size = n) (hr : Ris t.place.toList) (hl : w.params.followText "set-order" = true ∨ l = true) :
    SetR w (h.update r (Obj.putSet es { t with led := l, plain := p })) r S n :=
  ⟨_, es, _, _, store_at ho hd, hex, rfl, g, nd, hm, hb, hf, hn, hr, hl⟩
theorem quiet_at : ∀ (l : List Addr) {Q : Bool → Shared → Prop}, (∀ a ∈ l, ∃ S n, SetR w s.heap a S n) → Q true s → wpAny (model P w) A (setsQuiet l) Q E s := by
  intro l Q hl q
  unfold setsQuiet
  refine wpAny_bind (wpAny_forIn_list _ (fun rest (b : Option Bool × Unit) s' => b.1 = none ∧ s' = s ∧ ∀ a ∈ rest, ∃ S n, SetR w s.heap a S n) _ ?_ ?_ l _ ⟨rfl, rfl, hl⟩)
  · rintro a rest ⟨b1, b2⟩ s1 ⟨hb, rfl, hl⟩
    obtain ⟨S, n, o, es, ep, t, ho, hex, hd, g, nd, hm, hsb, hf, hn, hr, hled⟩ := hl a List.mem_cons_self
    refine wpAny_bind (wpAny_setEntries_of ho hd hf ?_)
    refine wpAny_bind (MeetsSeq2.wpAny_forIn_array _ (fun rest (b : Option Bool × Unit) s' => b.1 = none ∧ s' = s1 ∧ ∀ e ∈ rest, GoodE e) _ ?_ ?_ es _ ⟨rfl, rfl, g⟩)
    · rintro ⟨h, x⟩ rest ⟨b1, b2⟩ s2 ⟨hb, rfl, g⟩
      obtain ⟨k, tk, rfl, e2⟩ := g _ List.mem_cons_self
      exact wpAny_pure ⟨rfl, rfl, fun e he => g e (List.mem_cons_of_mem _ he)⟩
    · rintro ⟨b1, b2⟩ s2 ⟨hb, rfl, _⟩
      obtain rfl : b1 = none := hb
      exact wpAny_pure ⟨rfl, rfl, fun a ha => hl a (List.mem_cons_of_mem _ ha)⟩
  · rintro ⟨b1, b2⟩ s1 ⟨hb, rfl, _⟩
    obtain rfl : b1 = none := hb
    exact wpAny_pure q
/-- all elements of a set, in an order -/
theorem setWalk_at {a : Addr} {o : Obj} {es : Array (Int × Value)} {ep : Nat} {t : SetTable} {Q : Array (Int × Value) → Shared → Prop} (ho : s.heap.get? a = some o) (hd : o.data = .set es ep t) (hf : t.fits es.size = true) (hl : w.params.followText "set-order" = true ∨ t.led = true)
    (h : ∀ (es' : Array (Int × Value)) d, es'.toList.Perm es.toList → Q es' { s with drawn := d }) : wpAny (model P w) A (setWalk a) Q E s := by
  unfold setWalk
  refine wpAny_bind (wpAny_setState_of ho hd hf ?_)
  dsimp only
  refine wpAny_bind (wpAny_byText ?_)
  cases hb : w.params.followText "set-order" with
  | true =>
    refine wp_if_pos rfl ?_
    exact wpAny_bind (wpAny_askSetting (wpAny_pure (h _ s.drawn (pick_perm _ _))))
  | false =>
    refine wp_if_neg (by simp) ?_
    try refine wpAny_bind (wpAny_pure ?_)
    have hl2 : t.led = true := hl.resolve_left (by rw [hb]; exact Bool.false_ne_true)
    by_cases hdr : (!t.plain && decide (es.size > 1)) = true
    · refine wp_if_pos hdr ?_
      exact wpAny_bind (drawOrder_at _ _ _ _ (Nat.le_of_eq Array.length_toList) fun ys d hp => wpAny_pure (h _ d (by simpa using hp)))
    · refine wp_if_neg hdr ?_
      try refine wpAny_bind (wpAny_pure ?_)
      refine wpAny_bind (wpAny_of_eq (a := ()) ?_ ?_)
      · show (if (!t.led && decide (es.size > 1)) = true then unsupported "set:maker-not-led" else pure ()) = pure ()
        rw [hl2]
        rfl
      · exact wpAny_pure (h es s.drawn (List.Perm.refl _))
theorem walkU_at {a q r : Addr} {o : Obj} {es : Array (Int × Value)} {ep : Nat} {t : SetTable} {S3 : Int → Bool} {n3 : Nat} {Q : Array (Int × Value) → Shared → Prop} (ho : s.heap.get? a = some o) (hd : o.data = .set es ep t) (hf : t.fits es.size = true) (hl : w.params.followText "set-order" = true ∨ t.led = true)
    (hq : ∀ b ∈ [a, q, r], ∃ S n, SetR w s.heap b S n) (R3 : SetR w s.heap r S3 n3)
    (h : ∀ (es' : Array (Int × Value)) h' d, es'.toList.Perm es.toList → Heap.SameBut r s.heap h' → SetR w h' r S3 n3 → Q es' { s with heap := h', drawn := d }) : wpAny (model P w) A (setWalkUnseen a [q, r] (some r)) Q E s := by
  unfold setWalkUnseen
  have walk : wpAny (model P w) A (setWalk a) Q E s := setWalk_at ho hd hf hl fun es' d hp => h es' s.heap d hp (Heap.SameBut.refl r s.heap) R3
  refine wpAny_bind (wpAny_setState_of ho hd hf ?_)
  dsimp only
  refine wpAny_bind (wpAny_byText ?_)
  by_cases hc : (w.params.followText "set-order" || (t.led && t.plain) || decide (es.size ≤ 1)) = true
  · refine wp_if_pos hc ?_
    first | exact walk | exact wpAny_bind walk
  · refine wp_if_neg hc ?_
    try refine wpAny_bind (wpAny_pure ?_)
    have hbt : w.params.followText "set-order" = false := by
      cases hb : w.params.followText "set-order" with
      | false => rfl
      | true => rw [hb] at hc; exact absurd rfl hc
    have hl2 : t.led = true := hl.resolve_left (by rw [hbt]; exact Bool.false_ne_true)
    refine wpAny_bind (quiet_at _ hq ?_)
    refine wp_if_neg (by simp) ?_
    try refine wpAny_bind (wpAny_pure ?_)
    refine wpAny_bind (wpAny_rule ?_)
    obtain ⟨o3, es3, ep3, t3, ho3, hex3, hd3, g3, nd3, hm3, hb3, hf3, hn3, hr3, hl3⟩ := R3
    refine wpAny_bind (wpAny_setState_of ho3 hd3 hf3 ?_)
    dsimp only
    by_cases hw : ((t3.led && !t.led) || (t3.plain && !t.plain)) = true
    · refine wp_if_pos hw ?_
      refine wpAny_bind (wpAny_storeSet_of ho3 hd3 ?_ (fits_of_scanBound hb3))
      refine wpAny_pure (h es _ s.drawn (List.Perm.refl _) (Heap.SameBut.update ..) ?_)
      refine setR_flags ho3 hex3 hd3 g3 nd3 hm3 hb3 hf3 hn3 hr3 (hl3.imp id fun z => ?_)
      rw [z, hl2]
      rfl
    · refine wp_if_neg hw ?_
      try refine wpAny_bind (wpAny_pure ?_)
      exact wpAny_pure (h es s.heap s.drawn (List.Perm.refl _) (Heap.SameBut.refl ..) ⟨o3, es3, ep3, t3, ho3, hex3, hd3, g3, nd3, hm3, hb3, hf3, hn3, hr3, hl3⟩)
theorem setR_type {h : Heap} {a : Addr} {S : Int → Bool} {n : Nat} (R : SetR w h a S n) (g : Array GenState) (d : Drawn) (tk : Nat) (os : OsState) : Shared.TypeIs { heap := h, gens := g, drawn := d, toks := tk, os := os } (.ref a) "set" := by
  obtain ⟨o, es, ep, t, ho, hex, _⟩ := R
  exact ⟨o, ho, hex.1⟩
theorem anySet_at {a : Addr} {S : Int → Bool} {n : Nat} {Q : Bool → Shared → Prop} (R : SetR w s.heap a S n) (h : Q true s) : wpAny (model P w) A (Builtin.Frozenset.isAnySet (.ref a)) Q E s := by
  unfold Builtin.Frozenset.isAnySet
  refine wpAny_bind (wpAny_isInstance (setR_type R _ _ _ _) sub_set_self ?_)
  exact wpAny_pure h
theorem baseOf_at {a : Addr} {S : Int → Bool} {n : Nat} {Q : Value → Shared → Prop} (R : SetR w s.heap a S n) (h : Q (.type "set") s) : wpAny (model P w) A (Builtin.Frozenset.baseOf a) Q E s := by
  unfold Builtin.Frozenset.baseOf
  refine wpAny_bind (wpAny_isInstance (setR_type R _ _ _ _) sub_set_self ?_)
  exact wpAny_pure h
theorem sizeOf_at {a : Addr} {S : Int → Bool} {n : Nat} {Q : Nat → Shared → Prop} (R : SetR w s.heap a S n) (h : Q n s) : wpAny (model P w) A (Builtin.Frozenset.sizeOf a) Q E s := by
  obtain ⟨o, es, ep, t, ho, hex, hd, g, nd, hm, hb, hf, hn, hr, hl⟩ := R
  unfold Builtin.Frozenset.sizeOf
  refine wpAny_bind (wpAny_setEntries_of ho hd hf (wpAny_pure ?_))
  rw [hn]
  exact h
theorem newSet_at {Q : Value → Shared → Prop} (h : ∀ h', (∀ b u, s.heap.get? b = some u → h'.get? b = some u) → h'.objs.size = s.heap.objs.size + 1 → SetR w h' s.heap.objs.size (fun _ => false) 0 → Q (.ref s.heap.objs.size) { s with heap := h' }) : wpAny (model P w) A (newSet (.type "set")) Q E s := by
  unfold newSet setsByText
  refine wpAny_bind (wpAny_bind (wpAny_askSetting (wpAny_pure ?_)))
  dsimp only
  simp only [newObj]
  refine wpAny_bind (wpAny_alloc (wpAny_pure (h _ (fun b u e => Heap.get?_push_of_some _ e) (Heap.size_push ..) ?_)))
  exact (setR_new_at (ns := []) (Heap.get?_push_size _ rfl)).congr fun k => by simp
theorem diff_at {a q : Addr} {S T : Int → Bool} {c e : Nat} {nm : String} {Q : Value → Shared → Prop} (Ra : SetR w s.heap a S c) (Rq : SetR w s.heap q T e) (small : c / 4 ≤ e) (room : c + 1 < scanBound)
    (h : ∀ h' d m, (∀ b u, s.heap.get? b = some u → h'.get? b = some u) → SetR w h' s.heap.objs.size (fun k => S k && !T k) m → Q (.ref s.heap.objs.size) { s with heap := h', drawn := d }) :
    wpAny (model P w) A (Builtin.Frozenset.difference nm a (.ref q)) Q E s := by
  unfold Builtin.Frozenset.difference
  dsimp only
  refine wpAny_bind (anySet_at Rq ?_)
  refine wp_if_neg (by simp) ?_
  refine wpAny_bind (m := Builtin.Frozenset.addrOf (.ref q)) (wpAny_pure ?_)
  refine wp_if_neg (by simp) ?_
  refine wp_if_pos rfl ?_
  refine wpAny_bind (sizeOf_at Rq ?_)
  refine wpAny_bind (sizeOf_at Ra ?_)
  refine wp_if_neg (by omega) ?_
  refine wpAny_bind (baseOf_at Ra ?_)
  refine wpAny_bind (newSet_at fun h1 k1 z1 R1 => ?_)
  generalize hr0 : s.heap.objs.size = r at R1 z1 h ⊢
  have hra : a < r := by rw [← hr0]; exact Ra.lt
  have hrq : q < r := by rw [← hr0]; exact Rq.lt
  refine wpAny_bind (m := Builtin.Frozenset.addrOf (.ref r)) (wpAny_pure ?_)
  have Ra1 := Ra.at (h' := h1) (k1 a)
  have Rq1 := Rq.at (h' := h1) (k1 q)
  obtain ⟨o, es, ep, t, ho, hex, hd, g, nd, hm, hb, hf, hn, hr, hl⟩ := id Ra1
  refine wpAny_bind (wpAny_setEpoch_of ho hd hf ?_)
  refine wpAny_bind (wpAny_holding ?_)
  refine wpAny_bind (wp_if_pos rfl ?_)
  refine walkU_at ho hd hf hl (fun b hb => ?_) R1 fun es' h2 d hp sb R2 => ?_
  · simp only [List.mem_cons, List.not_mem_nil, or_false] at hb
    rcases hb with rfl | rfl | rfl
    · exact ⟨_, _, Ra1⟩
    · exact ⟨_, _, Rq1⟩
    · exact ⟨_, _, R1⟩
  refine wpAny_bind (MeetsSeq2.wpAny_forIn_array _ (fun rest (b : PUnit) s' => ∃ h' m, s' = { s with heap := h', drawn := d } ∧ Heap.SameBut r h1 h' ∧ SetR w h' r (fun k => S k && !T k && !decide (k ∈ rest.map keyOf)) m ∧ m + rest.length ≤ c ∧ (∀ e ∈ rest, GoodE e) ∧ (rest.map keyOf).Nodup ∧ ∀ k ∈ rest.map keyOf, S k = true) _ ?_ ?_ es' _ ⟨h2, 0, rfl, sb, R2.congr fun k => ?_, ?_, ?_, ?_, ?_⟩)
  · rintro ⟨hh, x⟩ rest b s' ⟨h', m, rfl, sb, R, ml, g, nd, hS⟩
    obtain ⟨k, tk, e1, e2⟩ := g _ List.mem_cons_self
    obtain rfl : x = Value.int k tk := e1
    obtain rfl : hh = hashInt k := e2
    have kk : keyOf (hashInt k, Value.int k tk) = k := rfl
    rw [List.map_cons, kk] at nd hS R
    obtain ⟨nk, nd⟩ := List.nodup_cons.mp nd
    have hSk : S k = true := hS k List.mem_cons_self
    have ml' : m + rest.length + 1 ≤ c := ml
    have un : ∀ (h3 : Heap) {Q : Unit → Shared → Prop}, Heap.SameBut r h1 h3 → Q () { s with heap := h3, drawn := d } → wpAny (model P w) A (Builtin.Frozenset.unchanged nm a ep) Q E { s with heap := h3, drawn := d } := fun h3 Q sb3 hq => by
      unfold Builtin.Frozenset.unchanged
      refine wpAny_bind (wpAny_setEpoch_of ((sb3.2 a (Nat.ne_of_lt hra)).trans ho) hd hf ?_)
      exact wp_if_neg (by simp) (wpAny_pure hq)
    refine wpAny_bind (wpAny_holding (wp_if_pos rfl ?_))
    obtain ⟨oq, esq, epq, tq, hoq, hexq, hdq, gq, ndq, hmq, hbq, hfq, hnq, hrq', hlq⟩ := Rq1
    refine wpAny_bind (PySem.W.setFind_any (knd := intKind P w) (S := T) (k := k) (intKind_is P w k tk) rfl ((sb.2 q (Nat.ne_of_lt hrq)).trans hoq) hdq (good_elems gq) (fun j => (hmq j).trans (good_mem gq j)) hbq hfq fun rr hrr => ?_)
    refine wpAny_bind (wpAny_pure ?_)
    rw [hrr]
    cases hT : T k with
    | true =>
      refine wp_if_neg (by simp) (wpAny_pure ?_)
      refine wpAny_bind (un h' sb (wpAny_pure ⟨h', m, rfl, sb, R.congr fun j => ?_, by omega, fun e he => g e (List.mem_cons_of_mem _ he), nd, fun j hj => hS j (List.mem_cons_of_mem _ hj)⟩))
      by_cases e : j = k
      · rw [e, hT]
        simp
      · simp [e, beq_eq_false_iff_ne.mpr e]
    | false =>
      refine wp_if_pos (by simp) (wpAny_bind ?_)
      refine setR_add_hashed R (by omega) fun h3 sb3 R3 => wpAny_pure ?_
      have sb13 := sb.trans sb3
      refine wpAny_bind (un h3 sb13 (wpAny_pure ⟨h3, _, rfl, sb13, R3.congr fun j => ?_, ?_, fun e he => g e (List.mem_cons_of_mem _ he), nd, fun j hj => hS j (List.mem_cons_of_mem _ hj)⟩))
      · by_cases e : j = k
        · rw [e, hT, hSk]
          simp [nk]
        · simp [e, beq_eq_false_iff_ne.mpr e]
      · split <;> omega
  · rintro b s' ⟨h', m, rfl, sb, R, ml, g, nd, hS⟩
    refine wpAny_pure (wpAny_pure (h h' d m (fun b u e => ?_) (R.congr fun k => ?_)))
    · have := Heap.lt_size e
      rw [hr0] at this
      exact (sb.2 b (Nat.ne_of_lt this)).trans (k1 b u e)
    · simp
  · have hp2 : (es'.toList.map keyOf).Perm (es.toList.map keyOf) := hp.map _
    cases hS : S k with
    | false => rfl
    | true =>
      have : k ∈ es'.toList.map keyOf := hp2.mem_iff.mpr ((hm k).mp hS)
      simp [this]
  · rw [hp.length_eq, Array.length_toList, hn]
    omega
  · exact fun e he => g e (hp.mem_iff.mp he)
  · exact (hp.map keyOf).nodup_iff.mpr nd
  · exact fun k hk => (hm k).mpr ((hp.map keyOf).mem_iff.mp hk)
end
theorem entry_set_sub : entryFor table "set.__sub__" = some Builtin.«frozenset.__sub__» :=
  entryFor_alias (id' := "frozenset.__sub__") (by kernel_rfl) rfl (by decide +kernel) (by kernel_rfl)
def rSetSub (w : World) : R2 := fun x y H Q => ∃ (p q : Addr) (S T : Int → Bool) (c e : Nat), x = .ref p ∧ y = .ref q ∧ H p = some (SetO w p S c) ∧ H q = some (SetO w q T e) ∧ c / 4 ≤ e ∧ c ≤ 4000 ∧
  ∀ r m, H r = none → (∃ ks : List Int, ks.Nodup ∧ (∀ k, k ∈ ks ↔ (S k && !T k) = true) ∧ ks.length = m) → Q (.ref r) (upd H r (SetO w r (fun k => S k && !T k) m))
section
variable {X : Cx} {w : World}
theorem op_setSub (hw : X.w = w := by rfl) : OpR X (binaryOp .Sub) (rSetSub w) := by
  subst hw
  intro pins s σ H x y v u Q I rx ry h
  obtain ⟨p, q, S, T, c, e, rfl, rfl, hp, hq, small, room, k⟩ := h
  cases rx
  cases ry
  have Rp := setO_get I hp
  have Rq := setO_get I hq
  refine wpAny_binaryOp_same (setR_type Rp _ _ _ _) (setR_type Rq _ _ _ _) F.fills_set_sub F.slot_set_sub (wpAny_call_entry F.slot_set_sub (setR_type Rp _ _ _ _) entry_set_sub ?_ (F.args_set_sub_2 _ _))
  refine wpAny_bind (m := Builtin.Frozenset.slot1 "__sub__" _) (wpAny_of_eq (a := (.ref p, .ref q)) (by rfl) ?_)
  dsimp only
  refine wpAny_bind (wpAny_bind (anySet_at Rp ?_))
  refine anySet_at Rq ?_
  refine wp_if_neg (by simp) ?_
  refine wpAny_bind (m := Builtin.Frozenset.addrOf (.ref p)) (wpAny_pure ?_)
  refine wpAny_bind (diff_at Rp Rq small (by unfold scanBound; omega) fun h' d m kp R => ?_)
  have hn : H s.heap.objs.size = none := I.hok.fresh (Nat.le_refl _)
  refine wpAny_pure ⟨_, rfl, (fun z => nomatch z), .ref _, _, I.call (d' := d) (t' := s.toks) (ch := []) (Un.laid kp (Nat.le_refl _) hn) (I.hok.laid kp (Nat.le_refl _) (setO_new R)) I.bare (fun _ z => nomatch z), rfl, k _ m hn ?_⟩
  obtain ⟨o, es, ep, t, _, _, _, _, nd, mem, _, _, sz, _⟩ := R
  exact ⟨es.toList.map keyOf, nd, fun j => (mem j).symm, by rw [List.length_map, Array.length_toList]; exact sz⟩
end
end Ef
set_option maxHeartbeats 4000000
namespace Ef
open PySem PySem.Spec PyProof.Rows L2
/-! ### set != set, of ints -/
section
variable {P : Program} {w : World} {A : Around} {E : Value → Shared → Prop} {s : Shared}
/-- a walk that nobody sees -/
theorem walkUn_at {a q : Addr} {S T : Int → Bool} {c e : Nat} {Q : List (Int × Value) → Shared → Prop} (Ra : SetR w s.heap a S c) (Rq : SetR w s.heap q T e)
    (h : ∀ l : List (Int × Value), (∀ x ∈ l, GoodE x) → (∀ k, S k = true ↔ k ∈ l.map keyOf) → Q l s) : wpAny (model P w) A (Builtin.Frozenset.walkUnseen a q) Q E s := by
  obtain ⟨o, es, ep, t, ho, hex, hd, g, nd, hm, hb, hf, hn, hr, hl⟩ := Ra
  obtain ⟨o2, es2, ep2, t2, ho2, hex2, hd2, g2, nd2, hm2, hb2, hf2, hn2, hr2, hl2⟩ := Rq
  unfold Builtin.Frozenset.walkUnseen
  refine wpAny_bind (wpAny_setEntries_of ho hd hf ?_)
  refine wpAny_bind (wpAny_setEntries_of ho2 hd2 hf2 ?_)
  refine wpAny_bind (wpAny_forIn_list _ (fun rest (b : Option (List (Int × Value)) × Unit) s' => b.1 = none ∧ s' = s ∧ ∀ e ∈ rest, GoodE e) _ ?_ ?_ _ _ ⟨rfl, rfl, fun e he => (List.mem_append.mp he).elim (g e) (g2 e)⟩)
  · rintro ⟨hh, x⟩ rest ⟨b1, b2⟩ s2 ⟨hb, rfl, g⟩
    obtain ⟨k, tk, e1, e2⟩ := g _ List.mem_cons_self
    obtain rfl : x = Value.int k tk := e1
    exact wpAny_pure ⟨rfl, rfl, fun e he => g e (List.mem_cons_of_mem _ he)⟩
  · rintro ⟨b1, b2⟩ s1 ⟨hb, rfl, _⟩
    obtain rfl : b1 = none := hb
    exact wpAny_pure (h es.toList g hm)
theorem subset_at {a q : Addr} {S T : Int → Bool} {c e : Nat} {nm : String} {Q : Bool → Shared → Prop} (Ra : SetR w s.heap a S c) (Rq : SetR w s.heap q T e)
    (h : ∀ b : Bool, (b = true ↔ c ≤ e ∧ ∀ k, S k = true → T k = true) → Q b s) : wpAny (model P w) A (Builtin.Frozenset.subsetOf nm a q) Q E s := by
  unfold Builtin.Frozenset.subsetOf
  refine wpAny_bind (sizeOf_at Ra ?_)
  refine wpAny_bind (sizeOf_at Rq ?_)
  by_cases le : c > e
  · refine wp_if_pos le (wpAny_pure (h false ⟨fun z => (by cases z), fun z => (by omega)⟩))
  refine wp_if_neg le ?_
  obtain ⟨o, es, ep, t, ho, hex, hd, g, nd, hm, hb, hf, hn, hr, hl⟩ := id Ra
  refine wpAny_bind (wpAny_setEpoch_of ho hd hf ?_)
  refine wpAny_bind (walkUn_at Ra Rq fun l gl hS => ?_)
  refine wpAny_bind (wpAny_forIn_list _ (fun rest (b : Option Bool × Unit) s' => b.1 = none ∧ s' = s ∧ (∀ e ∈ rest, GoodE e) ∧ ((∀ k, S k = true → T k = true) ↔ ∀ k ∈ rest.map keyOf, T k = true)) _ ?_ ?_ _ _ ⟨rfl, rfl, gl, ?_⟩)
  · rintro ⟨hh, x⟩ rest ⟨b1, b2⟩ s2 ⟨hb1, rfl, g, hT⟩
    obtain ⟨k, tk, e1, e2⟩ := g _ List.mem_cons_self
    obtain rfl : x = Value.int k tk := e1
    obtain rfl : hh = hashInt k := e2
    have kk : keyOf (hashInt k, Value.int k tk) = k := rfl
    rw [List.map_cons, kk] at hT
    obtain ⟨oq, esq, epq, tq, hoq, hexq, hdq, gq, ndq, hmq, hbq, hfq, hnq, hrq', hlq⟩ := id Rq
    refine wpAny_bind (wpAny_holding (PySem.W.setFind_any (knd := intKind P w) (S := T) (k := k) (intKind_is P w k tk) rfl hoq hdq (good_elems gq) (fun j => (hmq j).trans (good_mem gq j)) hbq hfq fun rr hrr => ?_))
    cases hTk : T k with
    | true =>
      rw [hTk] at hrr
      refine wp_if_neg (by cases rr with | none => cases hrr | some _ => simp) ?_
      unfold Builtin.Frozenset.unchanged
      refine wpAny_bind (wpAny_bind (wpAny_setEpoch_of ho hd hf ?_))
      refine wp_if_neg (by simp) (wpAny_pure (wpAny_pure ⟨rfl, rfl, fun e he => g e (List.mem_cons_of_mem _ he), hT.trans ⟨fun z j hj => z j (List.mem_cons_of_mem _ hj), fun z j hj => (List.mem_cons.mp hj).elim (fun e => e ▸ hTk) (z j)⟩⟩))
    | false =>
      rw [hTk] at hrr
      refine wp_if_pos (by cases rr with | none => rfl | some _ => cases hrr) ?_
      refine wpAny_pure ?_
      exact wpAny_pure (h false ⟨fun z => (by cases z), fun z => by have := hT.mp z.2 k List.mem_cons_self; rw [hTk] at this; cases this⟩)
  · rintro ⟨b1, b2⟩ s1 ⟨hb1, rfl, _, hT⟩
    obtain rfl : b1 = none := hb1
    exact wpAny_pure (h true ⟨fun _ => ⟨by omega, hT.mpr fun k hk => by cases hk⟩, fun _ => rfl⟩)
  · exact ⟨fun z k hk => z k ((hS k).mpr hk), fun z k hk => z k ((hS k).mp hk)⟩
end
theorem entry_set_ne : entryFor table "set.__ne__" = some Builtin.«frozenset.__ne__» :=
  entryFor_alias (id' := "frozenset.__ne__") (by kernel_rfl) rfl (by decide +kernel) (by kernel_rfl)
def rSetNe (w : World) : R2 := fun x y H Q => ∃ (p q : Addr) (S T : Int → Bool) (c e : Nat), x = .ref p ∧ y = .ref q ∧ H p = some (SetO w p S c) ∧ H q = some (SetO w q T e) ∧
  ∀ b : Bool, (b = false ↔ c = e ∧ ∀ k, S k = true → T k = true) → Q (.bl b) H
section
variable {X : Cx} {w : World}
theorem op_setNe (hu : X.A.units < cLine) (hw : X.w = w := by rfl) : OpR X (compareOp .NotEq) (rSetNe w) := by
  subst hw
  intro pins s σ H x y v u Q I rx ry h
  obtain ⟨p, q, S, T, c, e, rfl, rfl, hp, hq, k⟩ := h
  cases rx
  cases ry
  have Rp := setO_get I hp
  have Rq := setO_get I hq
  refine wpAny_richCompare_same_room (op := .NotEq) (setR_type Rp _ _ _ _) (setR_type Rq _ _ _ _) F.slot_set_ne (wpAny_call_entry F.slot_set_ne (setR_type Rp _ _ _ _) entry_set_ne ?_ (F.args_set_ne_2 _ _)) hu
  refine wpAny_bind (m := Builtin.Frozenset.slot1 "__ne__" _) (wpAny_of_eq (a := (.ref p, .ref q)) (by rfl) ?_)
  dsimp only
  refine wpAny_bind (anySet_at Rq ?_)
  refine wp_if_neg (by simp) ?_
  refine wpAny_bind (m := Builtin.Frozenset.addrOf (.ref p)) (wpAny_pure ?_)
  refine wpAny_bind (m := Builtin.Frozenset.addrOf (.ref q)) (wpAny_pure ?_)
  refine wpAny_bind (sizeOf_at Rp ?_)
  refine wpAny_bind (sizeOf_at Rq ?_)
  by_cases ce : c = e
  · refine wpAny_bind (wp_if_neg (by simp [ce]) ?_)
    refine wpAny_bind (wpAny_bind (wpAny_isInstance (setR_type Rp _ _ _ _) F.sub_set_frozenset (wpAny_pure ?_)))
    refine wp_if_neg (by simp) ?_
    refine subset_at Rp Rq fun b hb => wpAny_pure ?_
    refine ⟨_, rfl, (fun z => nomatch z), .bl (!b), H, I, rfl, k (!b) ⟨fun z => ⟨ce, (hb.mp (by simpa using z)).2⟩, fun z => by rw [hb.mpr ⟨by omega, z.2⟩]; rfl⟩⟩
  · refine wpAny_bind (wp_if_pos (by simpa using ce) (wpAny_pure (wpAny_pure ?_)))
    exact ⟨_, rfl, (fun z => nomatch z), .bl true, H, I, rfl, k true ⟨fun z => (by cases z), fun z => absurd z.1 ce⟩⟩
end
end Ef
set_option maxHeartbeats 4000000
namespace Ef
open PySem PySem.Spec PyProof.Rows L2
/-! ### set([x]) of an int or of None -/
theorem setF_at {P : Program} {w : World} {h h' : Heap} {a : Addr} {S : Leaf → Bool} {n : Nat} (R : h.SetOf (leafKind P w) a S n) (k : ∀ o, h.get? a = some o → h'.get? a = some o) : h'.SetOf (leafKind P w) a S n := by
  obtain ⟨o, es, ep, t, ho, r⟩ := R
  exact ⟨o, es, ep, t, k o ho, r⟩
/-- c is the number of different ones among ns -/
def DiffF (ns : List Leaf) (c : Nat) : Prop := ∃ ks : List Leaf, ks.Nodup ∧ (∀ k, k ∈ ks ↔ k ∈ ns) ∧ ks.length = c
theorem diffF0 (ns : List Leaf) : DiffF (ns.take 0) 0 := ⟨[], List.nodup_nil, fun k => by simp, rfl⟩
theorem sub_lenF : ∀ {ks ns : List Leaf}, ks.Nodup → (∀ k ∈ ks, k ∈ ns) → ks.length ≤ ns.length
  | [], _, _, _ => Nat.zero_le _
  | k :: r, ns, h, hs => by
    have hk := hs k List.mem_cons_self
    have h1 := sub_lenF (ks := r) (ns := ns.erase k) (List.nodup_cons.mp h).2 fun x hx => (List.mem_erase_of_ne (fun e : x = k => (List.nodup_cons.mp h).1 (e ▸ hx))).mpr (hs x (List.mem_cons_of_mem _ hx))
    have h2 := List.length_erase_of_mem hk
    have h3 := List.length_pos_of_mem hk
    show r.length + 1 ≤ ns.length
    omega
theorem DiffF.le {ns : List Leaf} {c : Nat} (h : DiffF ns c) : c ≤ ns.length := by
  obtain ⟨ks, h1, h2, rfl⟩ := h
  exact sub_lenF h1 fun k hk => (h2 k).mp hk
theorem DiffF.nodup {ns : List Leaf} {c : Nat} (h : DiffF ns c) (hn : ns.Nodup) : c = ns.length := by
  obtain ⟨ks, h1, h2, rfl⟩ := h
  exact ((List.perm_ext_iff_of_nodup h1 hn).mpr h2).length_eq
theorem DiffF.snoc {ns : List Leaf} {i : Nat} {z : Leaf} {c : Nat} (h : DiffF (ns.take i) c) (hz : ns[i]? = some z) : DiffF (ns.take (i + 1)) (if decide (z ∈ ns.take i) = true then c else c + 1) := by
  obtain ⟨ks, h1, h2, rfl⟩ := h
  have e : ns.take (i + 1) = ns.take i ++ [z] := by rw [List.take_add_one, hz] <;> rfl
  by_cases hm : z ∈ ns.take i
  · refine ⟨ks, h1, fun k => ?_, by rw [if_pos (by simpa using hm)]⟩
    rw [e, List.mem_append, List.mem_singleton, h2 k]
    exact ⟨.inl, fun t => t.elim id fun t => t ▸ hm⟩
  · refine ⟨z :: ks, List.nodup_cons.mpr ⟨fun t => hm ((h2 z).mp t), h1⟩, fun k => ?_, by rw [if_neg (by simpa using hm)] <;> rfl⟩
    rw [e, List.mem_append, List.mem_singleton, List.mem_cons, h2 k]
    exact or_comm
theorem setF_new_at {P : Program} {w : World} {h : Heap} {a : Addr} {ns : List Leaf} (ho : h.get? a = some { cls := .type "set", dict := none, data := .set #[] 0 (.fresh 0 0 (!w.params.followText "set-order")) }) : h.SetOf (leafKind P w) a (fun j => decide (j ∈ ns.take 0)) 0 :=
  ⟨_, #[], 0, _, ho, ⟨rfl, rfl, rfl⟩, rfl, (fun e he => by simp at he), (fun k => by simp), (by decide), (by rfl), rfl⟩
theorem setF_congr {P : Program} {w : World} {h : Heap} {a : Addr} {S S' : Leaf → Bool} {n : Nat} (R : h.SetOf (leafKind P w) a S n) (e : ∀ k, S k = S' k) : h.SetOf (leafKind P w) a S' n := by
  rw [← funext e]
  exact R
section
variable {P : Program} {w : World} {A : Around} {E : Value → Shared → Prop} {s : Shared}
theorem set_update_leaf {I : Addr} {fp wr : List Addr} {G : Array GenState → Array GenState → Prop} {n : Nat} {Pv : Nat → Value → Prop} {St : Nat → Shared → Prop} {R : Result → Shared → Prop}
    (W : WalksS P w A.in1 I fp wr G n Pv St) (S : Addr) (hSf : S ∉ fp) (ns : List Leaf) (hn : n = ns.length) (hb : ns.length + 1 < scanBound) (hval : ∀ i v, Pv i v → ∃ k, ns[i]? = some k ∧ ((leafKind P w).is k v = true ∧ v.scannable = true)) :
    ∀ (k i : Nat) (s : Shared), n - i = k → i ≤ n → St i s → (∃ c, DiffF (ns.take i) c ∧ s.heap.SetOf (leafKind P w) S (fun j => decide (j ∈ ns.take i)) c) →
      (∀ s' c, Moved (S :: wr) G s s' → DiffF ns c → s'.heap.SetOf (leafKind P w) S (fun j => decide (j ∈ ns)) c → R (.ok (.ret .none)) s') →
      codeAny (model P w) A (.builtin "set.update.loop" ⟨[.ref S, .ref I], []⟩) R s := by
  have hSw : S ∉ wr := fun h => hSf (W.sub _ h)
  have hsub : ∀ b ∈ wr, b ∈ S :: wr := fun b hb => List.mem_cons_of_mem _ hb
  intro k
  induction k with
  | zero =>
    intro i s hk' hi hst ⟨c, hc, hS⟩ hR
    have hin : i = n := by omega
    subst hin
    refine codeAny_builtin F.entry_set_update_loop ?_
    rw [Around.under_plainId F.plain_set_update_loop _]
    show wpAny _ A.in1 (pyNext (.ref I) >>= _) _ _ s
    refine wpAny_bind (W.done s _ _ hst fun s' hm => ?_)
    show wpAny _ A.in1 (ret Value.none) _ _ s'
    have e : ns.take i = ns := List.take_of_length_le (by omega)
    rw [e] at hS hc
    exact wpAny_pure (hR s' c (hm.mono hsub) hc (setF_at hS fun o e => hm.heap S o hSw e))
  | succ k ih =>
    intro i s hk' hi hst ⟨c, hc, hS⟩ hR
    have hlt : i < n := by omega
    refine codeAny_builtin F.entry_set_update_loop ?_
    rw [Around.under_plainId F.plain_set_update_loop _]
    show wpAny _ A.in1 (pyNext (.ref I) >>= _) _ _ s
    refine wpAny_bind (W.item i s _ _ hlt hst fun v s' hP hst' hm => ?_)
    obtain ⟨z, hz, rz⟩ := hval i v hP
    have hS' : s'.heap.SetOf (leafKind P w) S (fun j => decide (j ∈ ns.take i)) c := setF_at hS fun o e => hm.heap S o hSw e
    have cl : c ≤ i := Nat.le_trans hc.le (by rw [List.length_take]; omega)
    show wpAny _ A.in1 (holding [v] (setAdd S v) >>= _) _ _ s'
    refine wpAny_bind (wpAny_holding ?_)
    unfold setAdd
    refine wpAny_holding ?_
    refine wpAny_bind ((leafKind P w).pyHash (k := z) (rz.1) ?_)
    refine wpAny_setAddHashed_of (knd := leafKind P w) (s := { s' with toks := s'.toks + 1 }) (rz.1) (rz.2) hS' (by omega) fun h' hsb hS2 => ?_
    have hS3 : h'.SetOf (leafKind P w) S (fun j => decide (j ∈ ns.take (i + 1))) (if decide (z ∈ ns.take i) = true then c else c + 1) := setF_congr hS2 fun j => by
      rw [List.take_add_one, hz]
      simp [List.mem_append]
    refine wpAny_pure ⟨plainId_quiet F.plain_set_update_loop _, ih (i + 1) _ (by omega) hlt (W.frame _ s' _ _ hst' (Nat.le_succ _) fun b hb o e => ?_) ⟨_, hc.snoc hz, hS3⟩ fun s'' c2 hm'' hc'' hS'' => ?_⟩
    · rw [hsb.2 b (fun h : b = S => hSf (by rw [← h]; exact hb))]; exact e
    · refine hR s'' c2 (Moved.trans W.gtrans ((hm.mono hsub).then_heap (Nat.le_succ _) fun b o hb e => ?_) hm'') hc'' hS''
      rw [hsb.2 b (fun h : b = S => hb (by rw [h]; exact List.mem_cons_self))]; exact e
theorem call_setFs {l : Addr} {items : Array Value} (ns : List Leaf) {Q : Value → Shared → Prop} (hh : A.handled = none) (hl : s.heap.IsList l items) (len : items.size = ns.length) (val : ∀ (i : Nat) (v : Value), items[i]? = some v → ∃ k, ns[i]? = some k ∧ ((leafKind P w).is k v = true ∧ v.scannable = true)) (hb : ns.length + 1 < scanBound)
    (h : ∀ (h' : Heap) (tk c : Nat), Heap.SetOf (leafKind P w) h' s.heap.objs.size (fun j => decide (j ∈ ns)) c → DiffF ns c → (∀ b o, s.heap.get? b = some o → h'.get? b = some o) → Q (.ref s.heap.objs.size) { s with heap := h', toks := tk }) :
    wpAny (model P w) A (call (.type "set") [.ref l]) Q E s := by
  obtain ⟨mc, mt, y0⟩ := F.called_set.mro
  have y1 := F.called_set.made
  have y2 := F.called_set.sub
  have y3 := F.called_set.notType
  have y4 := F.called_set.canCreate
  have y5 := F.typeCall_set_1 (.ref l)
  have hS : (s.heap.push (set0 w)).get? s.heap.objs.size = some (set0 w) := Heap.get?_push_size _ rfl
  have hT : Shared.TypeIs { s with heap := s.heap.push (set0 w) } (.ref s.heap.objs.size) "set" := ⟨_, hS, rfl⟩
  have y6 := F.called_set.init.lookup
  have y7 := F.called_set.init.bind (.ref s.heap.objs.size)
  refine wpAny_call (codeAny_of_tree (show wpAny _ _ (callAny (.type "set") _) _ _ _ from wpAny_pure ⟨Code.quiet_builtin _ (by decide +kernel), codeAny_builtin F.entry_type_call ?_⟩))
  rw [Around.under_plain (weight_type_call_type "set" [.ref l] []) rfl]
  repeat any_goals first | assumption | wp_step
  refine codeAny_mono (code_set_led1 (.ref l) (E := E) (Q₁ := fun obj s₁ => obj = .ref s.heap.objs.size ∧ s₁ = { s with heap := s.heap.push (set0 w) }) ⟨rfl, rfl⟩) fun r s₁ hr => ?_
  cases r with
  | error e => exact hr
  | ok fl =>
    cases fl with
    | ret obj =>
      obtain ⟨rfl, rfl⟩ := hr
      repeat any_goals first | assumption | wp_step
      refine codeAny_mono (codeAny_call_builtin (R := wants (fun r s₂ => r = .none ∧ ∃ h' tk c, s₂ = { s with heap := h', toks := tk } ∧ Heap.SetOf (leafKind P w) h' s.heap.objs.size (fun j => decide (j ∈ ns)) c ∧ DiffF ns c ∧
          (∀ b o, s.heap.get? b = some o → h'.get? b = some o)) E) F.called_set.init.plain F.entry_set_init (check_set_init_1 hT ?_)) fun r₂ s₂ hr₂ => ?_
      · obtain ⟨⟨c1, c2, c3, c4⟩, hol, hcl, nl, hdl⟩ := hl
        simp only at hcl hdl
        subst hcl hdl
        have ho2 : (s.heap.push (set0 w)).get? l = some { cls := .type "list", dict := c2, data := .seq items nl, slots := c4 } := Heap.get?_push_of_some _ hol
        have z1 := F.sub_list_set
        have z2 := F.sub_list_frozenset
        have z3 : (Value.type "list" == Value.type "dict") = false := by decide
        have hl1 : (s.heap.push (set0 w)).IsList l items := ⟨_, ho2, rfl, nl, rfl⟩
        have lS : l < s.heap.objs.size := Heap.lt_size hol
        have sz : (s.heap.push (set0 w)).objs.size = s.heap.objs.size + 1 := Heap.size_push ..
        unfold Builtin.«set.__init__» noKeywords Builtin.Frozenset.updateFrom
        generalize hPI : pyIter = PI
        wp_walk
        subst hPI
        refine wpAny_pyIter_list hl1 (wpAny_bind (wpAny_runValue ?_))
        have h3 : A.in1.in1.in1.handled = none := by simp [hh]
        have ne1 : l ≠ (s.heap.push (set0 w)).objs.size := by
          rw [sz]
          exact Nat.ne_of_lt (Nat.lt_succ_of_lt lS)
        have nf : s.heap.objs.size ∉ [(s.heap.push (set0 w)).objs.size, l] := by
          rw [sz]
          simp only [List.mem_cons, List.not_mem_nil, or_false, not_or]
          exact ⟨Nat.ne_of_lt (Nat.lt_succ_self _), Nat.ne_of_gt lS⟩
        refine set_update_leaf ((Walks.list h3 _ l ne1 items).toS) s.heap.objs.size nf ns len hb val (items.size - 0) 0 _ (by omega) (Nat.zero_le _) ⟨⟨_, Heap.get?_push_size _ rfl, rfl, rfl⟩, (hl1.push _)⟩ ⟨0, diffF0 ns, setF_new_at (P := P) (Heap.get?_push_of_some _ hS)⟩ ?_
        intro s' c' hm hc' hS'
        obtain ⟨h', g2, d', tk', os'⟩ := s'
        have eg : g2 = s.gens := hm.gens
        have ed : d' = s.drawn := hm.drawn
        have eo : os' = s.os := hm.os
        subst eg ed eo
        refine wpAny_pure (show wpAny _ _ (ret Value.none) _ _ _ from wpAny_pure ⟨rfl, h', tk', c', rfl, hS', hc', fun b o e => ?_⟩)
        have b0 : b < s.heap.objs.size := Heap.lt_size e
        refine hm.heap b o ?_ (Heap.get?_push_of_some _ (Heap.get?_push_of_some _ e))
        simp only [List.mem_cons, List.not_mem_nil, or_false, not_or]
        rw [sz]
        exact ⟨Nat.ne_of_lt b0, Nat.ne_of_lt (Nat.lt_succ_of_lt b0)⟩
      · cases r₂ with
        | error e => exact hr₂
        | ok fl₂ =>
          cases fl₂ with
          | ret r =>
            obtain ⟨rfl, h', tk, c', rfl, hS', hc', hk'⟩ := hr₂
            repeat any_goals first | assumption | wp_step
            exact h _ _ _ hS' hc' hk'
          | _ => exact hr₂.elim
    | _ => exact hr.elim
end
def SetF (P : Program) (w : World) (a : Addr) (S : Leaf → Bool) (n : Nat) : HO := .ext fun h => h.SetOf (leafKind P w) a S n
theorem setF_new {w : World} {P : Program} {H : Hp} {h : Heap} {a : Addr} {S : Leaf → Bool} {n : Nat} (R : h.SetOf (leafKind P w) a S n) : ObjOk P w H h a (SetF P w a S n) := by
  have ⟨o, _, _, _, ho, _⟩ := R
  exact ⟨R, ⟨o, ho⟩, fun h1 h2 p k => setF_at p k⟩
theorem setF_get {X : Cx} {pins : List (Addr × Obj)} {σ : L2.St} {H : Hp} {s : Shared} {a : Addr} {S : Leaf → Bool} {n : Nat} (I : Inv X pins σ H s) (ha : H a = some (SetF X.prog X.w a S n)) : s.heap.SetOf (leafKind X.prog X.w) a S n := (I.hok a _ ha).1
/-- an int or None -/
def optLf : Option Int → Leaf
  | none => .none
  | some i => .num i
def optLv : Option Int → V
  | none => .non
  | some i => .int i
theorem optL_is {P : Program} {w : World} {o : Option Int} {u : Value} (r : RelV (optLv o) u) : (leafKind P w).is (optLf o) u = true ∧ u.scannable = true := by
  cases o with
  | none =>
    cases r
    exact ⟨leaf_none, rfl⟩
  | some i =>
    obtain ⟨t, rfl⟩ := r
    exact ⟨leaf_int i t, rfl⟩
def rSet1 (K : PySem.W.Frag) (P : Program) (w : World) : List V → Hp → VK → Prop := fun xs H Q => ∃ (l : Addr) (o : Option Int), xs = [.ref l] ∧ SqL K H l [optLv o] ∧
    ∀ p : Addr, H p = none → Q (.ref p) (upd H p (SetF P w p (fun j => decide (j ∈ [optLf o])) 1))
section
variable {X : Cx} {P : Program} (K : PySem.W.Frag) {w : World}
theorem cr_set1 (hc : X.calm = true) (h : X.K = K := by rfl) (hp : X.prog = P := by rfl) (hw : X.w = w := by rfl) : CallR X (.type "set") (rSet1 K P w) := by
  subst h hp hw
  intro pins s σ H xs us Q I r h
  obtain ⟨l, o, rfl, hq, q⟩ := h
  obtain ⟨u, rfl, ru⟩ := vals1 r
  obtain rfl : u = Value.ref l := ru
  obtain ⟨its, rv, pt, hz⟩ := I.list hq
  obtain ⟨u, rfl, ru⟩ := vals1 rv
  refine call_setFs [optLf o] (I.ok.hd hc) (show s.heap.IsList l [u].toArray from pt.isList) rfl (fun i v hv => ?_) (by show 2 < scanBound; unfold scanBound; decide) fun h' tk c R1 hcn k => ?_
  · match i with
    | 0 =>
      cases hv
      exact ⟨_, rfl, optL_is ru⟩
    | i + 1 => simp at hv
  obtain rfl : c = 1 := hcn.nodup (by simp)
  exact ⟨.ref _, _, I.laid (t' := tk) k (Nat.le_refl _) (setF_new R1), rfl, q _ (I.hok.fresh (Nat.le_refl _))⟩
end
end Ef
set_option maxHeartbeats 4000000
namespace Ef
open PySem PySem.Spec PyProof.Rows L2
/-! ### set([x]) - set([None]) -/
/-- the set of an int alone, or of None alone -/
def Set1 (P : Program) (w : World) (a : Addr) : Option Int → HO
  | some i => SetO w a (fun j => decide (j ∈ [i])) 1
  | none => SetF P w a (fun j => decide (j ∈ [Leaf.none])) 1
def rSet1o (K : PySem.W.Frag) (P : Program) (w : World) : List V → Hp → VK → Prop := fun xs H Q => ∃ (l : Addr) (o : Option Int), xs = [.ref l] ∧ SqL K H l [optLv o] ∧
    ∀ p : Addr, H p = none → Q (.ref p) (upd H p (Set1 P w p o))
section
variable {X : Cx} {P : Program} (K : PySem.W.Frag) {w : World}
theorem cr_set1o (hc : X.calm = true) (h : X.K = K := by rfl) (hp : X.prog = P := by rfl) (hw : X.w = w := by rfl) : CallR X (.type "set") (rSet1o K P w) := by
  intro pins s σ H xs us Q I r z
  obtain ⟨l, o, rfl, hq, q⟩ := z
  cases o with
  | none => exact cr_set1 K hc h hp hw pins s σ H _ us Q I r ⟨l, none, rfl, hq, q⟩
  | some i =>
    refine cr_setLn K w hc h hw pins s σ H _ us Q I r ⟨l, [i], rfl, hq, by show 1 ≤ 1000; decide, fun p c hp hd => ?_⟩
    obtain rfl : c = 1 := by
      obtain ⟨ks, h1, h2, rfl⟩ := hd
      have : ks.Perm [i] := (List.perm_ext_iff_of_nodup h1 (by simp)).mpr h2
      exact this.length_eq
    exact q p hp
end
section
variable {P : Program} {w : World} {A : Around} {E : Value → Shared → Prop} {s : Shared}
theorem anySetF_at {a : Addr} {S : Leaf → Bool} {n : Nat} {Q : Bool → Shared → Prop} (R : s.heap.SetOf (leafKind P w) a S n) (h : Q true s) : wpAny (model P w) A (Builtin.Frozenset.isAnySet (.ref a)) Q E s := by
  unfold Builtin.Frozenset.isAnySet
  refine wpAny_bind (wpAny_isInstance R.typeIs sub_set_self ?_)
  exact wpAny_pure h
theorem baseOfF_at {a : Addr} {S : Leaf → Bool} {n : Nat} {Q : Value → Shared → Prop} (R : s.heap.SetOf (leafKind P w) a S n) (h : Q (.type "set") s) : wpAny (model P w) A (Builtin.Frozenset.baseOf a) Q E s := by
  unfold Builtin.Frozenset.baseOf
  refine wpAny_bind (wpAny_isInstance R.typeIs sub_set_self ?_)
  exact wpAny_pure h
theorem sizeOfF_at {a : Addr} {S : Leaf → Bool} {n : Nat} {Q : Nat → Shared → Prop} (R : s.heap.SetOf (leafKind P w) a S n) (h : Q n s) : wpAny (model P w) A (Builtin.Frozenset.sizeOf a) Q E s := by
  obtain ⟨o, es, ep, t, ho, hex, hd, g, hm, hb, hf, hn⟩ := R
  unfold Builtin.Frozenset.sizeOf
  refine wpAny_bind (wpAny_setEntries_of ho hd hf (wpAny_pure ?_))
  rw [hn]
  exact h
/-- the only element of a set -/
theorem walkOne_at {a : Addr} {l : List Addr} {f : Option Addr} {o : Obj} {es : Array (Int × Value)} {ep : Nat} {t : SetTable} {Q : Array (Int × Value) → Shared → Prop} (ho : s.heap.get? a = some o) (hd : o.data = .set es ep t) (hf : t.fits es.size = true) (h1 : es.size = 1)
    (h : ∀ es' : Array (Int × Value), es'.toList.Perm es.toList → Q es' s) : wpAny (model P w) A (setWalkUnseen a l f) Q E s := by
  unfold setWalkUnseen
  refine wpAny_bind (wpAny_setState_of ho hd hf ?_)
  dsimp only
  refine wpAny_bind (wpAny_byText ?_)
  refine wp_if_pos (by simp [h1]) ?_
  have walk : wpAny (model P w) A (setWalk a) Q E s := by
    unfold setWalk
    refine wpAny_bind (wpAny_setState_of ho hd hf ?_)
    dsimp only
    refine wpAny_bind (wpAny_byText ?_)
    cases hb : w.params.followText "set-order" with
    | true =>
      refine wp_if_pos rfl ?_
      exact wpAny_bind (wpAny_askSetting (wpAny_pure (h _ (pick_perm _ _))))
    | false =>
      refine wp_if_neg (by simp) ?_
      try refine wpAny_bind (wpAny_pure ?_)
      refine wp_if_neg (show ¬ (!t.plain && decide (es.size > 1)) = true by rw [h1]; simp) ?_
      try refine wpAny_bind (wpAny_pure ?_)
      refine wpAny_bind (wpAny_of_eq (a := ()) ?_ ?_)
      · show (if (!t.led && decide (es.size > 1)) = true then unsupported "set:maker-not-led" else pure ()) = pure ()
        rw [h1]
        simp
      · exact wpAny_pure (h es (List.Perm.refl _))
  first | exact walk | exact wpAny_bind walk
/-- what is kept of [x] beside None -/
def kept1 : Option Int → Int → Bool
  | some i => fun j => decide (j ∈ [i])
  | none => fun _ => false
def len1 : Option Int → Nat
  | some _ => 1
  | none => 0
theorem diff1_at {a q : Addr} {v : Option Int} {nm : String} {Q : Value → Shared → Prop} (Ra : (∃ i, v = some i ∧ SetR w s.heap a (fun j => decide (j ∈ [i])) 1) ∨ (v = none ∧ s.heap.SetOf (leafKind P w) a (fun j => decide (j ∈ [Leaf.none])) 1)) (Rq : s.heap.SetOf (leafKind P w) q (fun j => decide (j ∈ [Leaf.none])) 1)
    (h : ∀ h', (∀ b u, s.heap.get? b = some u → h'.get? b = some u) → SetR w h' s.heap.objs.size (kept1 v) (len1 v) → Q (.ref s.heap.objs.size) { s with heap := h' }) :
    wpAny (model P w) A (Builtin.Frozenset.difference nm a (.ref q)) Q E s := by
  have hsz : ∀ {Q : Nat → Shared → Prop}, Q 1 s → wpAny (model P w) A (Builtin.Frozenset.sizeOf a) Q E s := fun {Q} z => by
    rcases Ra with ⟨i, rfl, R⟩ | ⟨rfl, R⟩
    · exact sizeOf_at R z
    · exact sizeOfF_at R z
  have hba : ∀ {Q : Value → Shared → Prop}, Q (.type "set") s → wpAny (model P w) A (Builtin.Frozenset.baseOf a) Q E s := fun {Q} z => by
    rcases Ra with ⟨i, rfl, R⟩ | ⟨rfl, R⟩
    · exact baseOf_at R z
    · exact baseOfF_at R z
  have hob : ∃ o es ep t, s.heap.get? a = some o ∧ o.data = .set es ep t ∧ t.fits es.size = true ∧ es.size = 1 ∧ ∀ e ∈ es.toList, ∃ k, (leafKind P w).is k e.2 = true ∧ e.2.scannable = true ∧ e.1 = (leafKind P w).hash k ∧ k = optLf v ∧ ∀ i, v = some i → ∃ tk, e.2 = .int i tk := by
    rcases Ra with ⟨i, rfl, o, es, ep, t, ho, hex, hd, g, nd, hm, hb, hf, hn, hr, hl⟩ | ⟨rfl, o, es, ep, t, ho, hex, hd, g, hm, hb, hf, hn⟩
    · refine ⟨o, es, ep, t, ho, hd, hf, hn, fun e he => ?_⟩
      obtain ⟨k, tk, e1, e2⟩ := g e he
      have hk := (hm k).mpr (List.mem_map.mpr ⟨e, he, by unfold keyOf; rw [e1]⟩)
      obtain rfl : k = i := by simpa using hk
      rw [e1, e2]
      exact ⟨.num k, leaf_int k tk, rfl, rfl, rfl, fun i hi => by cases hi; exact ⟨tk, rfl⟩⟩
    · refine ⟨o, es, ep, t, ho, hd, hf, hn, fun e he => ?_⟩
      obtain ⟨⟨k, e1, e2⟩, e3⟩ := g e he
      have hk := (hm k).mpr ⟨e, he, e1⟩
      obtain rfl : k = Leaf.none := by simpa using hk
      exact ⟨_, e1, e3, e2, rfl, fun i hi => by cases hi⟩
  have al : a < s.heap.objs.size := by
    obtain ⟨o, es, ep, t, ho, _⟩ := hob
    exact Heap.lt_size ho
  unfold Builtin.Frozenset.difference
  dsimp only
  refine wpAny_bind (anySetF_at Rq ?_)
  refine wp_if_neg (by simp) ?_
  refine wpAny_bind (m := Builtin.Frozenset.addrOf (.ref q)) (wpAny_pure ?_)
  refine wp_if_neg (by simp) ?_
  refine wp_if_pos rfl ?_
  refine wpAny_bind (sizeOfF_at Rq ?_)
  refine wpAny_bind (hsz ?_)
  refine wp_if_neg (by decide) ?_
  refine wpAny_bind (hba ?_)
  refine wpAny_bind (newSet_at fun h1 k1 z1 R1 => ?_)
  generalize hr0 : s.heap.objs.size = r at R1 z1 h al ⊢
  have hrq : q < r := by
    obtain ⟨o, es, ep, t, ho, _⟩ := Rq
    rw [← hr0]
    exact Heap.lt_size ho
  refine wpAny_bind (m := Builtin.Frozenset.addrOf (.ref r)) (wpAny_pure ?_)
  obtain ⟨o, es, ep, t, ho, hd, hf, hn, hel⟩ := hob
  have ho1 := k1 _ _ ho
  have Rq1 := setF_at (h' := h1) Rq (k1 q)
  refine wpAny_bind (wpAny_setEpoch_of ho1 hd hf ?_)
  refine wpAny_bind (wpAny_holding ?_)
  refine wpAny_bind (wp_if_pos rfl ?_)
  refine walkOne_at ho1 hd hf hn fun es' hp => ?_
  have hl1 : es'.toList.length = 1 := by rw [hp.length_eq, Array.length_toList, hn]
  obtain ⟨e0, he0⟩ := List.length_eq_one_iff.mp hl1
  have hel0 := hel e0 (hp.mem_iff.mp (by rw [he0]; exact List.mem_cons_self))
  refine wpAny_bind (MeetsSeq2.wpAny_forIn_array _ (fun rest (b : PUnit) s' => (rest = [e0] ∧ s' = { s with heap := h1 }) ∨ (rest = [] ∧ ∃ h', s' = { s with heap := h' } ∧ Heap.SameBut r h1 h' ∧ SetR w h' r (kept1 v) (len1 v))) _ ?_ ?_ es' _ (.inl ⟨he0, rfl⟩))
  · rintro ⟨hh, x⟩ rest b s' (⟨e, rfl⟩ | ⟨e, _⟩)
    · injection e with e1 e2
      subst e1 e2
      obtain ⟨k, is, sc, eh, ek, ei⟩ := hel0
      dsimp only at is sc eh ei
      subst eh
      refine wpAny_bind (wpAny_holding (wp_if_pos rfl ?_))
      obtain ⟨oq, esq, epq, tq, hoq, hexq, hdq, gq, hmq, hbq, hfq, hnq⟩ := Rq1
      refine wpAny_bind (PySem.W.setFind_any (knd := leafKind P w) (S := fun j => decide (j ∈ [Leaf.none])) (k := k) is sc hoq hdq gq hmq hbq hfq fun rr hrr => ?_)
      refine wpAny_bind (wpAny_pure ?_)
      rw [hrr, ek]
      have un : ∀ (h3 : Heap) {Q : Unit → Shared → Prop}, Heap.SameBut r h1 h3 → Q () { s with heap := h3 } → wpAny (model P w) A (Builtin.Frozenset.unchanged nm a ep) Q E { s with heap := h3 } := fun h3 Q sb3 hq => by
        unfold Builtin.Frozenset.unchanged
        refine wpAny_bind (wpAny_setEpoch_of ((sb3.2 a (Nat.ne_of_lt al)).trans ho1) hd hf ?_)
        exact wp_if_neg (by simp) (wpAny_pure hq)
      cases v with
      | none =>
        refine wp_if_neg (by simp [optLf]) (wpAny_pure ?_)
        exact wpAny_bind (un h1 (Heap.SameBut.refl ..) (wpAny_pure (.inr ⟨rfl, h1, rfl, Heap.SameBut.refl .., R1⟩)))
      | some i =>
        obtain ⟨tk, rfl⟩ := ei i rfl
        refine wp_if_pos (by simp [optLf]) (wpAny_bind ?_)
        refine setR_add_hashed R1 (by unfold scanBound; decide) fun h3 sb3 R3 => wpAny_pure ?_
        refine wpAny_bind (un h3 sb3 (wpAny_pure (.inr ⟨rfl, h3, rfl, sb3, ?_⟩)))
        exact R3.congr fun j => by simp [kept1]
    · cases e
  · rintro b s' (⟨e, _⟩ | ⟨_, h', rfl, sb, R⟩)
    · cases e
    · refine wpAny_pure (wpAny_pure (h h' (fun b u e => ?_) R))
      have := Heap.lt_size e
      rw [hr0] at this
      exact (sb.2 b (Nat.ne_of_lt this)).trans (k1 b u e)
end
def rSetSub1 (P : Program) (w : World) : R2 := fun x y H Q => ∃ (p q : Addr) (v : Option Int), x = .ref p ∧ y = .ref q ∧ H p = some (Set1 P w p v) ∧ H q = some (Set1 P w q none) ∧
  ∀ r, H r = none → Q (.ref r) (upd H r (SetO w r (kept1 v) (len1 v)))
section
variable {X : Cx} {P : Program} {w : World}
theorem op_setSub1 (hp : X.prog = P := by rfl) (hw : X.w = w := by rfl) : OpR X (binaryOp .Sub) (rSetSub1 P w) := by
  subst hp hw
  intro pins s σ H x y v u Q I rx ry h
  obtain ⟨p, q, o, rfl, rfl, hp, hq, k⟩ := h
  cases rx
  cases ry
  have Rq := setF_get I hq
  have Ra : (∃ i, o = some i ∧ SetR X.w s.heap p (fun j => decide (j ∈ [i])) 1) ∨ (o = none ∧ s.heap.SetOf (leafKind X.prog X.w) p (fun j => decide (j ∈ [Leaf.none])) 1) := by
    cases o with
    | none => exact .inr ⟨rfl, setF_get I hp⟩
    | some i => exact .inl ⟨i, rfl, setO_get I hp⟩
  have tp : s.TypeIs (.ref p) "set" := by
    rcases Ra with ⟨i, _, R⟩ | ⟨_, R⟩
    · exact setR_type R _ _ _ _
    · exact R.typeIs
  have ap : ∀ {A : Around} {E : Value → Shared → Prop} {Q : Bool → Shared → Prop}, Q true s → wpAny (model X.prog X.w) A (Builtin.Frozenset.isAnySet (.ref p)) Q E s := fun {A E Q} z => by
    rcases Ra with ⟨i, _, R⟩ | ⟨_, R⟩
    · exact anySet_at R z
    · exact anySetF_at R z
  refine wpAny_binaryOp_same tp Rq.typeIs F.fills_set_sub F.slot_set_sub (wpAny_call_entry F.slot_set_sub tp entry_set_sub ?_ (F.args_set_sub_2 _ _))
  refine wpAny_bind (m := Builtin.Frozenset.slot1 "__sub__" _) (wpAny_of_eq (a := (.ref p, .ref q)) (by rfl) ?_)
  dsimp only
  refine wpAny_bind (wpAny_bind (ap ?_))
  refine anySetF_at Rq ?_
  refine wp_if_neg (by simp) ?_
  refine wpAny_bind (m := Builtin.Frozenset.addrOf (.ref p)) (wpAny_pure ?_)
  refine wpAny_bind (diff1_at Ra Rq fun h' kp R => ?_)
  have hn : H s.heap.objs.size = none := I.hok.fresh (Nat.le_refl _)
  exact wpAny_pure ⟨_, rfl, (fun z => nomatch z), .ref _, _, I.call (d' := s.drawn) (t' := s.toks) (ch := []) (Un.laid kp (Nat.le_refl _) hn) (I.hok.laid kp (Nat.le_refl _) (setO_new R)) I.bare (fun _ z => nomatch z), rfl, k _ hn⟩
end
end Ef
namespace Ef
/-! ### levels that are equal, and what follows for the live servers -/
def edgE (s : Nat) (r : List Nat) : List Nat × Nat := (srt (r.take s), r.getD s 0)
def cE (es : List (List Nat × Nat)) (e : List Nat × Nat) : Nat := es.countP fun a => decide (a = e)
theorem cE_app (a b : List (List Nat × Nat)) (e : List Nat × Nat) : cE (a ++ b) e = cE a e + cE b e := List.countP_append
theorem cE_perm {a b : List (List Nat × Nat)} (h : a.Perm b) (e : List Nat × Nat) : cE a e = cE b e := h.countP_eq _
theorem cE_map {α : Type} (f : α → List Nat × Nat) (e : List Nat × Nat) (l : List α) : cE (l.map f) e = l.countP fun a => decide (f a = e) := by
  unfold cE
  rw [List.countP_map]
  rfl
/-- all level numbers of the level are w -/
def Lev (n s w : Nat) (rows : List (List Nat)) : Prop := ∀ e ∈ allE n s, cE (rows.map (edgE s)) e = w
/-- rows of a table -/
def Tab (n d : Nat) (rows : List (List Nat)) : Prop := ∀ r ∈ rows, r.length = d ∧ r.Nodup ∧ ∀ x ∈ r, x < n
theorem srt_eq {a b : List Nat} (h : a.Perm b) : srt a = srt b := srt_of ((srt_perm a).trans h) (srt_le a)
theorem srt_self {a : List Nat} (h : Asc a) : srt a = a := (srt_of (List.Perm.refl a) (h.imp fun z => Nat.le_of_lt z)).symm
theorem perm_of_srt {a b : List Nat} (h : srt a = srt b) : a.Perm b := (srt_perm a).symm.trans (h ▸ srt_perm b)
theorem edgE_mem {n d s : Nat} {rows : List (List Nat)} (G : Tab n d rows) (hs : s < d) : ∀ e ∈ rows.map (edgE s), e ∈ allE n s := fun e he => by
  obtain ⟨r, hr, rfl⟩ := List.mem_map.mp he
  obtain ⟨h1, h2, h3⟩ := G r hr
  have pm := srt_perm (r.take s)
  have hlt : s < r.length := by omega
  have hx : r.getD s 0 = r[s] := by
    rw [List.getD_eq_getElem?_getD, List.getElem?_eq_getElem hlt]
    rfl
  have nd : (r.take s).Nodup := h2.sublist (List.take_sublist _ _)
  refine allE_mem ?_ ?_ (srt_asc nd) fun y hy => ?_
  · rw [hx]
    exact h3 _ (List.getElem_mem _)
  · rw [pm.length_eq, List.length_take]
    omega
  · have hy2 := pm.mem_iff.mp hy
    refine ⟨h3 y (List.mem_of_mem_take hy2), fun e => ?_⟩
    obtain ⟨i, hi⟩ := List.getElem?_of_mem hy2
    rw [List.getElem?_take] at hi
    split at hi
    · rename_i hlt2
      have h4 : r[s]? = some y := by
        rw [List.getElem?_eq_getElem hlt, e, hx]
      have := (List.getElem?_inj (show i < r.length by omega) h2).mp (hi.trans h4.symm)
      omega
    · cases hi
theorem allE_nodup (n s : Nat) : (allE n s).Nodup := by
  unfold allE
  have key : ∀ l : List Nat, l.Nodup → (l.flatMap fun x => (combs (without n x) s).map fun c => (c, x)).Nodup := by
    intro l
    induction l with
    | nil => intro _; exact List.nodup_nil
    | cons x l ih =>
      intro h
      obtain ⟨h1, h2⟩ := List.nodup_cons.mp h
      rw [List.flatMap_cons]
      refine List.nodup_append.mpr ⟨List.Pairwise.map _ (fun a b hab z => hab (congrArg Prod.fst z)) (combsNodup _ _ (asc_nodup (without_asc n x))), ih h2, fun a ha b hb e => ?_⟩
      obtain ⟨c, _, rfl⟩ := List.mem_map.mp ha
      obtain ⟨y, hy, hb⟩ := List.mem_flatMap.mp hb
      obtain ⟨c', _, rfl⟩ := List.mem_map.mp hb
      have : x = y := congrArg Prod.snd e
      exact h1 (this ▸ hy)
  exact key _ List.nodup_range
theorem sum_one' {α : Type} [DecidableEq α] {c : α} : ∀ {cs : List α}, cs.Nodup → c ∈ cs → (cs.map fun d => if c = d then 1 else 0).sum = 1
  | [], _, h => absurd h List.not_mem_nil
  | d :: cs, hn, h => by
    obtain ⟨h1, h2⟩ := List.nodup_cons.mp hn
    rw [List.map_cons, List.sum_cons]
    by_cases e : c = d
    · subst e
      have z : ∀ (l : List α), c ∉ l → (l.map fun d => if c = d then 1 else 0).sum = 0 := by
        intro l
        induction l with
        | nil => intro _; rfl
        | cons a l ih =>
          intro hh
          rw [List.map_cons, List.sum_cons, if_neg (fun z : c = a => hh (by rw [z]; exact List.mem_cons_self)), ih fun z => hh (List.mem_cons_of_mem _ z)]
      rw [if_pos rfl, z cs h1]
    · rw [if_neg e, sum_one' h2 ((List.mem_cons.mp h).resolve_left e)]
theorem sum_add' {α : Type} (f g : α → Nat) : ∀ l : List α, (l.map fun x => f x + g x).sum = (l.map f).sum + (l.map g).sum
  | [] => rfl
  | a :: l => by
    rw [List.map_cons, List.sum_cons, List.map_cons, List.sum_cons, List.map_cons, List.sum_cons, sum_add' f g l]
    omega
theorem sum_zero' {α : Type} {f : α → Nat} : ∀ {l : List α}, (∀ a ∈ l, f a = 0) → (l.map f).sum = 0
  | [], _ => rfl
  | a :: l, h => by rw [List.map_cons, List.sum_cons, h a List.mem_cons_self, sum_zero' fun b hb => h b (List.mem_cons_of_mem _ hb)]
theorem sum_congr' {α : Type} {f g : α → Nat} {l : List α} (h : ∀ a ∈ l, f a = g a) : (l.map f).sum = (l.map g).sum := by rw [List.map_congr_left h]
theorem sum_cE {cs : List (List Nat × Nat)} (hn : cs.Nodup) : ∀ {ks : List (List Nat × Nat)}, (∀ k ∈ ks, k ∈ cs) → (cs.map fun c => cE ks c).sum = ks.length
  | [], _ => sum_zero' fun _ _ => rfl
  | k :: ks, h => by
    have e : (fun c => cE (k :: ks) c) = fun c => cE ks c + if k = c then 1 else 0 := by
      funext c
      unfold cE
      rw [List.countP_cons]
      congr 1
      by_cases z : k = c
      · rw [if_pos z, if_pos (decide_eq_true z)]
      · rw [if_neg z, if_neg (fun y => z (of_decide_eq_true y))]
    rw [e, sum_add', sum_cE hn fun x hx => h x (List.mem_cons_of_mem _ hx), sum_one' hn (h k List.mem_cons_self)]
    rfl
theorem all_tight {α : Type} {f : α → Nat} {w : Nat} : ∀ {l : List α}, (∀ a ∈ l, w ≤ f a) → (l.map f).sum = l.length * w → ∀ a ∈ l, f a = w
  | [], _, _, a, ha => absurd ha List.not_mem_nil
  | b :: l, h1, h2, a, ha => by
    have hb := h1 b List.mem_cons_self
    have ge : ∀ l : List α, (∀ a ∈ l, w ≤ f a) → l.length * w ≤ (l.map f).sum := by
      intro l
      induction l with
      | nil => intro _; simp
      | cons c l ih =>
        intro h
        rw [List.map_cons, List.sum_cons, List.length_cons, Nat.succ_mul]
        have := ih fun x hx => h x (List.mem_cons_of_mem _ hx)
        have := h c List.mem_cons_self
        omega
    have hl := ge l fun x hx => h1 x (List.mem_cons_of_mem _ hx)
    rw [List.map_cons, List.sum_cons, List.length_cons, Nat.succ_mul] at h2
    rcases List.mem_cons.mp ha with rfl | ha
    · omega
    · exact all_tight (fun x hx => h1 x (List.mem_cons_of_mem _ hx)) (by omega) a ha
/-- the level's number is what it must be -/
theorem Lev.eq {n d s w : Nat} {rows : List (List Nat)} (G : Tab n d rows) (hs : s < d) (h : Lev n s w rows) : n * C (n - 1) s * w = rows.length := by
  have h1 := sum_cE (allE_nodup n s) (edgE_mem G hs)
  rw [List.length_map, sum_congr' (g := fun _ => w) fun e he => h e he] at h1
  rw [← h1, ← allE_len, List.map_const', List.sum_replicate_nat]
/-! the standard tables -/
theorem path_edge {n c d k s : Nat} (hs : s < d) : edgE s (path n d c k).1 = (srt (path n s c k).1, (folL n c (List.range' 0 s) (List.range' 0 n) k).getD ((path n s c k).2 / wd n c s) 0) := by
  unfold edgE path
  have h1 : d = s + (d - s) := by omega
  have e1 := fol_take n c k s (d - s)
  have e2 := fol_take n c k (s + 1) (d - (s + 1))
  rw [← h1] at e1
  rw [show s + 1 + (d - (s + 1)) = d by omega, range'_end, fol_snoc] at e2
  rw [e1]
  congr 1
  have l := fol_len n c (List.range' 0 s) (List.range' 0 n) k
  rw [List.length_range'] at l
  have e3 : (fol n c (List.range' 0 d) (List.range' 0 n) k).1[s]? = some ((folL n c (List.range' 0 s) (List.range' 0 n) k).getD ((fol n c (List.range' 0 s) (List.range' 0 n) k).2 / wd n c s) 0) := by
    have e4 : ((fol n c (List.range' 0 d) (List.range' 0 n) k).1.take (s + 1))[s]? = (fol n c (List.range' 0 d) (List.range' 0 n) k).1[s]? := by
      rw [List.getElem?_take, if_pos (by omega)]
    rw [← e4, e2]
    show (_ ++ [_])[s]? = _
    rw [List.getElem?_append_right (by omega), l, Nat.sub_self]
    rfl
  rw [List.getD_eq_getElem?_getD, e3]
  rfl
theorem std_lev {n d c : Nat} (st : Std n d c) {s : Nat} (hs : s < d) : Lev n s (wd n c s) ((List.range c).map fun k => (path n d c k).1) := by
  have dv := st.dvd s hs
  have w0 := wd_pos dv st.c0
  have dn := st.dn
  have G : Tab n d ((List.range c).map fun k => (path n d c k).1) := fun r hr => by
    obtain ⟨k, hk, rfl⟩ := List.mem_map.mp hr
    exact ⟨path_len n d c k, path_nodup st (List.mem_range.mp hk), path_lt st (List.mem_range.mp hk)⟩
  refine all_tight (f := fun e => cE (((List.range c).map fun k => (path n d c k).1).map (edgE s)) e) (fun e he => ?_) ?_
  · -- at least so many
    obtain ⟨x, hx, he⟩ := List.mem_flatMap.mp he
    obtain ⟨S, hS, rfl⟩ := List.mem_map.mp he
    obtain ⟨g1, g2⟩ := combs_good _ _ _ hS
    have ascS : Asc S := (without_asc n x).sublist g2
    have memS : ∀ y ∈ S, y < n ∧ y ≠ x := fun y hy => by
      have := List.mem_filter.mp (g2.subset hy)
      exact ⟨List.mem_range.mp this.1, by simpa using this.2⟩
    have hxn := List.mem_range.mp hx
    -- the servers outside
    have hL0 : Compl n S ((List.range' 0 n).filter fun y => !decide (y ∈ S)) := ⟨ascS, (asc_range' n 0).filter _, fun y hy => (memS y hy).1, fun y => by
      rw [List.mem_filter, mem_range0]
      simp⟩
    have hxL : x ∈ (List.range' 0 n).filter fun y => !decide (y ∈ S) := (hL0.mem x).mpr ⟨hxn, fun z => (memS x z).2 rfl⟩
    obtain ⟨i, hi⟩ := List.getElem?_of_mem hxL
    have lenL : ((List.range' 0 n).filter fun y => !decide (y ∈ S)).length = n - s := by
      have p : (S ++ (List.range' 0 n).filter fun y => !decide (y ∈ S)).Perm (List.range' 0 n) := by
        refine (List.perm_ext_iff_of_nodup ?_ (asc_nodup (asc_range' n 0))).mpr fun y => ?_
        · refine List.nodup_append.mpr ⟨asc_nodup ascS, (asc_nodup (asc_range' n 0)).filter _, fun a ha b hb e => ?_⟩
          subst e
          exact ((hL0.mem a).mp hb).2 ha
        · rw [List.mem_append, hL0.mem, mem_range0]
          constructor
          · rintro (h | h)
            · exact (memS y h).1
            · exact h.1
          · intro h
            by_cases c : y ∈ S
            · exact .inl c
            · exact .inr ⟨h, c⟩
      have := p.length_eq
      rw [List.length_append, List.length_range', g1] at this
      omega
    have hi2 : i < n - s := by
      rw [← lenL]
      exact (List.getElem?_eq_some_iff.mp hi).1
    have wo : c / C n s = wd n c s * (n - s) := by
      have e := wd_out dv (show s < n by omega)
      have p := C_pos n s (by omega)
      conv => lhs; rw [← e]
      exact Nat.mul_div_cancel _ p
    rw [List.map_map, cE_map, List.countP_eq_length_filter]
    have hd : ∀ k, k < s → n * C (n - 1) k ∣ c := fun k hk => st.dvd k (by omega)
    have hpl : ∀ r, r < wd n c s → Place n c s S (wd n c s * i + r) := fun r hr => ⟨ascS, fun y hy => (memS y hy).1, g1, by
      rw [wo]
      have : wd n c s * (i + 1) ≤ wd n c s * (n - s) := Nat.mul_le_mul_left _ (by omega)
      rw [Nat.mul_add, Nat.mul_one] at this
      omega⟩
    have hlen : ((List.range (wd n c s)).map fun r => (fol n c (List.range' 0 s).reverse S (wd n c s * i + r)).2).length = wd n c s := by
      rw [List.length_map, List.length_range]
    rw [← hlen]
    refine subG_len ?_ fun k hk => ?_
    · rw [List.nodup_iff_pairwise_ne]
      refine List.pairwise_map.mpr ?_
      refine List.Pairwise.imp_of_mem (R := fun a b => a ≠ b) (fun {a b} ha hb hab e => hab ?_) (List.nodup_iff_pairwise_ne.mp List.nodup_range)
      have h1 := (back_fwd st.c0 s S _ (by omega) hd (hpl a (List.mem_range.mp ha))).2.2.1
      have h2 := (back_fwd st.c0 s S _ (by omega) hd (hpl b (List.mem_range.mp hb))).2.2.1
      rw [e] at h1
      rw [h1] at h2
      omega
    · obtain ⟨r, hr, rfl⟩ := List.mem_map.mp hk
      have hr2 := List.mem_range.mp hr
      obtain ⟨b1, b2, b3, b4⟩ := back_fwd st.c0 s S _ (by omega) hd (hpl r hr2)
      refine List.mem_filter.mpr ⟨List.mem_range.mpr b1, decide_eq_true ?_⟩
      show edgE s (path n d c _).1 = _
      rw [path_edge hs]
      unfold path
      rw [b3]
      have ed : (wd n c s * i + r) / wd n c s = i := by
        rw [Nat.mul_add_div w0, Nat.div_eq_of_lt hr2, Nat.add_zero]
      rw [ed, ← b4.free, List.getD_eq_getElem?_getD, hi]
      congr 1
      exact (srt_eq b2).trans (srt_self ascS)
  · rw [sum_cE (allE_nodup n s) (edgE_mem G hs), List.length_map, List.length_map, List.length_range, allE_len, Nat.mul_comm]
    exact (wd_eq dv).symm
end Ef
namespace Ef
/-! ### equal levels share the lists evenly among the live servers -/
def lvL (L r : List Nat) : List Nat := r.filter fun x => decide (x ∈ L)
def ddL (L r : List Nat) : List Nat := r.filter fun x => !decide (x ∈ L)
theorem lvL_app (L a b : List Nat) : lvL L (a ++ b) = lvL L a ++ lvL L b := List.filter_append ..
theorem lvL_perm {L a b : List Nat} (h : a.Perm b) : (lvL L a).Perm (lvL L b) := h.filter _
theorem ddL_perm {L a b : List Nat} (h : a.Perm b) : (ddL L a).Perm (ddL L b) := h.filter _
theorem lv_dd (L : List Nat) : ∀ r : List Nat, (lvL L r ++ ddL L r).Perm r
  | [] => List.Perm.refl _
  | x :: r => by
    unfold lvL ddL
    by_cases c : x ∈ L
    · rw [List.filter_cons_of_pos (by simpa using c), List.filter_cons_of_neg (by simpa using c)]
      exact (lv_dd L r).cons x
    · rw [List.filter_cons_of_neg (by simpa using c), List.filter_cons_of_pos (by simpa using c)]
      exact List.perm_middle.trans ((lv_dd L r).cons x)
/-- where the live server with this number stands -/
theorem at_live (L : List Nat) : ∀ (r : List Nat) (q : Nat), q + 1 ≤ (lvL L r).length → ∃ s x, r[s]? = some x ∧ x ∈ L ∧ (lvL L (r.take s)).length = q ∧ (lvL L r).take (q + 1) = lvL L (r.take s) ++ [x]
  | [], q, h => by
    have : (lvL L []).length = 0 := rfl
    omega
  | y :: r, q, h => by
    by_cases c : y ∈ L
    · have e : lvL L (y :: r) = y :: lvL L r := List.filter_cons_of_pos (by simpa using c)
      cases q with
      | zero =>
        refine ⟨0, y, rfl, c, rfl, ?_⟩
        rw [e]
        rfl
      | succ q =>
        rw [e, List.length_cons] at h
        obtain ⟨s, x, h1, h2, h3, h4⟩ := at_live L r q (by omega)
        have e2 : lvL L (y :: r.take s) = y :: lvL L (r.take s) := List.filter_cons_of_pos (by simpa using c)
        refine ⟨s + 1, x, h1, h2, ?_, ?_⟩
        · rw [List.take_succ_cons, e2, List.length_cons, h3]
        · rw [List.take_succ_cons, e2, e, List.take_succ_cons, h4]
          rfl
    · have e : lvL L (y :: r) = lvL L r := List.filter_cons_of_neg (by simpa using c)
      rw [e] at h
      obtain ⟨s, x, h1, h2, h3, h4⟩ := at_live L r q h
      have e2 : lvL L (y :: r.take s) = lvL L (r.take s) := List.filter_cons_of_neg (by simpa using c)
      refine ⟨s + 1, x, h1, h2, ?_, ?_⟩
      · rw [List.take_succ_cons, e2, h3]
      · rw [List.take_succ_cons, e2, e, h4]
theorem take_one {r : List Nat} {s x : Nat} (h : r[s]? = some x) : r.take (s + 1) = r.take s ++ [x] := by
  rw [List.take_add_one, h]
  rfl
theorem live_uniq {L r : List Nat} {q s s' x x' : Nat} (h1 : r[s]? = some x) (h2 : x ∈ L) (h3 : (lvL L (r.take s)).length = q) (k1 : r[s']? = some x') (k2 : x' ∈ L) (k3 : (lvL L (r.take s')).length = q) : s = s' := by
  have key : ∀ {a b y : Nat}, r[a]? = some y → y ∈ L → (lvL L (r.take a)).length = q → (lvL L (r.take b)).length = q → ¬ a < b := by
    intro a b y g1 g2 g3 g4 hlt
    have e : r.take b = r.take (a + 1) ++ (r.take b).drop (a + 1) := by
      have := List.take_append_drop (a + 1) (r.take b)
      rw [List.take_take, Nat.min_eq_left (by omega)] at this
      exact this.symm
    rw [e, take_one g1, lvL_app, lvL_app, List.length_append, List.length_append] at g4
    have : (lvL L [y]).length = 1 := by
      unfold lvL
      rw [List.filter_cons_of_pos (by simpa using g2)]
      rfl
    omega
  have a := key h1 h2 h3 k3
  have b := key k1 k2 k3 h3
  omega
/-- all sublists -/
def subsA : List Nat → List (List Nat)
  | [] => [[]]
  | x :: r => (subsA r).map (x :: ·) ++ subsA r
theorem subsA_mem : ∀ {l c : List Nat}, c.Sublist l → c ∈ subsA l
  | [], c, h => by
    rw [List.sublist_nil.mp h]
    exact List.mem_singleton.mpr rfl
  | x :: r, c, h => by
    cases h with
    | cons _ h => exact List.mem_append_right _ (subsA_mem h)
    | cons_cons _ h => exact List.mem_append_left _ (List.mem_map.mpr ⟨_, subsA_mem h, rfl⟩)
theorem subsA_good : ∀ {l c : List Nat}, c ∈ subsA l → c.Sublist l
  | [], c, h => by
    rw [List.mem_singleton.mp h]
    exact List.Sublist.refl _
  | x :: r, c, h => by
    rcases List.mem_append.mp h with h | h
    · obtain ⟨d, hd, rfl⟩ := List.mem_map.mp h
      exact (subsA_good hd).cons_cons x
    · exact (subsA_good h).cons x
theorem subsA_nodup : ∀ {l : List Nat}, l.Nodup → (subsA l).Nodup
  | [], _ => List.nodup_cons.mpr ⟨List.not_mem_nil, List.nodup_nil⟩
  | x :: r, h => by
    obtain ⟨h1, h2⟩ := List.nodup_cons.mp h
    refine List.nodup_append.mpr ⟨List.Pairwise.map _ (fun a b hab z => hab (List.cons.inj z).2) (subsA_nodup h2), subsA_nodup h2, fun a ha b hb e => ?_⟩
    obtain ⟨c, _, rfl⟩ := List.mem_map.mp ha
    have := subsA_good hb
    rw [← e] at this
    exact h1 (this.subset List.mem_cons_self)
/-- a row and a pair: the row begins with T but x, and D, and goes on to x -/
def mtB (T : List Nat) (q : Nat) (p : List Nat × Nat) (r : List Nat) : Bool := decide (edgE (q + p.1.length) r = (srt (T.erase p.2 ++ p.1), p.2))
theorem lv_all {L a : List Nat} (h : ∀ x ∈ a, x ∈ L) : lvL L a = a := List.filter_eq_self.mpr fun x hx => by simpa using h x hx
theorem lv_none {L a : List Nat} (h : ∀ x ∈ a, x ∉ L) : lvL L a = [] := List.filter_eq_nil_iff.mpr fun x hx => by simpa using h x hx
theorem dd_all {L a : List Nat} (h : ∀ x ∈ a, x ∉ L) : ddL L a = a := List.filter_eq_self.mpr fun x hx => by simpa using h x hx
theorem dd_none {L a : List Nat} (h : ∀ x ∈ a, x ∈ L) : ddL L a = [] := List.filter_eq_nil_iff.mpr fun x hx => by simpa using h x hx
theorem ddL_app (L a b : List Nat) : ddL L (a ++ b) = ddL L a ++ ddL L b := List.filter_append ..
theorem mt_iff {L T D r : List Nat} {q x : Nat} (hT : Asc T) (hTl : T.length = q + 1) (hTL : ∀ y ∈ T, y ∈ L) (hx : x ∈ T) (hD : Asc D) (hDL : ∀ y ∈ D, y ∉ L) (hs : q + D.length < r.length) :
    mtB T q (D, x) r = true ↔ ∃ s, r[s]? = some x ∧ (lvL L (r.take s)).length = q ∧ srt (lvL L (r.take s) ++ [x]) = T ∧ srt (ddL L (r.take s)) = D := by
  have te : (T.erase x).Perm (T.erase x) := List.Perm.refl _
  have tp : (T.erase x ++ [x]).Perm T := (List.perm_append_singleton x _).trans (List.perm_cons_erase hx).symm
  have tl : (T.erase x).length = q := by
    rw [List.length_erase_of_mem hx]
    omega
  have eL : ∀ y ∈ T.erase x, y ∈ L := fun y hy => hTL y (List.mem_of_mem_erase hy)
  unfold mtB
  rw [decide_eq_true_iff]
  constructor
  · intro h
    have h1 : srt (r.take (q + D.length)) = srt (T.erase x ++ D) := congrArg Prod.fst h
    have h2 : r.getD (q + D.length) 0 = x := congrArg Prod.snd h
    have pm := perm_of_srt h1
    have hxs : r[q + D.length]? = some x := by
      rw [List.getD_eq_getElem?_getD, List.getElem?_eq_getElem hs] at h2
      rw [List.getElem?_eq_getElem hs]
      exact congrArg some h2
    have pl : (lvL L (r.take (q + D.length))).Perm (T.erase x) := by
      have := lvL_perm (L := L) pm
      rw [lvL_app, lv_all eL, lv_none hDL, List.append_nil] at this
      exact this
    have pd : (ddL L (r.take (q + D.length))).Perm D := by
      have := ddL_perm (L := L) pm
      rw [ddL_app, dd_none eL, dd_all hDL, List.nil_append] at this
      exact this
    exact ⟨q + D.length, hxs, by rw [pl.length_eq, tl], (srt_eq ((pl.append_right [x]).trans tp)).trans (srt_self hT), (srt_eq pd).trans (srt_self hD)⟩
  · rintro ⟨s, h1, h2, h3, h4⟩
    have hsl : s < r.length := (List.getElem?_eq_some_iff.mp h1).1
    have pl : (lvL L (r.take s)).Perm (T.erase x) := by
      have p1 : (lvL L (r.take s) ++ [x]).Perm T := (srt_perm _).symm.trans (h3 ▸ List.Perm.refl _)
      have p2 := p1.trans tp.symm
      exact (List.perm_append_right_iff _).mp p2
    have pd : (ddL L (r.take s)).Perm D := (srt_perm _).symm.trans (h4 ▸ List.Perm.refl _)
    have pr : (r.take s).Perm (T.erase x ++ D) := (lv_dd L _).symm.trans (pl.append pd)
    have es : s = q + D.length := by
      have := pr.length_eq
      rw [List.length_take, List.length_append, tl] at this
      omega
    subst es
    unfold edgE
    show (srt (r.take (q + D.length)), r.getD (q + D.length) 0) = _
    rw [srt_eq pr, List.getD_eq_getElem?_getD, h1]
    rfl
/-- the pairs of T -/
def prL (dead T : List Nat) : List (List Nat × Nat) := (subsA dead).flatMap fun D => T.map fun x => (D, x)
theorem prL_nodup {dead T : List Nat} (hd : dead.Nodup) (hT : T.Nodup) : (prL dead T).Nodup := by
  unfold prL
  have key : ∀ l : List (List Nat), l.Nodup → (l.flatMap fun D => T.map fun x => (D, x)).Nodup := by
    intro l
    induction l with
    | nil => intro _; exact List.nodup_nil
    | cons D l ih =>
      intro h
      obtain ⟨h1, h2⟩ := List.nodup_cons.mp h
      rw [List.flatMap_cons]
      refine List.nodup_append.mpr ⟨List.Pairwise.map _ (fun a b hab z => hab (congrArg Prod.snd z)) hT, ih h2, fun a ha b hb e => ?_⟩
      obtain ⟨c, _, rfl⟩ := List.mem_map.mp ha
      obtain ⟨D', hD', hb⟩ := List.mem_flatMap.mp hb
      obtain ⟨c', _, rfl⟩ := List.mem_map.mp hb
      have ed : D = D' := congrArg Prod.fst e
      exact h1 (by rw [ed]; exact hD')
  exact key _ (subsA_nodup hd)
theorem countP_one {α : Type} {p : α → Bool} {a : α} : ∀ {l : List α}, l.Nodup → a ∈ l → (∀ b ∈ l, (p b = true ↔ b = a)) → l.countP p = 1
  | [], _, h, _ => absurd h List.not_mem_nil
  | b :: l, hn, h, hp => by
    obtain ⟨h1, h2⟩ := List.nodup_cons.mp hn
    rw [List.countP_cons]
    by_cases e : b = a
    · subst e
      have z : l.countP p = 0 := List.countP_eq_zero.mpr fun c hc hpc => h1 (((hp c (List.mem_cons_of_mem _ hc)).mp hpc) ▸ hc)
      rw [z, if_pos ((hp b List.mem_cons_self).mpr rfl)]
    · rw [if_neg (fun z => e ((hp b List.mem_cons_self).mp z)), countP_one h2 ((List.mem_cons.mp h).resolve_left fun z => e z.symm) fun c hc => hp c (List.mem_cons_of_mem _ hc)]
theorem swap_sum {α β : Type} (m : α → β → Bool) (rows : List β) : ∀ l : List α, (l.map fun a => rows.countP (m a)).sum = (rows.map fun r => l.countP fun a => m a r).sum
  | [] => (sum_zero' fun _ _ => rfl).symm
  | a :: l => by
    rw [List.map_cons, List.sum_cons, swap_sum m rows l]
    have e : (rows.map fun r => (a :: l).countP fun a => m a r) = rows.map fun r => (l.countP fun a => m a r) + if m a r = true then 1 else 0 := List.map_congr_left fun r _ => List.countP_cons ..
    rw [e, sum_add', Nat.add_comm]
    congr 1
    induction rows with
    | nil => rfl
    | cons r rows ih =>
      rw [List.countP_cons, List.map_cons, List.sum_cons, ih (List.map_congr_left fun r _ => List.countP_cons ..)]
      omega
theorem sum_ind {β : Type} (p : β → Bool) : ∀ rows : List β, (rows.map fun r => if p r = true then 1 else 0).sum = rows.countP p
  | [] => rfl
  | r :: rows => by
    rw [List.map_cons, List.sum_cons, sum_ind p rows, List.countP_cons, Nat.add_comm]
/-- how many rows have this set of first live servers -/
def heldN (L : List Nat) (q : Nat) (rows : List (List Nat)) (T : List Nat) : Nat := rows.countP fun r => decide (srt ((lvL L r).take q) = T)
theorem held_pairs {n d q : Nat} {L dead T : List Nat} {rows : List (List Nat)} (G : Tab n d rows) (hT : Asc T) (hTl : T.length = q + 1) (hTL : ∀ y ∈ T, y ∈ L) (hdead : Asc dead) (hmem : ∀ y, y ∈ dead ↔ y < n ∧ y ∉ L)
    (hd : q + dead.length < d) (hlive : ∀ r ∈ rows, q + 1 ≤ (lvL L r).length) :
    heldN L (q + 1) rows T = ((prL dead T).map fun p => cE (rows.map (edgE (q + p.1.length))) (srt (T.erase p.2 ++ p.1), p.2)).sum := by
  have e1 : ((prL dead T).map fun p => cE (rows.map (edgE (q + p.1.length))) (srt (T.erase p.2 ++ p.1), p.2)) = (prL dead T).map fun p => rows.countP (mtB T q p) := List.map_congr_left fun p _ => cE_map _ _ _
  rw [e1, swap_sum]
  unfold heldN
  rw [← sum_ind]
  refine sum_congr' fun r hr => ?_
  obtain ⟨g1, g2, g3⟩ := G r hr
  obtain ⟨s, x, a1, a2, a3, a4⟩ := at_live L r q (hlive r hr)
  have ndT : T.Nodup := asc_nodup hT
  -- what a pair that fits is
  have fit : ∀ p ∈ prL dead T, (mtB T q p r = true ↔ srt ((lvL L r).take (q + 1)) = T ∧ p = (srt (ddL L (r.take s)), x)) := fun p hp => by
    obtain ⟨D, hD, hp⟩ := List.mem_flatMap.mp hp
    obtain ⟨y, hy, rfl⟩ := List.mem_map.mp hp
    have sD := subsA_good hD
    have ascD : Asc D := hdead.sublist sD
    have hDL : ∀ z ∈ D, z ∉ L := fun z hz => ((hmem z).mp (sD.subset hz)).2
    have hDl := sD.length_le
    rw [mt_iff hT hTl hTL hy ascD hDL (by omega), a4]
    constructor
    · rintro ⟨s', b1, b2, b3, b4⟩
      obtain rfl := live_uniq a1 a2 a3 b1 (hTL y hy) b2
      rw [a1] at b1
      obtain rfl := Option.some.inj b1
      exact ⟨b3, by rw [b4]⟩
    · rintro ⟨b1, b2⟩
      have c1 : D = srt (ddL L (r.take s)) := congrArg Prod.fst b2
      have c2 : y = x := congrArg Prod.snd b2
      subst c2
      exact ⟨s, a1, a3, b1, c1.symm⟩
  by_cases c : srt ((lvL L r).take (q + 1)) = T
  · rw [if_pos (decide_eq_true c)]
    refine (countP_one (prL_nodup (asc_nodup hdead) ndT) (a := (srt (ddL L (r.take s)), x)) ?_ fun p hp => ?_).symm
    · have hxT : x ∈ T := by
        rw [← c, a4]
        exact (srt_perm _).mem_iff.mpr (List.mem_append_right _ (List.mem_singleton.mpr rfl))
      have nd : (ddL L (r.take s)).Nodup := (g2.sublist (List.take_sublist _ _)).filter _
      have sub : (srt (ddL L (r.take s))).Sublist dead := ascSub (srt_asc nd) hdead fun y hy => by
        have h1 := List.mem_filter.mp ((srt_perm _).mem_iff.mp hy)
        exact (hmem y).mpr ⟨g3 y (List.mem_of_mem_take h1.1), by simpa using h1.2⟩
      exact List.mem_flatMap.mpr ⟨_, subsA_mem sub, List.mem_map.mpr ⟨x, hxT, rfl⟩⟩
    · rw [fit p hp]
      exact ⟨fun h => h.2, fun h => ⟨c, h⟩⟩
  · rw [if_neg (fun z => c (of_decide_eq_true z))]
    exact (List.countP_eq_zero.mpr fun p hp h => c ((fit p hp).mp h).1).symm
theorem sum_const {α : Type} (k : Nat) : ∀ l : List α, (l.map fun _ => k).sum = l.length * k
  | [] => by simp
  | a :: l => by rw [List.map_cons, List.sum_cons, sum_const k l, List.length_cons, Nat.succ_mul, Nat.add_comm]
/-- by equal levels every set of live servers holds as many lists -/
theorem held_even {n d q : Nat} {L dead T : List Nat} {rows : List (List Nat)} {w : Nat → Nat} (G : Tab n d rows) (hT : Asc T) (hTl : T.length = q + 1) (hTL : ∀ y ∈ T, y ∈ L) (hLn : ∀ y ∈ L, y < n) (hdead : Asc dead) (hmem : ∀ y, y ∈ dead ↔ y < n ∧ y ∉ L)
    (hd : q + dead.length < d) (hlive : ∀ r ∈ rows, q + 1 ≤ (lvL L r).length) (lev : ∀ s, s ≤ q + dead.length → Lev n s (w s) rows) :
    heldN L (q + 1) rows T = ((subsA dead).map fun D => (q + 1) * w (q + D.length)).sum := by
  rw [held_pairs G hT hTl hTL hdead hmem hd hlive]
  have e1 : ((prL dead T).map fun p => cE (rows.map (edgE (q + p.1.length))) (srt (T.erase p.2 ++ p.1), p.2)) = (prL dead T).map fun p => w (q + p.1.length) := List.map_congr_left fun p hp => by
    obtain ⟨D, hD, hp⟩ := List.mem_flatMap.mp hp
    obtain ⟨y, hy, rfl⟩ := List.mem_map.mp hp
    have sD := subsA_good hD
    have hDl := sD.length_le
    have pm := srt_perm (T.erase y ++ D)
    have ndT := asc_nodup hT
    have hyE : y ∉ T.erase y := fun z => (List.Nodup.mem_erase_iff ndT).mp z |>.1 rfl
    have nd : (T.erase y ++ D).Nodup := List.nodup_append.mpr ⟨ndT.sublist (List.erase_sublist), asc_nodup (hdead.sublist sD), fun a ha b hb e => by
      subst e
      exact ((hmem a).mp (sD.subset hb)).2 (hTL a (List.mem_of_mem_erase ha))⟩
    refine lev (q + D.length) (by omega) _ (allE_mem (hLn y (hTL y hy)) ?_ (srt_asc nd) fun z hz => ?_)
    · rw [pm.length_eq, List.length_append, List.length_erase_of_mem hy]
      omega
    · rcases List.mem_append.mp (pm.mem_iff.mp hz) with hz | hz
      · exact ⟨hLn z (hTL z (List.mem_of_mem_erase hz)), fun e => hyE (by rw [show y = z from e.symm]; rw [show y = z from e.symm] at hz; exact hz)⟩
      · have := (hmem z).mp (sD.subset hz)
        exact ⟨this.1, fun e => this.2 (by rw [show z = y from e]; exact hTL y hy)⟩
  rw [e1]
  unfold prL
  have key : ∀ l : List (List Nat), ((l.flatMap fun D => T.map fun x => (D, x)).map fun p => w (q + p.1.length)).sum = (l.map fun D => (q + 1) * w (q + D.length)).sum := by
    intro l
    induction l with
    | nil => rfl
    | cons D l ih =>
      rw [List.flatMap_cons, List.map_append, List.sum_append, List.map_cons, List.sum_cons, ih, List.map_map]
      congr 1
      show (T.map fun _ => w (q + D.length)).sum = _
      rw [sum_const, hTl]
  exact key _
end Ef
namespace Ef
/-! ### the shares of sets and of servers -/
theorem combs_one {cs : List (List Nat)} {k : List Nat} (hn : cs.Nodup) (h : k ∈ cs) : cs.countP (fun T => decide (k = T)) = 1 :=
  countP_one hn h fun b _ => by
    rw [decide_eq_true_iff]
    exact ⟨fun e => e.symm, fun e => e.symm⟩
/-- the set of the first live servers is one of the sets -/
theorem first_mem {n d q : Nat} {L : List Nat} {rows : List (List Nat)} (G : Tab n d rows) (aL : Asc L) (hlive : ∀ r ∈ rows, q ≤ (lvL L r).length) : ∀ r ∈ rows, srt ((lvL L r).take q) ∈ combs L q := fun r hr => by
  obtain ⟨_, g2, _⟩ := G r hr
  have nd : ((lvL L r).take q).Nodup := (g2.filter _).sublist (List.take_sublist _ _)
  have pm := srt_perm ((lvL L r).take q)
  have hl : (srt ((lvL L r).take q)).length = q := by
    rw [pm.length_eq, List.length_take]
    have := hlive r hr
    omega
  have := combs_mem L _ (ascSub (srt_asc nd) aL fun y hy => by
    have h1 := List.mem_filter.mp (List.mem_of_mem_take (pm.mem_iff.mp hy))
    exact of_decide_eq_true h1.2)
  rw [hl] at this
  exact this
theorem held_total {n d q : Nat} {L : List Nat} {rows : List (List Nat)} (G : Tab n d rows) (aL : Asc L) (hlive : ∀ r ∈ rows, q ≤ (lvL L r).length) : ((combs L q).map fun T => heldN L q rows T).sum = rows.length := by
  have e : ((combs L q).map fun T => heldN L q rows T) = (combs L q).map fun T => rows.countP ((fun T r => decide (srt ((lvL L r).take q) = T)) T) := rfl
  rw [e, swap_sum, sum_congr' (g := fun _ => 1) fun r hr => combs_one (combsNodup L q (asc_nodup aL)) (first_mem G aL hlive r hr), sum_const, Nat.mul_one]
/-- what there is to know of a live set and a factor -/
structure Live (n d q : Nat) (L : List Nat) (rows : List (List Nat)) : Prop where
  tab : Tab n d rows
  asc : Asc L
  lt : ∀ y ∈ L, y < n
  q1 : 1 ≤ q
  qL : q ≤ L.length
  fit : q + (n - L.length) ≤ d
  lev : ∀ s, s < q + (n - L.length) → ∃ w, Lev n s w rows
def deadL (n : Nat) (L : List Nat) : List Nat := (List.range' 0 n).filter fun y => !decide (y ∈ L)
theorem dead_mem {n : Nat} {L : List Nat} (y : Nat) : y ∈ deadL n L ↔ y < n ∧ y ∉ L := by
  unfold deadL
  rw [List.mem_filter, mem_range0]
  simp
theorem dead_asc (n : Nat) (L : List Nat) : Asc (deadL n L) := (asc_range' n 0).filter _
theorem live_dead {n : Nat} {L : List Nat} (aL : Asc L) (hL : ∀ y ∈ L, y < n) : L.length + (deadL n L).length = n := by
  have p : (L ++ deadL n L).Perm (List.range' 0 n) := by
    refine (List.perm_ext_iff_of_nodup ?_ (asc_nodup (asc_range' n 0))).mpr fun y => ?_
    · refine List.nodup_append.mpr ⟨asc_nodup aL, asc_nodup (dead_asc n L), fun a ha b hb e => ?_⟩
      subst e
      exact ((dead_mem a).mp hb).2 ha
    · rw [List.mem_append, dead_mem, mem_range0]
      constructor
      · rintro (h | h)
        · exact hL y h
        · exact h.1
      · intro h
        by_cases c : y ∈ L
        · exact .inl c
        · exact .inr ⟨h, c⟩
  have := p.length_eq
  rw [List.length_append, List.length_range'] at this
  exact this
/-- every list has enough live servers -/
theorem enough {n d : Nat} {L : List Nat} {rows : List (List Nat)} (G : Tab n d rows) (aL : Asc L) (hL : ∀ y ∈ L, y < n) {q : Nat} (h : q + (n - L.length) ≤ d) : ∀ r ∈ rows, q ≤ (lvL L r).length := fun r hr => by
  obtain ⟨g1, g2, g3⟩ := G r hr
  have p := (lv_dd L r).length_eq
  rw [List.length_append, g1] at p
  have h2 : (ddL L r).length ≤ (deadL n L).length := subG_len (g2.filter _) fun y hy => by
    have h1 := List.mem_filter.mp hy
    exact (dead_mem y).mpr ⟨g3 y h1.1, by simpa using h1.2⟩
  have := live_dead aL hL
  omega
theorem Live.enough {n d q : Nat} {L : List Nat} {rows : List (List Nat)} (h : Live n d q L rows) : ∀ r ∈ rows, q ≤ (lvL L r).length := Ef.enough h.tab h.asc h.lt h.fit
theorem Live.const {n d q : Nat} {L : List Nat} {rows : List (List Nat)} (h : Live n d q L rows) : ∃ F, ∀ T ∈ combs L q, heldN L q rows T = F := by
  obtain ⟨p, rfl⟩ : ∃ p, q = p + 1 := ⟨q - 1, by have := h.q1; omega⟩
  have ld := live_dead h.asc h.lt
  have hf := h.fit
  have hq := h.qL
  let w : Nat → Nat := fun s => if hs : s < p + 1 + (n - L.length) then (h.lev s hs).choose else 0
  refine ⟨((subsA (deadL n L)).map fun D => (p + 1) * w (p + D.length)).sum, fun T hT => ?_⟩
  obtain ⟨g1, g2⟩ := combs_good L (p + 1) T hT
  refine held_even h.tab (h.asc.sublist g2) g1 (fun y hy => g2.subset hy) h.lt (dead_asc n L) dead_mem (by omega) h.enough fun s hs => ?_
  have hs2 : s < p + 1 + (n - L.length) := by omega
  have e : w s = (h.lev s hs2).choose := dif_pos hs2
  rw [e]
  exact (h.lev s hs2).choose_spec
/-- every set's share -/
theorem Live.held {n d q : Nat} {L : List Nat} {rows : List (List Nat)} (h : Live n d q L rows) : ∀ T ∈ combs L q, heldN L q rows T * C L.length q = rows.length := by
  obtain ⟨F, hF⟩ := h.const
  have t := held_total h.tab h.asc h.enough
  rw [sum_congr' (g := fun _ => F) hF, sum_const, combsLen] at t
  intro T hT
  rw [hF T hT, Nat.mul_comm]
  exact t
/-- how many lists have a server among the first live ones -/
def ldN (L : List Nat) (q : Nat) (rows : List (List Nat)) (y : Nat) : Nat := rows.countP fun r => decide (y ∈ (lvL L r).take q)
theorem combs_with : ∀ (l : List Nat) (k y : Nat), l.Nodup → y ∈ l → (combs l (k + 1)).countP (fun T => decide (y ∈ T)) = C (l.length - 1) k
  | [], k, y, _, h => absurd h List.not_mem_nil
  | x :: r, k, y, hn, h => by
    obtain ⟨h1, h2⟩ := List.nodup_cons.mp hn
    show ((combs r k).map (x :: ·) ++ combs r (k + 1)).countP _ = C (r.length + 1 - 1) k
    rw [List.countP_append, List.countP_map, Nat.add_sub_cancel]
    by_cases e : y = x
    · subst e
      have a1 : (combs r k).countP ((fun T => decide (y ∈ T)) ∘ fun T => y :: T) = (combs r k).length := List.countP_eq_length.mpr fun T _ => by simp
      have a2 : (combs r (k + 1)).countP (fun T => decide (y ∈ T)) = 0 := List.countP_eq_zero.mpr fun T hT z => h1 ((combs_good r (k + 1) T hT).2.subset (of_decide_eq_true z))
      rw [a1, a2, combsLen]
      rfl
    · have hy : y ∈ r := (List.mem_cons.mp h).resolve_left e
      have rp := List.length_pos_of_mem hy
      have a1 : (combs r k).countP ((fun T => decide (y ∈ T)) ∘ fun T => x :: T) = (combs r k).countP fun T => decide (y ∈ T) := List.countP_congr fun T _ => by simp [e]
      rw [a1, combs_with r k y h2 hy]
      cases k with
      | zero =>
        rw [combs_zero]
        show 0 + C (r.length - 1) 0 = C r.length 0
        rw [C_zero, C_zero]
      | succ k =>
        rw [combs_with r k y h2 hy]
        obtain ⟨m, em⟩ : ∃ m, r.length = m + 1 := ⟨r.length - 1, by omega⟩
        rw [em]
        rfl
theorem Live.load {n d q : Nat} {L : List Nat} {rows : List (List Nat)} (h : Live n d q L rows) : ∀ y ∈ L, ldN L q rows y * L.length = rows.length * q := fun y hy => by
  obtain ⟨p, rfl⟩ : ∃ p, q = p + 1 := ⟨q - 1, by have := h.q1; omega⟩
  obtain ⟨F, hF⟩ := h.const
  have hq := h.qL
  have t := held_total h.tab h.asc h.enough
  rw [sum_congr' (g := fun _ => F) hF, sum_const, combsLen] at t
  -- the sets with this server
  have e1 : ldN L (p + 1) rows y = (((combs L (p + 1)).filter fun T => decide (y ∈ T)).map fun T => heldN L (p + 1) rows T).sum := by
    have e2 : (((combs L (p + 1)).filter fun T => decide (y ∈ T)).map fun T => heldN L (p + 1) rows T) = ((combs L (p + 1)).filter fun T => decide (y ∈ T)).map fun T => rows.countP ((fun T r => decide (srt ((lvL L r).take (p + 1)) = T)) T) := rfl
    rw [e2, swap_sum]
    unfold ldN
    rw [← sum_ind]
    refine sum_congr' fun r hr => ?_
    have hm := first_mem h.tab h.asc h.enough r hr
    have nd := (combsNodup L (p + 1) (asc_nodup h.asc)).filter fun T => decide (y ∈ T)
    have pm := srt_perm ((lvL L r).take (p + 1))
    by_cases c : y ∈ (lvL L r).take (p + 1)
    · rw [if_pos (decide_eq_true c)]
      exact (combs_one nd (List.mem_filter.mpr ⟨hm, decide_eq_true (pm.mem_iff.mpr c)⟩)).symm
    · rw [if_neg (fun z => c (of_decide_eq_true z))]
      refine (List.countP_eq_zero.mpr fun T hT z => c ?_).symm
      have hT2 := of_decide_eq_true (List.mem_filter.mp hT).2
      rw [← of_decide_eq_true z] at hT2
      exact pm.mem_iff.mp hT2
  have e3 : ((combs L (p + 1)).filter fun T => decide (y ∈ T)).length = C (L.length - 1) p := by
    rw [← List.countP_eq_length_filter]
    exact combs_with L p y (asc_nodup h.asc) hy
  rw [e1, sum_congr' (g := fun _ => F) fun T hT => hF T (List.mem_filter.mp hT).1, sum_const, e3, ← t]
  have e4 := edge_alt2 (n := L.length) (i := p) (by omega)
  rw [Nat.mul_right_comm, Nat.mul_comm (C (L.length - 1) p) L.length, ← e4, Nat.mul_right_comm]
/-! what the levels do not tell: the order of the rows, the names of the servers -/
theorem Lev.perm {n s w : Nat} {rows rows' : List (List Nat)} (p : rows'.Perm rows) (h : Lev n s w rows) : Lev n s w rows' := fun e he => (cE_perm (p.map _) e).trans (h e he)
theorem Tab.perm {n d : Nat} {rows rows' : List (List Nat)} (p : rows'.Perm rows) (h : Tab n d rows) : Tab n d rows' := fun r hr => h r (p.mem_iff.mp hr)
/-- servers renamed -/
structure Names (n : Nat) (f g : Nat → Nat) : Prop where
  fn : ∀ x, x < n → f x < n
  gn : ∀ x, x < n → g x < n
  gf : ∀ x, x < n → g (f x) = x
  fg : ∀ x, x < n → f (g x) = x
theorem names_of {n : Nat} {ns : List Nat} (p : ns.Perm (List.range' 0 n)) : Names n (fun x => ns.getD x 0) (fun y => ns.idxOf y) := by
  have hl : ns.length = n := by
    rw [p.length_eq, List.length_range']
  have nd : ns.Nodup := p.nodup_iff.mpr (asc_nodup (asc_range' n 0))
  have at_ : ∀ x, x < n → ns[x]? = some (ns.getD x 0) := fun x hx => getD_of (by omega)
  have mem : ∀ y, y < n → y ∈ ns := fun y hy => p.mem_iff.mpr (mem_range0.mpr hy)
  refine ⟨fun x hx => mem_range0.mp (p.mem_iff.mp (List.mem_of_getElem? (at_ x hx))), fun x hx => ?_, fun x hx => ?_, fun x hx => ?_⟩
  · have := List.idxOf_lt_length_of_mem (mem x hx)
    omega
  · have h1 := at_ x hx
    have h2 := idx_at (List.mem_of_getElem? h1)
    exact nodup_inj nd h2 h1
  · show ns.getD (ns.idxOf x) 0 = x
    rw [List.getD_eq_getElem?_getD, idx_at (mem x hx)]
    rfl
theorem Names.inj {n : Nat} {f g : Nat → Nat} (N : Names n f g) {a b : Nat} (ha : a < n) (hb : b < n) (e : f a = f b) : a = b := by
  rw [← N.gf a ha, ← N.gf b hb, e]
theorem Names.tab {n d : Nat} {f g : Nat → Nat} {rows : List (List Nat)} (N : Names n f g) (h : Tab n d rows) : Tab n d (rows.map fun r => r.map f) := fun r hr => by
  obtain ⟨r0, hr0, rfl⟩ := List.mem_map.mp hr
  obtain ⟨h1, h2, h3⟩ := h r0 hr0
  refine ⟨by rw [List.length_map]; exact h1, ?_, fun x hx => ?_⟩
  · refine List.pairwise_map.mpr (List.Pairwise.imp_of_mem (fun {a b} ha hb hab e => hab (N.inj (h3 a ha) (h3 b hb) e)) h2)
  · obtain ⟨y, hy, rfl⟩ := List.mem_map.mp hx
    exact N.fn y (h3 y hy)
theorem map_back {n : Nat} {f g : Nat → Nat} {l : List Nat} (hl : ∀ x ∈ l, x < n) (h : ∀ x, x < n → g (f x) = x) : (l.map f).map g = l := by
  rw [List.map_map]
  conv => rhs; rw [← List.map_id l]
  exact List.map_congr_left fun x hx => h x (hl x hx)
theorem Names.lev {n d s w : Nat} {f g : Nat → Nat} {rows : List (List Nat)} (N : Names n f g) (G : Tab n d rows) (hs : s < d) (h : Lev n s w rows) : Lev n s w (rows.map fun r => r.map f) := fun e he => by
  obtain ⟨x, hx, he⟩ := List.mem_flatMap.mp he
  obtain ⟨S, hS, rfl⟩ := List.mem_map.mp he
  obtain ⟨g1, g2⟩ := combs_good _ _ _ hS
  have hxn := List.mem_range.mp hx
  have memS : ∀ y ∈ S, y < n ∧ y ≠ x := fun y hy => by
    have := List.mem_filter.mp (g2.subset hy)
    exact ⟨List.mem_range.mp this.1, by simpa using this.2⟩
  have ascS : Asc S := (without_asc n x).sublist g2
  have hin : (srt (S.map g), g x) ∈ allE n s := by
    have pm := srt_perm (S.map g)
    have nd : (S.map g).Nodup := List.pairwise_map.mpr (List.Pairwise.imp_of_mem (fun {a b} ha hb hab e => hab (by rw [← N.fg a (memS a ha).1, ← N.fg b (memS b hb).1, e])) (asc_nodup ascS))
    refine allE_mem (N.gn x hxn) (by rw [pm.length_eq, List.length_map, g1]) (srt_asc nd) fun y hy => ?_
    obtain ⟨z, hz, rfl⟩ := List.mem_map.mp (pm.mem_iff.mp hy)
    exact ⟨N.gn z (memS z hz).1, fun e => (memS z hz).2 (by rw [← N.fg z (memS z hz).1, ← N.fg x hxn, e])⟩
  rw [← h _ hin, List.map_map, cE_map, cE_map]
  refine List.countP_congr fun r hr => ?_
  obtain ⟨h1, h2, h3⟩ := G r hr
  have hlt : s < r.length := by omega
  rw [decide_eq_true_iff, decide_eq_true_iff]
  have ex : (r.map f).getD s 0 = f (r.getD s 0) := by
    rw [List.getD_eq_getElem?_getD, List.getD_eq_getElem?_getD, List.getElem?_map, List.getElem?_eq_getElem hlt]
    rfl
  have hrs : r.getD s 0 < n := by
    rw [List.getD_eq_getElem?_getD, List.getElem?_eq_getElem hlt]
    exact h3 _ (List.getElem_mem _)
  have ht : ∀ y ∈ r.take s, y < n := fun y hy => h3 y (List.mem_of_mem_take hy)
  show edgE s (r.map f) = (S, x) ↔ edgE s r = (srt (S.map g), g x)
  unfold edgE
  rw [ex, ← List.map_take]
  constructor
  · intro e
    have e1 : srt ((r.take s).map f) = S := congrArg Prod.fst e
    have e2 : f (r.getD s 0) = x := congrArg Prod.snd e
    have p1 : ((r.take s).map f).Perm S := (srt_perm _).symm.trans (e1 ▸ List.Perm.refl _)
    have p2 := p1.map g
    rw [map_back ht N.gf] at p2
    rw [srt_eq p2, ← e2, N.gf _ hrs]
  · intro e
    have e1 : srt (r.take s) = srt (S.map g) := congrArg Prod.fst e
    have e2 : r.getD s 0 = g x := congrArg Prod.snd e
    have p2 := (perm_of_srt e1).map f
    rw [map_back (fun y hy => (memS y hy).1) N.fg] at p2
    rw [srt_eq p2, srt_self ascS, e2, N.fg x hxn]
end Ef
set_option maxHeartbeats 4000000
namespace Ef
open PySem PySem.Spec PyProof.Rows L2 PySem.NumText
/-! ### int(text) of more than 640 signs; a text many times over -/
theorem digits_wp {M : Model} {A : Around} {E : Value → Shared → Prop} {s : Shared} {Q : Nat → Shared → Prop} (hn : s.heap.NoDigits) (h : Q 4300 s) : wpAny M A Builtin.intMaxStrDigits Q E s := by
  obtain ⟨mc, hns, hnone⟩ := hn
  unfold Builtin.intMaxStrDigits
  refine wpAny_bind (wpAny_nsGet hns ?_)
  rw [hnone]
  exact wpAny_pure h
theorem wp_textL {M : Model} {A : Around} {E : Value → Shared → Prop} {s : Shared} {Q : Value → Shared → Prop} {v : Value} {text : List Nat} {n : Int}
    (hs : ¬ (text.takeWhile (· != 0)).length ≤ 640) (hn : s.heap.NoDigits) (hr : (int_private% "readNumeral") 4300 10 (text.takeWhile (· != 0)) = (int_private% "Numeral.value") n)
    (ha : ((text.takeWhile (· != 0)).length == text.length) = true) (h : Q (.int n s.toks) { s with toks := s.toks + 1 }) :
    wpAny M A ((int_private% "intFromText") v text 10) Q E s := by
  obtain ⟨hp, g, d, tk, os⟩ := s
  repeat (any_goals (first
    | assumption
    | (with_reducible refine wpAny_ite_false (decide_eq_false hs) ?_)
    | (with_reducible refine digits_wp hn ?_)
    | (with_reducible refine wpAny_ite_true (decide_eq_true ha) ?_)
    | wp_step))
  rw [hr]
  dsimp only
  refine wpAny_ite_true (decide_eq_true ha) ?_
  repeat (any_goals (first
    | assumption
    | wp_step))
structure HidL (p : Prop) : Prop where
  out : p
theorem meets_textL {x : Str} {u : Tok} {n : Int} (hl : x.length ≤ 4300) (hb : ¬ (numSeenOf x).length ≤ 640) (hn : PySem.intText? x = some n) :
    Meets (Builtin.«int.__new__» ⟨[.type "int", .str x u], []⟩) (fun _ R s => s.heap.NoDigits ∧ R (.ok (.ret (.int n s.toks))) { s with toks := s.toks + 1 }) := by
  intro prog w A R s ⟨hd, h⟩
  obtain ⟨hp, g, d, tk, os⟩ := s
  have f1 := F.conv_sub_int
  have f2 := F.madeHere_int
  have f3 := PySem.W.KIN.str_int
  have f4 := PySem.W.KIN.str_idx
  have f5 := PySem.W.KIN.str_trunc
  have f6 : typeOf (.str x u) = pure (.type "str") := rfl
  have hr : (int_private% "readNumeral") 4300 10 (numSeenOf x) = (int_private% "Numeral.value") n ∧ ((numSeenOf x).length == (numTextOf x).length) = true := by
    rcases read4300 x (by rw [sizeLine_eq]; omega) with ⟨m, h1, h2, h3⟩ | ⟨h1, _⟩
    · rw [hn] at h1
      injection h1 with h1
      subst h1
      exact ⟨h3, h2⟩
    · rw [hn] at h1
      cases h1
  have hk := HidL.mk (And.intro hb (And.intro hd hr))
  clear hb hr hl hn hd
  repeat (any_goals (first
    | assumption
    | ((with_reducible show wpAny _ _ ((int_private% "intFromText") _ _ _) _ _ _); refine wp_textL hk.out.1 hk.out.2.1 hk.out.2.2.1 hk.out.2.2.2 ?_)
    | wp_step))
  all_goals first | exact h | skip
  done
theorem ns_none {K : PySem.W.Frag} {h : Heap} {ns : Addr} {mg : Str → Option Value} {n : Str} (X : K.In h) (G : h.Ns ns mg) (e : PySem.W.nsIn K ns n = some none) : mg n = none := by
  obtain ⟨o, es, ep, ho, hd, _, hf⟩ := G
  unfold PySem.W.nsIn at e
  cases q : K.lookup ns with
  | none =>
    rw [q] at e
    cases e
  | some o' =>
    have := X _ _ q
    rw [ho] at this
    obtain rfl := Option.some.inj this
    rw [q] at e
    obtain ⟨oc, od, dat, sl⟩ := o
    dsimp only at hd
    subst hd
    dsimp only at e
    split at e
    · cases e
    · rename_i he
      rw [← hf]
      unfold nsFind findBy
      rw [← Array.find?_toList, he]
      rfl
section
variable {X : Cx}
def rIntL : List V → Hp → VK → Prop := fun xs H Q => ∃ a n, xs = [V.str a] ∧ PySem.intText? a = some n ∧ ¬ (numSeenOf a).length ≤ 640 ∧ a.length ≤ 4300 ∧ Q (.int n) H
theorem cr_intL {K : PySem.W.Frag} (hk : PySem.W.nsIn K cStatics "sys.int_max_str_digits" = some none) (h : X.K = K := by rfl) : CallR X (.type "int") rIntL := by
  subst h
  intro pins s σ H xs us Q I rs h
  obtain ⟨a, n, rfl, hn, hb, hl, q⟩ := h
  cases rs with
  | cons r1 rs =>
    cases rs
    obtain ⟨t, rfl⟩ := r1
    obtain ⟨mc, hns, _⟩ := I.nolimit
    exact call_int_1 (meets_textL hl hb hn) ⟨⟨mc, hns, ns_none I.kIn hns hk⟩, rfl, ⟨.int n, H, I.tok _, ⟨_, rfl⟩, q⟩⟩
/-- a text many times over -/
def rRepS : R2 := fun x y H Q => ∃ (a : Str) (n : Int), x = V.str a ∧ y = V.int n ∧ 2 ≤ n ∧ n ≤ 100000 ∧ 1 ≤ a.length ∧ a.length ≤ 10 ∧ (⟨(List.replicate n.toNat a.cps).foldl (· ++ ·) #[]⟩ : Str).length ≤ sizeLine ∧ Q (.str ⟨(List.replicate n.toNat a.cps).foldl (· ++ ·) #[]⟩) H
theorem op_repS : OpR X (binaryOp .Mult) rRepS := by
  intro pins s σ H x y v u Q I rx ry h
  obtain ⟨a, n, rfl, rfl, h1, h2, h3, h4, h5, q⟩ := h
  obtain ⟨t, rfl⟩ := rx
  obtain ⟨t', rfl⟩ := ry
  have hm : a.length * n.toNat ≤ 10 * 100000 := Nat.mul_le_mul h4 (by omega)
  have c1 : (n == 1 || a.length == 0) = false := by
    rw [Bool.or_eq_false_iff]
    exact ⟨beq_false_of_ne (by omega), beq_false_of_ne (by omega)⟩
  refine P.mul_str (by rw [decide_eq_false (by omega), decide_eq_false (by omega)]; rfl) (fun _ _ => ?_) (fun _ _ => ?_) ?_
  · have : (2 ^ 63 - 1 : Int) / n ≥ 1000 := by
      refine (Int.le_ediv_iff_mul_le (by omega)).mpr ?_
      omega
    omega
  · unfold Builtin.Str.tooLong
    refine decide_eq_false ?_
    rw [sizeLine_eq]
    omega
  · rw [if_neg (by omega), c1]
    exact ⟨h5, ⟨.str _, H, I.tok _, ⟨_, rfl⟩, q⟩⟩
end
/-- '1' and 900 zeros -/
def zeros900 : Str := ⟨(List.replicate (900 : Int).toNat (Str.ofString "0").cps).foldl (· ++ ·) #[]⟩
theorem fold_rep : ∀ (k : Nat) (acc : Array Nat), ((List.replicate k #[48]).foldl (· ++ ·) acc).toList = acc.toList ++ List.replicate k 48
  | 0, acc => by simp
  | k + 1, acc => by
    rw [List.replicate_succ, List.foldl_cons, fold_rep k, Array.toList_append, List.append_assoc]
    rfl
theorem zero_cps : (Str.ofString "0").cps = #[48] := by decide +kernel
theorem one_cps : (Str.ofString "1").cps = #[49] := by decide +kernel
theorem zeros_cps : zeros900.cps.toList = List.replicate 900 48 := by
  show ((List.replicate (900 : Int).toNat (Str.ofString "0").cps).foldl (· ++ ·) #[]).toList = _
  rw [zero_cps, fold_rep]
  rfl
theorem zeros_len : zeros900.length = 900 := by
  show zeros900.cps.size = 900
  rw [← Array.length_toList, zeros_cps, List.length_replicate]
theorem big_cps : (Str.ofString "1" ++ zeros900).cps.toList = 49 :: List.replicate 900 48 := by
  show ((Str.ofString "1").cps ++ zeros900.cps).toList = _
  rw [Array.toList_append, zeros_cps, one_cps]
  rfl
theorem big_len : (Str.ofString "1" ++ zeros900).length = 901 := by
  show (Str.ofString "1" ++ zeros900).cps.size = 901
  rw [← Array.length_toList, big_cps, List.length_cons, List.length_replicate]
theorem big_digits : AllDigits (Str.ofString "1" ++ zeros900).cps.toList := by
  rw [big_cps]
  intro c hc
  rcases List.mem_cons.mp hc with rfl | hc
  · decide
  · rw [List.eq_of_mem_replicate hc]
    decide
theorem val_rep : ∀ (k a : Nat), (List.replicate k 48).foldl (fun acc c => acc * 10 + (c - 48)) a = a * 10 ^ k
  | 0, a => by simp
  | k + 1, a => by
    rw [List.replicate_succ, List.foldl_cons, val_rep k, Nat.pow_succ]
    show (a * 10 + 0) * 10 ^ k = _
    rw [Nat.add_zero, Nat.mul_assoc, Nat.mul_comm 10]
theorem pow_cast (k : Nat) : ((10 ^ k : Nat) : Int) = (10 : Int) ^ k := Int.natCast_pow 10 k
theorem big_text : PySem.intText? (Str.ofString "1" ++ zeros900) = some (10 ^ 900) := by
  rw [intText_digits big_digits (by rw [big_cps]; exact List.cons_ne_nil _ _) (by rw [big_len]; decide), big_cps]
  have e : ∀ k, digitsVal (49 :: List.replicate k 48) = 10 ^ k := fun k => by
    show (List.replicate k 48).foldl (fun acc c => acc * 10 + (c - 48)) 1 = _
    rw [val_rep, Nat.one_mul]
  have f : ∀ k, some ((digitsVal (49 :: List.replicate k 48) : Nat) : Int) = some ((10 : Int) ^ k) := fun k => by rw [e, pow_cast]
  exact f 900
theorem big_seen : ¬ (numSeenOf (Str.ofString "1" ++ zeros900)).length ≤ 640 := by
  rw [(numText_signs fun c hc => .inr (big_digits c hc)).2, Array.length_toList]
  show ¬ (Str.ofString "1" ++ zeros900).length ≤ 640
  rw [big_len]
  decide
end Ef
namespace Ef
/-! ### what a failure moves -/
theorem filter_out {l : List Nat} {x : Nat} (h : x ∉ l) : l.filter (fun y => !decide (y = x)) = l := List.filter_eq_self.mpr fun y hy => by
  have : y ≠ x := fun e => h (e ▸ hy)
  simpa using this
/-- the server is not among the first ones -/
theorem first_keep {l : List Nat} {x f : Nat} (hf : f ≤ l.length) (h : x ∉ l.take f) : (l.filter fun y => !decide (y = x)).take f = l.take f := by
  have e : l.filter (fun y => !decide (y = x)) = l.take f ++ (l.drop f).filter (fun y => !decide (y = x)) := by
    conv => lhs; rw [← List.take_append_drop f l]
    rw [List.filter_append, filter_out h]
  rw [e, List.take_append_of_le_length (by rw [List.length_take]; omega), List.take_of_length_le (by rw [List.length_take]; omega)]
/-- the server is among the first ones: the next one comes in its place -/
theorem first_swap {l : List Nat} {x f : Nat} (nd : l.Nodup) (hf : f + 1 ≤ l.length) (h : x ∈ l.take f) : ∃ a m z, l.take f = a ++ x :: m ∧ l[f]? = some z ∧ (l.filter fun y => !decide (y = x)).take f = a ++ m ++ [z] ∧ z ∉ l.take f := by
  obtain ⟨a, m, e⟩ := List.append_of_mem h
  have hz : f < l.length := by omega
  have nt : (l.take f).Nodup := nd.sublist (List.take_sublist _ _)
  rw [e] at nt
  obtain ⟨n1, n2, n3⟩ := List.nodup_append.mp nt
  obtain ⟨n4, n5⟩ := List.nodup_cons.mp n2
  have xa : x ∉ a := fun z => n3 x z x List.mem_cons_self rfl
  have dz : l.drop f = l[f] :: l.drop (f + 1) := List.drop_eq_getElem_cons hz
  have el : l = l.take f ++ l.drop f := (List.take_append_drop f l).symm
  have nd2 := nd
  rw [el] at nd2
  obtain ⟨_, _, dis⟩ := List.nodup_append.mp nd2
  have xd : x ∉ l.drop f := fun z => dis x h x z rfl
  have zt : l[f] ∉ l.take f := fun z => dis _ z _ (by rw [dz]; exact List.mem_cons_self) rfl
  have lf : (l.take f).length = f := by
    rw [List.length_take]
    omega
  rw [e, List.length_append, List.length_cons] at lf
  have ef : l.filter (fun y => !decide (y = x)) = a ++ m ++ (l[f] :: l.drop (f + 1)) := by
    conv => lhs; rw [el, e]
    rw [List.filter_append, List.filter_append, filter_out xa, List.filter_cons_of_neg (by simp), filter_out n4, filter_out xd, dz]
  refine ⟨a, m, l[f], e, List.getElem?_eq_getElem hz, ?_, zt⟩
  rw [ef, List.take_append, List.take_of_length_le (by rw [List.length_append]; omega), List.length_append, show f - (a.length + m.length) = 1 by omega]
  rfl
/-- who drops, if the server comes back, is who received when it failed -/
theorem drop_is {l : List Nat} {x f : Nat} (nd : l.Nodup) (hf : f + 1 ≤ l.length) : ((l.filter fun y => !decide (y = x)).take f).find? (fun y => !decide (y ∈ l.take f)) = if x ∈ l.take f then some (l.getD f 0) else none := by
  by_cases h : x ∈ l.take f
  · obtain ⟨a, m, z, e1, e2, e3, e4⟩ := first_swap nd hf h
    rw [if_pos h, e3, List.find?_append]
    have : (a ++ m).find? (fun y => !decide (y ∈ l.take f)) = none := by
      rw [List.find?_eq_none]
      intro y hy
      have : y ∈ l.take f := by
        rw [e1]
        rcases List.mem_append.mp hy with hy | hy
        · exact List.mem_append_left _ hy
        · exact List.mem_append_right _ (List.mem_cons_of_mem _ hy)
      simpa using this
    rw [this, List.find?_cons, decide_eq_false e4, List.getD_eq_getElem?_getD, e2]
    rfl
  · rw [if_neg h, first_keep (by omega) h, List.find?_eq_none]
    intro y hy
    simpa using hy
/-- one server's place, ahead of and behind the failure -/
theorem gain_one {l : List Nat} {x y f : Nat} (nd : l.Nodup) (hf : f + 1 ≤ l.length) (hxy : y ≠ x) : (if decide (y ∈ (l.filter fun y => !decide (y = x)).take f) = true then 1 else 0) = (if decide (y ∈ l.take f) = true then 1 else 0) + (if decide ((if x ∈ l.take f then some (l.getD f 0) else none) = some y) = true then 1 else 0) := by
  by_cases h : x ∈ l.take f
  · obtain ⟨a, m, z, e1, e2, e3, e4⟩ := first_swap nd hf h
    rw [e3, List.getD_eq_getElem?_getD, e2]
    simp only [if_pos h, Option.getD_some, Option.some.injEq, decide_eq_true_eq]
    rw [e1] at e4 ⊢
    by_cases c : z = y
    · subst c
      rw [if_pos (List.mem_append_right _ (List.mem_singleton.mpr rfl)), if_neg e4, if_pos rfl]
    · rw [if_neg c, Nat.add_zero]
      have : y ∈ a ++ m ++ [z] ↔ y ∈ a ++ x :: m := by
        rw [List.mem_append, List.mem_append, List.mem_append, List.mem_singleton, List.mem_cons]
        constructor
        · rintro ((h | h) | h)
          · exact .inl h
          · exact .inr (.inr h)
          · exact absurd h.symm c
        · rintro (h | h | h)
          · exact .inl (.inl h)
          · exact absurd h hxy
          · exact .inl (.inr h)
      by_cases d : y ∈ a ++ x :: m
      · rw [if_pos d, if_pos (this.mpr d)]
      · rw [if_neg d, if_neg (fun z => d (this.mp z))]
  · rw [first_keep (by omega) h, if_neg h]
    simp
/-- the live servers without one -/
theorem lv_without (L r : List Nat) (x : Nat) : lvL (L.filter fun y => !decide (y = x)) r = (lvL L r).filter fun y => !decide (y = x) := by
  unfold lvL
  rw [List.filter_filter]
  refine List.filter_congr fun y _ => ?_
  by_cases h1 : y ∈ L <;> by_cases h2 : y = x <;> simp [h1, h2]
/-- how many lists pass from x to y -/
def cpN (L : List Nat) (f x : Nat) (rows : List (List Nat)) (y : Nat) : Nat := rows.countP fun r => decide ((if x ∈ (lvL L r).take f then some ((lvL L r).getD f 0) else none) = some y)
theorem gains {L : List Nat} {f x y : Nat} (hxy : y ≠ x) : ∀ {rows : List (List Nat)}, (∀ r ∈ rows, r.Nodup ∧ f + 1 ≤ (lvL L r).length) → ldN (L.filter fun y => !decide (y = x)) f rows y = ldN L f rows y + cpN L f x rows y
  | [], _ => rfl
  | r :: rows, h => by
    obtain ⟨h1, h2⟩ := h r List.mem_cons_self
    have ih := gains hxy (rows := rows) fun s hs => h s (List.mem_cons_of_mem _ hs)
    unfold ldN cpN at *
    rw [List.countP_cons, List.countP_cons, List.countP_cons, ih, lv_without, gain_one (l := lvL L r) (h1.filter _) h2 hxy]
    omega
/-- each other live server receives the same number -/
theorem copies_even {n d f x : Nat} {L : List Nat} {rows : List (List Nat)} (G : Tab n d rows) (aL : Asc L) (hL : ∀ y ∈ L, y < n) (hf : 1 ≤ f) (hfit : f + 1 + (n - L.length) ≤ d) (hfL : f + 1 ≤ L.length) (lev : ∀ s, s < f + 1 + (n - L.length) → ∃ w, Lev n s w rows) (hx : x ∈ L) :
    ∀ y ∈ L, y ≠ x → cpN L f x rows y = rows.length * f / (L.length * (L.length - 1)) := fun y hy hyx => by
  have hLn : L.length ≤ n := by
    have := live_dead aL hL
    omega
  have aL' : Asc (L.filter fun y => !decide (y = x)) := aL.filter _
  have lL' : (L.filter fun y => !decide (y = x)).length = L.length - 1 := by
    have p : (x :: L.filter fun y => !decide (y = x)).Perm L := by
      refine (List.perm_ext_iff_of_nodup (List.nodup_cons.mpr ⟨fun z => by simp at z, asc_nodup aL'⟩) (asc_nodup aL)).mpr fun z => ?_
      rw [List.mem_cons, List.mem_filter]
      constructor
      · rintro (h | h)
        · rw [h]
          exact hx
        · exact h.1
      · intro h
        by_cases c : z = x
        · exact .inl c
        · exact .inr ⟨h, by simpa using c⟩
    have := p.length_eq
    rw [List.length_cons] at this
    omega
  have lv1 : Live n d f L rows := ⟨G, aL, hL, hf, by omega, by omega, fun s hs => lev s (by omega)⟩
  have lv2 : Live n d f (L.filter fun y => !decide (y = x)) rows := ⟨G, aL', fun z hz => hL z (List.mem_filter.mp hz).1, hf, by omega, by omega, fun s hs => lev s (by omega)⟩
  have e1 := lv1.load y hy
  have e2 := lv2.load y (List.mem_filter.mpr ⟨hy, by simpa using hyx⟩)
  rw [lL'] at e2
  have en := enough G aL hL (q := f + 1) (by omega)
  have g := gains hyx (L := L) (f := f) (rows := rows) fun r hr => ⟨(G r hr).2.1, en r hr⟩
  rw [g] at e2
  generalize ldN L f rows y = A at e1 e2
  generalize cpN L f x rows y = c at e2 ⊢
  generalize rows.length * f = m at e1 e2 ⊢
  obtain ⟨k, hk⟩ : ∃ k, L.length = k + 1 := ⟨L.length - 1, by omega⟩
  rw [hk] at e1 e2 hfL ⊢
  rw [Nat.add_sub_cancel] at e2 ⊢
  have k0 : 0 < k := by omega
  have e3 : c * k = A := by
    rw [Nat.add_mul] at e2
    rw [Nat.mul_succ] at e1
    omega
  have e4 : (k + 1) * k * c = m := by
    rw [← e1, ← e3, Nat.mul_comm (k + 1) k, Nat.mul_comm (k * (k + 1)) c, ← Nat.mul_assoc]
  rw [← e4]
  exact (Nat.mul_div_cancel_left c (Nat.mul_pos (by omega) k0)).symm
end Ef
namespace Ef
/-! ### how many replicas move -/
theorem new_fail {l : List Nat} {x f : Nat} (nd : l.Nodup) (hf : f + 1 ≤ l.length) : (((l.filter fun y => !decide (y = x)).take f).filter fun y => !decide (y ∈ l.take f)).length = if x ∈ l.take f then 1 else 0 := by
  by_cases h : x ∈ l.take f
  · obtain ⟨a, m, z, e1, e2, e3, e4⟩ := first_swap nd hf h
    rw [if_pos h, e3, List.filter_append]
    have : (a ++ m).filter (fun y => !decide (y ∈ l.take f)) = [] := by
      rw [List.filter_eq_nil_iff]
      intro y hy
      have : y ∈ l.take f := by
        rw [e1]
        rcases List.mem_append.mp hy with hy | hy
        · exact List.mem_append_left _ hy
        · exact List.mem_append_right _ (List.mem_cons_of_mem _ hy)
      simpa using this
    rw [this, List.nil_append, List.filter_cons_of_pos (by simpa using e4)]
    rfl
  · rw [if_neg h, first_keep (by omega) h, List.filter_eq_nil_iff.mpr]
    · rfl
    · intro y hy
      simpa using hy
theorem new_back : ∀ {l : List Nat} {x f : Nat}, l.Nodup → ((l.take f).filter fun y => !decide (y ∈ (l.filter fun y => !decide (y = x)).take f)).length = if x ∈ l.take f then 1 else 0
  | [], x, f, _ => by simp
  | a :: r, x, 0, _ => by simp
  | a :: r, x, f + 1, nd => by
    obtain ⟨h1, h2⟩ := List.nodup_cons.mp nd
    by_cases c : a = x
    · subst c
      rw [List.filter_cons_of_neg (p := fun y => !decide (y = a)) (by simp), filter_out h1, List.take_succ_cons, List.filter_cons_of_pos (by
        have : a ∉ r.take (f + 1) := fun z => h1 (List.mem_of_mem_take z)
        simpa using this), if_pos List.mem_cons_self]
      have : (r.take f).filter (fun y => !decide (y ∈ r.take (f + 1))) = [] := by
        rw [List.filter_eq_nil_iff]
        intro y hy
        have : y ∈ r.take (f + 1) := by
          have e : r.take f = (r.take (f + 1)).take f := by rw [List.take_take, Nat.min_eq_left (by omega)]
          rw [e] at hy
          exact List.mem_of_mem_take hy
        simpa using this
      rw [this]
      rfl
    · rw [List.filter_cons_of_pos (p := fun y => !decide (y = x)) (by simpa using c), List.take_succ_cons, List.take_succ_cons, List.filter_cons_of_neg (by simp)]
      have e : (r.take f).filter (fun y => !decide (y ∈ a :: (r.filter fun y => !decide (y = x)).take f)) = (r.take f).filter fun y => !decide (y ∈ (r.filter fun y => !decide (y = x)).take f) := by
        refine List.filter_congr fun y hy => ?_
        have : y ≠ a := fun z => h1 (z ▸ List.mem_of_mem_take hy)
        simp [this]
      rw [e, new_back h2]
      have : x ∈ a :: r.take f ↔ x ∈ r.take f := by
        rw [List.mem_cons]
        exact ⟨fun z => z.elim (fun q => absurd q.symm c) id, .inr⟩
      by_cases k : x ∈ r.take f
      · rw [if_pos k, if_pos (this.mpr k)]
      · rw [if_neg k, if_neg (fun z => k (this.mp z))]
/-- the holders behind that were none before, over all lists -/
def movN (B A : List Nat) (f : Nat) (rows : List (List Nat)) : Nat := (rows.map fun r => (((lvL A r).take f).filter fun y => !decide (y ∈ (lvL B r).take f)).length).sum
theorem movN_snoc (B A : List Nat) (f : Nat) (rows : List (List Nat)) (r : List Nat) : movN B A f (rows ++ [r]) = movN B A f rows + (((lvL A r).take f).filter fun y => !decide (y ∈ (lvL B r).take f)).length := by
  unfold movN
  rw [List.map_append, List.sum_append]
  simp
theorem sum_ld {L : List Nat} {f x : Nat} (rows : List (List Nat)) : (rows.map fun r => if x ∈ (lvL L r).take f then 1 else 0).sum = ldN L f rows x := by
  unfold ldN
  rw [← sum_ind]
  congr 1
  refine List.map_congr_left fun r _ => ?_
  by_cases c : x ∈ (lvL L r).take f
  · rw [if_pos c, if_pos (decide_eq_true c)]
  · rw [if_neg c, if_neg (fun z => c (of_decide_eq_true z))]
theorem lvL_len {L r : List Nat} (nd : r.Nodup) (aL : L.Nodup) : (lvL L r).length ≤ L.length := by
  exact subG_len (nd.filter _) fun y hy => by
    have := (List.mem_filter.mp hy).2
    simpa using this
theorem fail_total {n d f x c : Nat} {L : List Nat} {rows : List (List Nat)} (G : Tab n d rows) (hc : rows.length = c) (aL : Asc L) (hL : ∀ y ∈ L, y < n) (hf : 1 ≤ f) (hx : x ∈ L) (lev : ∀ s, s < d → ∃ w, Lev n s w rows) (hfit : f < L.length → f + 1 + (n - L.length) ≤ d) :
    movN L (L.filter fun y => !decide (y = x)) f rows = if f < L.length then c * f / L.length else 0 := by
  by_cases h : f < L.length
  · rw [if_pos h]
    have en := enough G aL hL (q := f + 1) (by have := hfit h; omega)
    have e1 : movN L (L.filter fun y => !decide (y = x)) f rows = ldN L f rows x := by
      unfold movN
      rw [← sum_ld]
      congr 1
      refine List.map_congr_left fun r hr => ?_
      have nl : (lvL L r).Nodup := (G r hr).2.1.filter _
      rw [lv_without, new_fail nl (en r hr)]
    have lv : Live n d f L rows := ⟨G, aL, hL, hf, by omega, by have := hfit h; omega, fun s hs => lev s (by have := hfit h; omega)⟩
    have := lv.load x hx
    rw [e1, ← hc, ← this, Nat.mul_div_cancel _ (by omega)]
  · rw [if_neg h]
    unfold movN
    have : (rows.map fun r => (((lvL (L.filter fun y => !decide (y = x)) r).take f).filter fun y => !decide (y ∈ (lvL L r).take f)).length) = rows.map fun _ => 0 := by
      refine List.map_congr_left fun r hr => ?_
      have l1 := lvL_len (G r hr).2.1 (asc_nodup aL)
      rw [List.length_eq_zero_iff, List.filter_eq_nil_iff]
      intro y hy
      rw [lv_without] at hy
      have h2 := (List.mem_filter.mp (List.mem_of_mem_take hy)).1
      rw [List.take_of_length_le (by omega)]
      simpa using h2
    rw [this, sum_const, Nat.mul_zero]
theorem back_total {n d f x c : Nat} {L M : List Nat} {rows : List (List Nat)} (G : Tab n d rows) (hc : rows.length = c) (aM : Asc M) (hM : ∀ y ∈ M, y < n) (hf : 1 ≤ f) (hx : x ∈ M) (e : M.filter (fun y => !decide (y = x)) = L) (lev : ∀ s, s < d → ∃ w, Lev n s w rows) (hfit : min f M.length + (n - M.length) ≤ d) (fd : f + (n - M.length) ≤ d ∨ M.length ≤ f) :
    movN L M f rows = c * min f M.length / M.length := by
  have m1 : 1 ≤ M.length := List.length_pos_of_mem hx
  have e1 : movN L M f rows = ldN M (min f M.length) rows x := by
    unfold movN
    rw [← sum_ld]
    congr 1
    refine List.map_congr_left fun r hr => ?_
    have l1 := lvL_len (G r hr).2.1 (asc_nodup aM)
    have nl : (lvL M r).Nodup := (G r hr).2.1.filter _
    rw [← e, lv_without, new_back nl]
    have : (lvL M r).take f = (lvL M r).take (min f M.length) := by
      rcases Nat.le_total f M.length with h | h
      · rw [Nat.min_eq_left h]
      · rw [Nat.min_eq_right h, List.take_of_length_le (by omega), List.take_of_length_le (by omega)]
    rw [this]
  have lv : Live n d (min f M.length) M rows := ⟨G, aM, hM, by omega, by omega, by omega, fun s hs => lev s (by omega)⟩
  have := lv.load x hx
  rw [e1, ← hc, ← this, Nat.mul_div_cancel _ (by omega)]
end Ef
set_option maxHeartbeats 4000000
namespace Ef
open PySem PySem.Spec PyProof.Rows L2
/-! ### len(x), x an instance with fields whose class answers it by a def of its own -/
section
variable {prog : Program} {w : World} {A : Around} {E : Value → Shared → Prop} {s : Shared} {K : PySem.W.Frag} {x C g : Addr} {ox : Obj} {odd : Option Obj}
theorem lenOwn_run {Q : Value → Shared → Prop} (X : K.In s.heap) (I : PySem.W.InstAt s.heap x ox C odd) (hs : PySem.W.findIn K (.ref C) "__len__" = some (some (.ref g))) (hf : PySem.W.isFn K (.ref g) = true)
    (h : wpAny (model prog w) A.in1 (call (.ref g) [.ref x]) (fun r s₁ => ∃ (n : Nat) (u : Tok), r = Value.int n u ∧ (n : Int) < 2 ^ 63 ∧ Q (.int n s₁.toks) { s₁ with toks := s₁.toks + 1 }) E s) : wpAny (model prog w) A (call (.builtin "len") [.ref x]) Q E s := by
  refine Calls.call_function_entry kind_len plain_len entry_len (args_len1 _) ?_
  unfold Builtin.«len»
  refine wpAny_bind (m := oneArg "len" _) (wpAny_pure ?_)
  refine wpAny_bind (m := callSpecial? (.ref x) (PySem.Str.ofString "__len__")) (PySem.W.special_fn X I hs (beq_iff_eq.mp hf) (wpAny_mono h (fun r s' hr => ?_) fun _ _ y => y))
  obtain ⟨n, u, rfl, hn, q⟩ := hr
  refine wpAny_bind (wpAny_holding (wpAny_pure ?_))
  refine wpAny_bind (wpAny_letGo ?_)
  show wpAny _ _ (if ((n : Nat) : Int) < 0 then _ else _) _ _ _
  rw [if_neg (by omega)]
  show wpAny _ _ (if ((n : Nat) : Int) ≥ 2 ^ 63 then _ else _) _ _ _
  rw [if_neg (by omega)]
  exact wpAny_bind (wpAny_mkInt (wpAny_pure ⟨_, rfl, q⟩))
end
section
variable {X : Cx} {CX : CXT} {C g : Addr} {fd : FuncData} {sp : Sp} {n : Nat} {E : XK}
def rLenOwn (C : Addr) (sp : Sp) (E : XK) : List V → Hp → VK → Prop := fun xs H Q => ∃ (a dx : Addr) (fs : List (Str × V)), xs = [V.ref a] ∧ H a = some (.ins C dx fs) ∧ sp [.ref a] H (fun z H' => ∃ m : Nat, z = .int m ∧ (m : Int) < 2 ^ 63 ∧ Q (.int m) H') E
theorem call_lenOwn (hm : Meth X.K C "__len__" g) (F : FnOk X.prog X.w X.K X.mg X.base CX n g fd ["self"] sp) (hb : Binds X.K fd ["self"] []) (hr : Room (n + 1) X.A) (hx : Passes CX X E) : CallR X (.builtin "len") (rLenOwn C sp E) := by
  intro pins s σ H xs us Q I r h
  obtain ⟨a, dx, fs, rfl, ha, q⟩ := h
  obtain ⟨u, rfl, ru⟩ := r.one
  cases (show u = Value.ref a from ru)
  obtain ⟨mA, O, _, _, _, _⟩ := ins_get I.hok ha
  obtain ⟨od, ho, _⟩ := lookIn_ns O.ns
  refine lenOwn_run I.kIn (ox := PySem.W.instObj C dx) (odd := some od) ⟨O.obj, rfl, rfl, ho⟩ hm.at_ hm.fn (wpAny_call (codeAny_mono (F.run X.A.in1 X.stack s H ⟨[.ref a], []⟩ [.ref a] [.ref a] _ E hr.in1 I.env0.in1 (hb s [.ref a] I.kIn rfl) (.cons rfl .nil) q) fun r s' hq => ?_))
  cases r with
  | error e => exact hx _ σ H s e s' I hq
  | ok fl =>
    cases fl with
    | ret u =>
      obtain ⟨z, H', I', rz, m, rfl, hm', qz⟩ := I.after hq
      obtain ⟨t, e⟩ := (show ∃ t, u = Value.int m t from rz)
      cases e
      exact ⟨m, t, rfl, hm', .int m, H', I'.tok _, ⟨_, rfl⟩, qz⟩
    | next => exact False.elim hq
    | brk => exact False.elim hq
    | cont => exact False.elim hq
end
end Ef
set_option maxHeartbeats 4000000
namespace Ef
open PySem PySem.Spec PyProof.Rows L2
open Sem (wp)
/-! ### zip of three lists -/
/-- the lists at a, b and d as they stand at each turn, the items in new triples -/
def Itz3 (K : PySem.W.Frag) (a b d : Addr) : It :=
  ⟨fun i H => ∃ (xs ys zs : List V) (x y z : V), SqL K H a xs ∧ SqL K H b ys ∧ SqL K H d zs ∧ xs[i]? = some x ∧ ys[i]? = some y ∧ zs[i]? = some z,
    fun i H v H' => ∃ T x y z, v = .ref T ∧ H T = none ∧ H' = upd H T (.tup [x, y, z]) ∧ (∀ xs, SqL K H a xs → xs[i]? = some x) ∧ (∀ ys, SqL K H b ys → ys[i]? = some y) ∧ ∀ zs, SqL K H d zs → zs[i]? = some z,
    fun i H => ∃ xs ys zs : List V, SqL K H a xs ∧ SqL K H b ys ∧ SqL K H d zs ∧ i ≤ xs.length ∧ i ≤ ys.length ∧ i ≤ zs.length ∧ (i = xs.length ∨ i = ys.length ∨ i = zs.length)⟩
/-- the cells of the zip lie apart from each other and from the lists -/
structure Apart3 (z TI TO i1 i2 i3 a b d : Addr) : Prop where
  S : ZipSep3 z TI TO i1 i2 i3 [i1, a] [i2, b] [i3, d]
  l1 : a ≠ i1
  l2 : b ≠ i2
  l3 : d ≠ i3
theorem turn_zip3 {P : Program} {w : World} {K : PySem.W.Frag} {elts : List Expr} {kk : Nat} {tpos : Pos} {a b d z TI TO i1 i2 i3 : Addr} (D : Apart3 z TI TO i1 i2 i3 a b d) :
    Turn P w K (.Tuple elts kk tpos) (Itz3 K a b d) [z, TI, TO, i1, i2, i3] z (fun i h => IsZip h z TI TO .none ∧ IsTupOf3 h TI (.ref i1) (.ref i2) (.ref i3) ∧ (∃ x y u, IsTupOf3 h TO x y u) ∧ h.IsListIter i1 a i ∧ h.IsListIter i2 b i ∧ h.IsListIter i3 d i) where
  mem := by simp
  obj := fun i h st c hc => by
    obtain ⟨hz, hTI, ⟨x, y, u, hTO⟩, ⟨o1, e1, _, d1⟩, ⟨o2, e2, _, d2⟩, ⟨o3, e3, _, d3⟩⟩ := st
    have e' : c = z ∨ c = TI ∨ c = TO ∨ c = i1 ∨ c = i2 ∨ c = i3 := by simpa using hc
    rcases e' with q | q | q | q | q | q
    · rw [q]; exact ⟨_, hz, fun v q => nomatch q⟩
    · rw [q]; exact ⟨_, hTI, fun v q => nomatch q⟩
    · rw [q]; exact ⟨_, hTO, fun v q => nomatch q⟩
    · rw [q]; exact ⟨o1, e1, fun v q => by rw [d1] at q; cases q⟩
    · rw [q]; exact ⟨o2, e2, fun v q => by rw [d2] at q; cases q⟩
    · rw [q]; exact ⟨o3, e3, fun v q => by rw [d3] at q; cases q⟩
  keep := fun i h h' st k => by
    obtain ⟨hz, hTI, ⟨x, y, u, hTO⟩, h1, h2, h3⟩ := st
    exact ⟨k z (by simp) _ hz, k TI (by simp) _ hTI, ⟨x, y, u, k TO (by simp) _ hTO⟩, h1.at fun o q => k i1 (by simp) o q, h2.at fun o q => k i2 (by simp) o q, h3.at fun o q => k i3 (by simp) o q⟩
  item := by
    intro X hP hw hK hc i pins s σ H E I hf st hg
    subst hP hw hK
    obtain ⟨hz, hTI, ⟨x0, y0, u0, hTO⟩, h1, h2, h3⟩ := st
    obtain ⟨xs, ys, zs, x, y, zz, hqx, hqy, hqz, hx, hy, hzz⟩ := hg
    obtain ⟨its, rv, p, _⟩ := I.list hqx
    obtain ⟨its2, rv2, p2, _⟩ := I.list hqy
    obtain ⟨its3, rv3, p3, _⟩ := I.list hqz
    obtain ⟨u, hu, ru⟩ := rv.get hx
    obtain ⟨u2, hu2, ru2⟩ := rv2.get hy
    obtain ⟨u3, hu3, ru3⟩ := rv3.get hzz
    have hzl : z < s.heap.objs.size := Heap.lt_size hz
    have pL1 : s.heap.IsList a its.toArray := p.isList
    have pL2 : s.heap.IsList b its2.toArray := p2.isList
    have pL3 : s.heap.IsList d its3.toArray := p3.isList
    have n1 : i < its.toArray.size := by
      have h9 := (List.getElem?_eq_some_iff.mp hu).1
      simpa using h9
    have n2 : i < its2.toArray.size := by
      have h9 := (List.getElem?_eq_some_iff.mp hu2).1
      simpa using h9
    have n3 : i < its3.toArray.size := by
      have h9 := (List.getElem?_eq_some_iff.mp hu3).1
      simpa using h9
    have hh : X.A.in1.handled = none := I.ok.hd hc
    refine wpAny_pyNext_zipD3_item D.S (Draws.list hh i1 a D.l1 its.toArray) (Draws.list hh i2 b D.l2 its2.toArray) (Draws.list hh i3 d D.l3 its3.toArray) hz hTI hTO ⟨h1, pL1⟩ ⟨h2, pL2⟩ ⟨h3, pL3⟩ n1 n2 n3 fun x1 x2 x3 h' tk e1 e2 e3 z' TO' h1' h2' h3' hT hsz hk => ?_
    have e1 : its.toArray[i]? = some x1 := e1
    have e2 : its2.toArray[i]? = some x2 := e2
    have e3 : its3.toArray[i]? = some x3 := e3
    obtain rfl : u = x1 := by
      have h9 : its[i]? = some x1 := by simpa using e1
      rw [hu] at h9
      exact Option.some.inj h9
    obtain rfl : u2 = x2 := by
      have h9 : its2[i]? = some x2 := by simpa using e2
      rw [hu2] at h9
      exact Option.some.inj h9
    obtain rfl : u3 = x3 := by
      have h9 : its3[i]? = some x3 := by simpa using e3
      rw [hu3] at h9
      exact Option.some.inj h9
    refine ⟨_, rfl, wpAny_letOwnedTupleGo_zip (s := { s with heap := h', toks := tk }) z' fun h'' z'' sb => ?_⟩
    have hT2 : h''.get? s.heap.objs.size = some { cls := .type "tuple", data := .seq #[u, u2, u3] } := (sb.2 _ (Nat.ne_of_gt hzl)).trans hT
    have new : ObjOk X.prog X.w (upd H s.heap.objs.size (.tup [x, y, zz])) h'' s.heap.objs.size (.tup [x, y, zz]) :=
      ⟨by show 3 ≤ sizeLine; decide, [u, u2, u3], .cons ru (.cons ru2 (.cons ru3 .nil)), ⟨_, hT2, rfl, _, rfl⟩⟩
    have I1 : Inv X pins σ (upd H s.heap.objs.size (.tup [x, y, zz])) { s with heap := h'', toks := tk } :=
      I.turnedNew (t' := tk) (ch := [z, TI, TO, i1, i2, i3]) (fun c o hb q => (sb.2 c (fun q' => hb (by simp [q']))).trans (hk c o (fun q' => hb (by simp [q'])) (fun q' => hb (by simp [q'])) (fun q' => hb (by simp [q'])) (fun q' => hb (by simp [q'])) (fun q' => hb (by simp [q'])) q)) hf (Nat.le_refl _) new
    refine ⟨.ref s.heap.objs.size, _, I1, rfl, ⟨_, x, y, zz, rfl, I.hok.fresh (Nat.le_refl _), rfl, fun l hl => by rw [I.list_inj hl hqx]; exact hx, fun l hl => by rw [I.list_inj hl hqy]; exact hy, fun l hl => by rw [I.list_inj hl hqz]; exact hzz⟩, ⟨z'', ?_, ⟨u, u2, u3, ?_⟩, ?_, ?_, ?_⟩, fun c hcm => ?_⟩
    · exact (sb.2 _ D.S.TIz).trans (hk _ _ D.S.TIz D.S.TITO D.S.TIi1 D.S.TIi2 D.S.TIi3 hTI)
    · exact (sb.2 _ D.S.TOz).trans TO'
    · exact h1'.1.at fun o q => (sb.2 _ D.S.zi1.symm).trans q
    · exact h2'.1.at fun o q => (sb.2 _ D.S.zi2.symm).trans q
    · exact h3'.1.at fun o q => (sb.2 _ D.S.zi3.symm).trans q
    · have hlt : c < s.heap.objs.size := by
        have e' : c = z ∨ c = TI ∨ c = TO ∨ c = i1 ∨ c = i2 ∨ c = i3 := by simpa using hcm
        rcases e' with q | q | q | q | q | q
        · rw [q]; exact hzl
        · rw [q]; exact Heap.lt_size hTI
        · rw [q]; exact Heap.lt_size hTO
        · rw [q]; obtain ⟨_, e1, _⟩ := h1; exact Heap.lt_size e1
        · rw [q]; obtain ⟨_, e2, _⟩ := h2; exact Heap.lt_size e2
        · rw [q]; obtain ⟨_, e3, _⟩ := h3; exact Heap.lt_size e3
      rw [upd_ne (Nat.ne_of_lt hlt)]
      exact (hf c hcm).1
  done := by
    intro X hP hw hK hc i pins s σ H E I hf st hg
    subst hP hw hK
    obtain ⟨hz, hTI, ⟨x0, y0, u0, hTO⟩, h1, h2, h3⟩ := st
    obtain ⟨xs, ys, zs, hqx, hqy, hqz, g1, g2, g3, hend⟩ := hg
    obtain ⟨its, rv, p, _⟩ := I.list hqx
    obtain ⟨its2, rv2, p2, _⟩ := I.list hqy
    obtain ⟨its3, rv3, p3, _⟩ := I.list hqz
    have l1 := rv.length
    have l2 := rv2.length
    have l3 := rv3.length
    have pL1 : s.heap.IsList a its.toArray := p.isList
    have pL2 : s.heap.IsList b its2.toArray := p2.isList
    have pL3 : s.heap.IsList d its3.toArray := p3.isList
    have hh : X.A.in1.handled = none := I.ok.hd hc
    have m1 : its.toArray.size = its.length := by simp
    have m2 : its2.toArray.size = its2.length := by simp
    have m3 : its3.toArray.size = its3.length := by simp
    exact wpAny_pyNext_zipD3_end D.S (Draws.list hh i1 a D.l1 its.toArray) (Draws.list hh i2 b D.l2 its2.toArray) (Draws.list hh i3 d D.l3 its3.toArray) hz hTI hTO ⟨h1, pL1⟩ ⟨h2, pL2⟩ ⟨h3, pL3⟩ (by omega) (by omega) (by omega) (by omega) fun h' tk hk => ⟨rfl, I.turnedL (t' := tk) (ch := [z, TI, TO, i1, i2, i3]) (fun c o hb q =>
      hk c o (fun q' => hb (by simp [q'])) (fun q' => hb (by simp [q'])) (fun q' => hb (by simp [q'])) (fun q' => hb (by simp [q'])) (fun q' => hb (by simp [q'])) q) hf⟩
  self := fun A i s Q E st h => wpAny_pyIter_zip st.1 h
def iZip3 (K : PySem.W.Frag) (ta : TA) : TI := fun σ H R => ta σ H fun vs H1 => ∃ a b d xs ys zs, vs = [.ref a, .ref b, .ref d] ∧ SqL K H1 a xs ∧ SqL K H1 b ys ∧ SqL K H1 d zs ∧ R (Itz3 K a b d) H1
theorem pi_zip3 {X : Cx} {e e2 e3 : Expr} {ta : TA} {p pos tpos : Pos} {elts : List Expr} {kk : Nat} (hg : Gl X "zip") (hm : X.mg "zip" = none) (ha : PA X [e, e2, e3] ta)
    (hs : starEach [e, e2, e3] X.env = (false, eval e X.env) :: starEach [e2, e3] X.env := by rfl) (hpl : (backTo pos (starEach [e2, e3] X.env)).any (·.1) = false := by rfl) :
    PI X (.Tuple elts kk tpos) (.Call (.Name "zip" p) [e, e2, e3] [] pos) (iZip3 X.K ta) := by
  refine ⟨fun pins s σ H R I h => ?_⟩
  refine Call_ (ld_blt I hg hm PyProof.Rows.boot_zip (PyProof.Rows.callWith_type1 (thn (ha.run pos pins s σ H _ I h) fun us s1 ⟨vs, H1, I1, r1, q1⟩ => ?_) hs hpl))
  obtain ⟨a, b, d, xs, ys, zs, ex, hqx, hqy, hqz, q⟩ := q1
  subst ex
  cases r1 with
  | cons r rr =>
    cases rr with
    | cons r' rr =>
      cases rr with
      | cons r'' rr =>
        cases rr
        cases r
        cases r'
        cases r''
        obtain ⟨its, rv, p1, _⟩ := I1.list hqx
        obtain ⟨its2, rv2, p2, _⟩ := I1.list hqy
        obtain ⟨its3, rv3, p3, _⟩ := I1.list hqz
        have la := p1.lt
        have lb := p2.lt
        have ld := p3.lt
        refine zip_begins3 (begins_list a its.toArray) (begins_list b its2.toArray) (begins_list d its3.toArray) p1.isList p2.isList p3.isList fun h' hz hTI hTO g1 g2 g3 hsz hk => wpAny_pyIter_zip hz ?_
        have I2 : Inv X pins σ H1 { s1 with heap := h' } := I1.kept (t' := s1.toks) hk
        refine ⟨s1.heap.objs.size + 5, [s1.heap.objs.size + 5, s1.heap.objs.size + 3, s1.heap.objs.size + 4, s1.heap.objs.size, s1.heap.objs.size + 1, s1.heap.objs.size + 2], _, _, H1, rfl, I2, turn_zip3 ⟨zip_sep3 (fp1 := [a]) (fp2 := [b]) (fp3 := [d]) (fun c hc => by rw [List.mem_singleton.mp hc]; exact la) (fun c hc => by rw [List.mem_singleton.mp hc]; exact lb) (fun c hc => by rw [List.mem_singleton.mp hc]; exact ld), Nat.ne_of_lt la, PySem.W.ktu_ne 1 lb, PySem.W.ktu_ne 2 ld⟩, ⟨hz, hTI, ⟨_, _, _, hTO⟩, ⟨_, g1, rfl, rfl⟩, ⟨_, g2, rfl, rfl⟩, ⟨_, g3, rfl, rfl⟩⟩, fun c hcm => ?_, q⟩
        have e' : c = s1.heap.objs.size + 5 ∨ c = s1.heap.objs.size + 3 ∨ c = s1.heap.objs.size + 4 ∨ c = s1.heap.objs.size ∨ c = s1.heap.objs.size + 1 ∨ c = s1.heap.objs.size + 2 := by simpa using hcm
        have hle : s1.heap.objs.size ≤ c := by
          rcases e' with z | z | z | z | z | z
          · rw [z]; exact Nat.le_add_right _ _
          · rw [z]; exact Nat.le_add_right _ _
          · rw [z]; exact Nat.le_add_right _ _
          · rw [z]; exact Nat.le_refl _
          · rw [z]; exact Nat.le_add_right _ _
          · rw [z]; exact Nat.le_add_right _ _
        exact I1.fpOk hle (I1.hok.fresh hle)
/-- a loop over zip of three lists of one length -/
theorem for_zip3 {K : PySem.W.Frag} {a b d : Addr} {xs ys zs : List V} {g : TG} {tb : TS} {D : Ends} {σ : L2.St} {H : Hp} (hl : xs.length = ys.length) (hl2 : xs.length = zs.length) (Pv : Nat → L2.St → Hp → Prop) (h0 : Pv 0 σ H) (hq : ∀ i σ H, Pv i σ H → SqL K H a xs ∧ SqL K H b ys ∧ SqL K H d zs)
    (hs : ∀ (i : Nat) (x y z : V) (T : Addr) (σ : L2.St) (H : Hp), xs[i]? = some x → ys[i]? = some y → zs[i]? = some z → Pv i σ H → H T = none → g (.ref T) σ (upd H T (.tup [x, y, z])) fun σ2 H2 => tb { D with nx := Pv (i + 1), ct := Pv (i + 1), bk := D.nx } σ2 H2) (hd : ∀ σ H, Pv xs.length σ H → D.nx σ H) :
    ∃ W : Nat → Nat → L2.St → Hp → Prop, (∃ m, W 0 m σ H) ∧ ∀ i m σ H, W i m σ H →
      ((Itz3 K a b d).stop i H ∧ D.nx σ H) ∨ ((Itz3 K a b d).go i H ∧ ∃ N : L2.St → Hp → Prop, (∀ σ' H', N σ' H' → ∃ m', m' < m ∧ W (i + 1) m' σ' H') ∧ ∀ v H', (Itz3 K a b d).yld i H v H' → g v σ H' fun σ2 H2 => tb { D with nx := N, ct := N, bk := D.nx } σ2 H2) := by
  refine ⟨fun i m σ H => m = xs.length - i ∧ i ≤ xs.length ∧ Pv i σ H, ⟨xs.length, rfl, Nat.zero_le _, h0⟩, ?_⟩
  rintro i m σ H ⟨rfl, hi, p⟩
  obtain ⟨qx, qy, qz⟩ := hq i σ H p
  by_cases hlt : i < xs.length
  · have hx : xs[i]? = some xs[i] := List.getElem?_eq_getElem hlt
    have hlt2 : i < ys.length := by omega
    have hy : ys[i]? = some ys[i] := List.getElem?_eq_getElem hlt2
    have hlt3 : i < zs.length := by omega
    have hz : zs[i]? = some zs[i] := List.getElem?_eq_getElem hlt3
    refine .inr ⟨⟨xs, ys, zs, _, _, _, qx, qy, qz, hx, hy, hz⟩, Pv (i + 1), fun σ' H' p' => ⟨xs.length - (i + 1), by omega, rfl, hlt, p'⟩, fun v H' y => ?_⟩
    obtain ⟨T, x', y', z', rfl, hT, rfl, f1, f2, f3⟩ := y
    exact hs i x' y' z' T σ H (f1 xs qx) (f2 ys qy) (f3 zs qz) p hT
  · have e : i = xs.length := by omega
    subst e
    exact .inl ⟨⟨xs, ys, zs, qx, qy, qz, Nat.le_refl _, by omega, by omega, .inl rfl⟩, hd σ H p⟩
end Ef
set_option maxHeartbeats 4000000
namespace Ef
open PySem PySem.Spec PyProof.Rows L2
/-! ### x == y, both instances of a class that answers it by a def of its own -/
section
variable {X : Cx} {CX : CXT} {C g : Addr} {fd : FuncData} {sp : Sp} {n : Nat} {E : XK} {ps : List Str}
def rEqOwn (C : Addr) (sp : Sp) (E : XK) : R2 := fun x y H Q => ∃ (a b dx dy : Addr) (fs gs : List (Str × V)), x = .ref a ∧ y = .ref b ∧ H a = some (.ins C dx fs) ∧ H b = some (.ins C dy gs) ∧ sp [.ref a, .ref b] H (fun z H' => ∃ k : Bool, z = .bl k ∧ Q (.bl k) H') E
theorem op_eqOwn (hm : Meth X.K C "__eq__" g) (F : FnOk X.prog X.w X.K X.mg X.base CX n g fd ps sp) (hb : Binds X.K fd ps []) (hr : Room n X.A) (hx : Passes CX X E) : OpR X (compareOp .Eq) (rEqOwn C sp E) := by
  intro pins s σ H x y v u Q I rx ry h
  obtain ⟨a, b, dx, dy, fs, gs, rfl, rfl, ha, hb', hsp⟩ := h
  show wpAny (model X.prog X.w) X.A (richCompare .Eq v u) (EP X pins σ Q) X.xe s
  cases (show v = Value.ref a from rx)
  cases (show u = Value.ref b from ry)
  obtain ⟨mA, J, _⟩ := ins_get I.hok ha
  obtain ⟨mB, J', _⟩ := ins_get I.hok hb'
  obtain ⟨od, J, _⟩ := J.look
  obtain ⟨od', J', _⟩ := J'.look
  obtain ⟨m, hF⟩ := I.fr
  refine PySem.W.cmp_K (op := .Eq) (tb := .ref C) hr.units0 hF I.ok.mod.kin J J'.type (by simp [PySem.W.notFirst]) hm.at_ (beq_iff_eq.mpr (beq_iff_eq.mp hm.fn)) ?_
  have e0 : Env0 X.prog X.w X.K X.mg X.base X.A X.stack s H := I.env0
  have hl := F.len _ _ _ _ hsp
  have r2 : Vals [V.ref a, V.ref b] [Value.ref a, Value.ref b] := .cons rfl (.cons rfl .nil)
  refine wpAny_call (codeAny_mono (F.run X.A X.stack s H ⟨[.ref a, .ref b], []⟩ [.ref a, .ref b] [.ref a, .ref b] _ E hr e0 (by
    have := hb s [.ref a, .ref b] I.kIn (by simpa using hl)
    simpa using this) r2 hsp) fun r s' hq => ?_)
  cases r with
  | error e => exact hx pins σ H s e s' I hq
  | ok fl =>
    cases fl with
    | ret w =>
      obtain ⟨z, H', I', rz, k, rfl, q⟩ := I.after hq
      cases rz
      exact ⟨.bl k, H', I', rfl, q⟩
    | next => exact False.elim hq
    | brk => exact False.elim hq
    | cont => exact False.elim hq
end
end Ef
namespace Ef
open PySem PySem.Spec PyProof.Rows L2
def topS (i : Nat) : Stmt := PySem.Challenge.pw_evenfailover_k88_whole_each_failure_is_s.main.body.getD i (.Pass ⟨0, 0, 0, 0⟩)
abbrev sWall : Stmt := topS 0
abbrev NWall : List Str := ["k"]
theorem scWall : FnScope ["k"] ["k"] (defScope sWall) := ⟨rfl, rfl, rfl, by decide +kernel, rfl, by decide +kernel, by decide +kernel⟩
abbrev sPlain : Stmt := topS 11
abbrev NPlain : List Str := ["thing"]
theorem scPlain : FnScope ["thing"] ["thing"] (defScope sPlain) := ⟨rfl, rfl, rfl, by decide +kernel, rfl, by decide +kernel, by decide +kernel⟩
abbrev sParts : Stmt := topS 12
abbrev NParts : List Str := ["n", "depth"]
theorem scParts : FnScope ["n", "depth"] ["n", "depth"] (defScope sParts) := ⟨rfl, rfl, rfl, by decide +kernel, rfl, by decide +kernel, by decide +kernel⟩
abbrev sPoss : Stmt := topS 13
abbrev NPoss : List Str := ["n", "depth", "count", "part"]
theorem scPoss : FnScope ["n", "depth", "count", "part"] ["n", "depth", "count"] (defScope sPoss) := ⟨rfl, rfl, rfl, by decide +kernel, rfl, by decide +kernel, by decide +kernel⟩
abbrev sReachOf : Stmt := topS 14
abbrev NReachOf : List Str := ["n", "failures", "factor"]
theorem scReachOf : FnScope ["n", "failures", "factor"] ["n", "failures", "factor"] (defScope sReachOf) := ⟨rfl, rfl, rfl, by decide +kernel, rfl, by decide +kernel, by decide +kernel⟩
abbrev sChkP : Stmt := topS 15
abbrev NChkP : List Str := ["n", "depth", "count"]
theorem scChkP : FnScope ["n", "depth", "count"] ["n", "depth", "count"] (defScope sChkP) := ⟨rfl, rfl, rfl, by decide +kernel, rfl, by decide +kernel, by decide +kernel⟩
abbrev sChkN : Stmt := topS 16
abbrev NChkN : List Str := ["value", "many"]
theorem scChkN : FnScope ["value", "many"] ["value", "many"] (defScope sChkN) := ⟨rfl, rfl, rfl, by decide +kernel, rfl, by decide +kernel, by decide +kernel⟩
abbrev sShared : Stmt := topS 18
abbrev NShared : List Str := ["total", "parts"]
theorem scShared : FnScope ["total", "parts"] ["total", "parts"] (defScope sShared) := ⟨rfl, rfl, rfl, by decide +kernel, rfl, by decide +kernel, by decide +kernel⟩
abbrev sHbSrv : Stmt := topS 19
abbrev NHbSrv : List Str := ["n", "count", "alive", "factor"]
theorem scHbSrv : FnScope ["n", "count", "alive", "factor"] ["n", "count", "alive", "factor"] (defScope sHbSrv) := ⟨rfl, rfl, rfl, by decide +kernel, rfl, by decide +kernel, by decide +kernel⟩
abbrev sWid : Stmt := topS 21
abbrev NWid : List Str := ["n", "depth", "count", "widths", "edges", "size"]
theorem scWid : FnScope ["n", "depth", "count", "widths", "edges", "size"] ["n", "depth", "count"] (defScope sWid) := ⟨rfl, rfl, rfl, by decide +kernel, rfl, by decide +kernel, by decide +kernel⟩
abbrev sFollow : Stmt := topS 22
abbrev NFollow : List Str := ["widths", "servers", "rest", "left", "taken", "width", "index", "server"]
theorem scFollow : FnScope ["widths", "servers", "rest", "left", "taken", "width", "index", "server"] ["widths", "servers", "rest"] (defScope sFollow) := ⟨rfl, rfl, rfl, by decide +kernel, rfl, by decide +kernel, by decide +kernel⟩
abbrev sPath : Stmt := topS 23
abbrev NPath : List Str := ["n", "depth", "count", "number"]
theorem scPath : FnScope ["n", "depth", "count", "number"] ["n", "depth", "count", "number"] (defScope sPath) := ⟨rfl, rfl, rfl, by decide +kernel, rfl, by decide +kernel, by decide +kernel⟩
abbrev sJoined : Stmt := topS 25
abbrev NJoined : List Str := ["members", "server"]
theorem scJoined : FnScope ["members", "server"] ["members", "server"] (defScope sJoined) := ⟨rfl, rfl, rfl, by decide +kernel, rfl, by decide +kernel, by decide +kernel⟩
abbrev sHold : Stmt := topS 27
abbrev NHold : List Str := ["order", "live", "factor", "wanted", "found", "server"]
theorem scHold : FnScope ["order", "live", "factor", "wanted", "found", "server"] ["order", "live", "factor"] (defScope sHold) := ⟨rfl, rfl, rfl, by decide +kernel, rfl, by decide +kernel, by decide +kernel⟩
abbrev sSucc : Stmt := topS 29
abbrev NSucc : List Str := ["order", "live", "factor", "failed", "found"]
theorem scSucc : FnScope ["order", "live", "factor", "failed", "found"] ["order", "live", "factor", "failed"] (defScope sSucc) := ⟨rfl, rfl, rfl, by decide +kernel, rfl, by decide +kernel, by decide +kernel⟩
abbrev sChkF : Stmt := topS 34
abbrev NChkF : List Str := ["field", "value", "least", "most"]
theorem scChkF : FnScope ["field", "value", "least", "most"] ["field", "value", "least", "most"] (defScope sChkF) := ⟨rfl, rfl, rfl, by decide +kernel, rfl, by decide +kernel, by decide +kernel⟩
abbrev sStream : Stmt := topS 37
abbrev NStream : List Str := ["_law_script", "_law_k", "_law_cell", "_law_own"]
theorem scStream : FnScope ["_law_script", "_law_k", "_law_cell", "_law_own"] ["_law_script", "_law_k"] (defScope sStream) := ⟨rfl, rfl, rfl, by decide +kernel, rfl, by decide +kernel, by decide +kernel⟩
abbrev sDraw : Stmt := topS 38
abbrev NDraw : List Str := ["_law_stream_here", "_law_below", "_law_digit"]
theorem scDraw : FnScope ["_law_stream_here", "_law_below", "_law_digit"] ["_law_stream_here", "_law_below"] (defScope sDraw) := ⟨rfl, rfl, rfl, by decide +kernel, rfl, by decide +kernel, by decide +kernel⟩
abbrev sShuffd : Stmt := topS 39
abbrev NShuffd : List Str := ["_law_stream_here", "_law_items", "_law_left", "_law_found"]
theorem scShuffd : FnScope ["_law_stream_here", "_law_items", "_law_left", "_law_found"] ["_law_stream_here", "_law_items"] (defScope sShuffd) := ⟨rfl, rfl, rfl, by decide +kernel, rfl, by decide +kernel, by decide +kernel⟩
abbrev sComb : Stmt := topS 40
abbrev NComb : List Str := ["_law_n", "_law_k", "_law_found", "_law_step"]
theorem scComb : FnScope ["_law_n", "_law_k", "_law_found", "_law_step"] ["_law_n", "_law_k"] (defScope sComb) := ⟨rfl, rfl, rfl, by decide +kernel, rfl, by decide +kernel, by decide +kernel⟩
abbrev sGcdS : Stmt := topS 41
abbrev NGcdS : List Str := ["_law_a", "_law_b"]
theorem scGcdS : FnScope ["_law_a", "_law_b"] ["_law_a", "_law_b"] (defScope sGcdS) := ⟨rfl, rfl, rfl, by decide +kernel, rfl, by decide +kernel, by decide +kernel⟩
abbrev sLeastS : Stmt := topS 42
abbrev NLeastS : List Str := ["_law_n", "_law_depth", "_law_found", "_law_size", "_law_part"]
theorem scLeastS : FnScope ["_law_n", "_law_depth", "_law_found", "_law_size", "_law_part"] ["_law_n", "_law_depth"] (defScope sLeastS) := ⟨rfl, rfl, rfl, by decide +kernel, rfl, by decide +kernel, by decide +kernel⟩
abbrev sAll88 : Stmt := topS 43
abbrev NAll88 : List Str := ["_law_cluster", "_law_total", "_law_number"]
theorem scAll88 : FnScope ["_law_cluster", "_law_total", "_law_number"] ["_law_cluster", "_law_total"] (defScope sAll88) := ⟨rfl, rfl, rfl, by decide +kernel, rfl, by decide +kernel, by decide +kernel⟩
abbrev sRecd88 : Stmt := topS 44
abbrev NRecd88 : List Str := ["_law_before", "_law_after", "_law_many", "_law_one", "_law_other", "_law_server"]
theorem scRecd88 : FnScope ["_law_before", "_law_after", "_law_many", "_law_one", "_law_other", "_law_server"] ["_law_before", "_law_after"] (defScope sRecd88) := ⟨rfl, rfl, rfl, by decide +kernel, rfl, by decide +kernel, by decide +kernel⟩
abbrev sFails88 : Stmt := topS 45
abbrev NFails88 : List Str := ["_law_cluster", "_law_sizes", "_law_server", "_law_n", "_law_down", "_law_copies_of", "_law_total", "_law_up", "_law_before", "_law_heard", "_law_number", "_law_told", "_law_after", "_law_one", "_law_other", "_law_new", "_law_kept", "_law_holder", "_law_many", "_law_share", "_law_others"]
theorem scFails88 : FnScope ["_law_cluster", "_law_sizes", "_law_server", "_law_n", "_law_down", "_law_copies_of", "_law_total", "_law_up", "_law_before", "_law_heard", "_law_number", "_law_told", "_law_after", "_law_one", "_law_other", "_law_new", "_law_kept", "_law_holder", "_law_many", "_law_share", "_law_others"] ["_law_cluster", "_law_sizes", "_law_server"] (defScope sFails88) := ⟨rfl, rfl, rfl, by decide +kernel, rfl, by decide +kernel, by decide +kernel⟩
abbrev sRecov88 : Stmt := topS 46
abbrev NRecov88 : List Str := ["_law_cluster", "_law_sizes", "_law_server", "_law_n", "_law_down", "_law_copies_of", "_law_total", "_law_before", "_law_told", "_law_after", "_law_up", "_law_lost", "_law_share", "_law_holder"]
theorem scRecov88 : FnScope ["_law_cluster", "_law_sizes", "_law_server", "_law_n", "_law_down", "_law_copies_of", "_law_total", "_law_before", "_law_told", "_law_after", "_law_up", "_law_lost", "_law_share", "_law_holder"] ["_law_cluster", "_law_sizes", "_law_server"] (defScope sRecov88) := ⟨rfl, rfl, rfl, by decide +kernel, rfl, by decide +kernel, by decide +kernel⟩
abbrev sLaw : Stmt := topS 47
abbrev NLaw : List Str := ["_law_script", "_law_k", "_law_stream_here", "_law_n", "_law_down", "_law_copies_of", "_law_sizes", "_law_cluster", "_law_gone", "_law_server", "_law_loads_of"]
theorem scLaw : FnScope ["_law_script", "_law_k", "_law_stream_here", "_law_n", "_law_down", "_law_copies_of", "_law_sizes", "_law_cluster", "_law_gone", "_law_server", "_law_loads_of"] ["_law_script"] (defScope sLaw) := ⟨rfl, rfl, rfl, by decide +kernel, rfl, by decide +kernel, by decide +kernel⟩
abbrev sCluInit : Stmt := inClass (topS 35) 0
abbrev NCluInit : List Str := ["self", "n", "failures", "factor", "count"]
theorem scCluInit : FnScope ["self", "n", "failures", "factor", "count"] ["self", "n", "failures", "factor", "count"] (defScope sCluInit) := ⟨rfl, rfl, rfl, by decide +kernel, rfl, by decide +kernel, by decide +kernel⟩
abbrev sCluLive : Stmt := inClass (topS 35) 1
abbrev NCluLive : List Str := ["self"]
theorem scCluLive : FnScope ["self"] ["self"] (defScope sCluLive) := ⟨rfl, rfl, rfl, by decide +kernel, rfl, by decide +kernel, by decide +kernel⟩
abbrev sCluListOf : Stmt := inClass (topS 35) 2
abbrev NCluListOf : List Str := ["self", "shard", "depth", "order", "rest"]
theorem scCluListOf : FnScope ["self", "shard", "depth", "order", "rest"] ["self", "shard"] (defScope sCluListOf) := ⟨rfl, rfl, rfl, by decide +kernel, rfl, by decide +kernel, by decide +kernel⟩
abbrev sCluOwners : Stmt := inClass (topS 35) 3
abbrev NCluOwners : List Str := ["self", "shard"]
theorem scCluOwners : FnScope ["self", "shard"] ["self", "shard"] (defScope sCluOwners) := ⟨rfl, rfl, rfl, by decide +kernel, rfl, by decide +kernel, by decide +kernel⟩
abbrev sCluLoad : Stmt := inClass (topS 35) 4
abbrev NCluLoad : List Str := ["self", "server", "alive"]
theorem scCluLoad : FnScope ["self", "server", "alive"] ["self", "server"] (defScope sCluLoad) := ⟨rfl, rfl, rfl, by decide +kernel, rfl, by decide +kernel, by decide +kernel⟩
abbrev sCluSuccessor : Stmt := inClass (topS 35) 5
abbrev NCluSuccessor : List Str := ["self", "shard", "server", "order"]
theorem scCluSuccessor : FnScope ["self", "shard", "server", "order"] ["self", "shard", "server"] (defScope sCluSuccessor) := ⟨rfl, rfl, rfl, by decide +kernel, rfl, by decide +kernel, by decide +kernel⟩
abbrev sCluFail : Stmt := inClass (topS 35) 6
abbrev NCluFail : List Str := ["self", "server", "copied"]
theorem scCluFail : FnScope ["self", "server", "copied"] ["self", "server"] (defScope sCluFail) := ⟨rfl, rfl, rfl, by decide +kernel, rfl, by decide +kernel, by decide +kernel⟩
abbrev sCluRecover : Stmt := inClass (topS 35) 7
abbrev NCluRecover : List Str := ["self", "server", "copied"]
theorem scCluRecover : FnScope ["self", "server", "copied"] ["self", "server"] (defScope sCluRecover) := ⟨rfl, rfl, rfl, by decide +kernel, rfl, by decide +kernel, by decide +kernel⟩
abbrev sCluCopied : Stmt := inClass (topS 35) 8
abbrev NCluCopied : List Str := ["self"]
theorem scCluCopied : FnScope ["self"] ["self"] (defScope sCluCopied) := ⟨rfl, rfl, rfl, by decide +kernel, rfl, by decide +kernel, by decide +kernel⟩
abbrev sCluChanges : Stmt := inClass (topS 35) 9
abbrev NCluChanges : List Str := ["self"]
theorem scCluChanges : FnScope ["self"] ["self"] (defScope sCluChanges) := ⟨rfl, rfl, rfl, by decide +kernel, rfl, by decide +kernel, by decide +kernel⟩
abbrev sCluCopy : Stmt := inClass (topS 35) 11
abbrev NCluCopy : List Str := ["self", "other"]
theorem scCluCopy : FnScope ["self", "other"] ["self"] (defScope sCluCopy) := ⟨rfl, rfl, rfl, by decide +kernel, rfl, by decide +kernel, by decide +kernel⟩
abbrev sCluTurn : Stmt := inClass (topS 35) 12
abbrev NCluTurn : List Str := ["self", "server", "other"]
theorem scCluTurn : FnScope ["self", "server", "other"] ["self", "server"] (defScope sCluTurn) := ⟨rfl, rfl, rfl, by decide +kernel, rfl, by decide +kernel, by decide +kernel⟩
abbrev sCluCheckLive : Stmt := inClass (topS 35) 13
abbrev NCluCheckLive : List Str := ["self", "value"]
theorem scCluCheckLive : FnScope ["self", "value"] ["self", "value"] (defScope sCluCheckLive) := ⟨rfl, rfl, rfl, by decide +kernel, rfl, by decide +kernel, by decide +kernel⟩
abbrev sCluCheckCanFail : Stmt := inClass (topS 35) 14
abbrev NCluCheckCanFail : List Str := ["self", "value"]
theorem scCluCheckCanFail : FnScope ["self", "value"] ["self", "value"] (defScope sCluCheckCanFail) := ⟨rfl, rfl, rfl, by decide +kernel, rfl, by decide +kernel, by decide +kernel⟩
abbrev sCluEq : Stmt := inClass (topS 35) 15
abbrev NCluEq : List Str := ["self", "other"]
theorem scCluEq : FnScope ["self", "other"] ["self", "other"] (defScope sCluEq) := ⟨rfl, rfl, rfl, by decide +kernel, rfl, by decide +kernel, by decide +kernel⟩
abbrev sCluLen : Stmt := inClass (topS 35) 16
abbrev NCluLen : List Str := ["self"]
theorem scCluLen : FnScope ["self"] ["self"] (defScope sCluLen) := ⟨rfl, rfl, rfl, by decide +kernel, rfl, by decide +kernel, by decide +kernel⟩
abbrev sNoN : Stmt := inClass (topS 3) 0
theorem scNoN : FnScope ["self", "value"] ["self", "value"] (defScope sNoN) := ⟨rfl, rfl, rfl, by decide +kernel, rfl, by decide +kernel, by decide +kernel⟩
abbrev sNotP : Stmt := inClass (topS 4) 0
theorem scNotP : FnScope ["self", "count"] ["self", "count"] (defScope sNotP) := ⟨rfl, rfl, rfl, by decide +kernel, rfl, by decide +kernel, by decide +kernel⟩
abbrev sTooS : Stmt := inClass (topS 5) 0
theorem scTooS : FnScope ["self", "order"] ["self", "order"] (defScope sTooS) := ⟨rfl, rfl, rfl, by decide +kernel, rfl, by decide +kernel, by decide +kernel⟩
abbrev sNoC : Stmt := inClass (topS 6) 0
theorem scNoC : FnScope ["self", "field"] ["self", "field"] (defScope sNoC) := ⟨rfl, rfl, rfl, by decide +kernel, rfl, by decide +kernel, by decide +kernel⟩
abbrev sNotL : Stmt := inClass (topS 7) 0
theorem scNotL : FnScope ["self", "value"] ["self", "value"] (defScope sNotL) := ⟨rfl, rfl, rfl, by decide +kernel, rfl, by decide +kernel, by decide +kernel⟩
abbrev sNotD : Stmt := inClass (topS 8) 0
theorem scNotD : FnScope ["self", "value"] ["self", "value"] (defScope sNotD) := ⟨rfl, rfl, rfl, by decide +kernel, rfl, by decide +kernel, by decide +kernel⟩
abbrev sTooF : Stmt := inClass (topS 9) 0
theorem scTooF : FnScope ["self", "alive"] ["self", "alive"] (defScope sTooF) := ⟨rfl, rfl, rfl, by decide +kernel, rfl, by decide +kernel, by decide +kernel⟩
/-- what stands behind the top: each def, how it binds, and that the built-ins' names are free -/
structure Txt (K : PySem.W.Frag) (mg : Str → Option Value) where
  fWall : Addr
  fdWall : FuncData
  FWall : Fun K "_wall" "_wall" sWall fWall fdWall
  bWall : Binds K fdWall ["k"] []
  gWall : mg "_wall" = some (.ref fWall)
  fPlain : Addr
  fdPlain : FuncData
  FPlain : Fun K "is_plain_int" "is_plain_int" sPlain fPlain fdPlain
  bPlain : Binds K fdPlain ["thing"] []
  gPlain : mg "is_plain_int" = some (.ref fPlain)
  fParts : Addr
  fdParts : FuncData
  FParts : Fun K "level_parts" "level_parts" sParts fParts fdParts
  bParts : Binds K fdParts ["n", "depth"] []
  gParts : mg "level_parts" = some (.ref fParts)
  fPoss : Addr
  fdPoss : FuncData
  FPoss : Fun K "is_possible" "is_possible" sPoss fPoss fdPoss
  bPoss : Binds K fdPoss ["n", "depth", "count"] []
  gPoss : mg "is_possible" = some (.ref fPoss)
  fReachOf : Addr
  fdReachOf : FuncData
  FReachOf : Fun K "reach_of" "reach_of" sReachOf fReachOf fdReachOf
  bReachOf : Binds K fdReachOf ["n", "failures", "factor"] []
  gReachOf : mg "reach_of" = some (.ref fReachOf)
  fChkP : Addr
  fdChkP : FuncData
  FChkP : Fun K "check_possible" "check_possible" sChkP fChkP fdChkP
  bChkP : Binds K fdChkP ["n", "depth", "count"] []
  gChkP : mg "check_possible" = some (.ref fChkP)
  fChkN : Addr
  fdChkN : FuncData
  FChkN : Fun K "check_number" "check_number" sChkN fChkN fdChkN
  bChkN : Binds K fdChkN ["value", "many"] []
  gChkN : mg "check_number" = some (.ref fChkN)
  fShared : Addr
  fdShared : FuncData
  FShared : Fun K "shared" "shared" sShared fShared fdShared
  bShared : Binds K fdShared ["total", "parts"] []
  gShared : mg "shared" = some (.ref fShared)
  fHbSrv : Addr
  fdHbSrv : FuncData
  FHbSrv : Fun K "held_by_server" "held_by_server" sHbSrv fHbSrv fdHbSrv
  bHbSrv : Binds K fdHbSrv ["n", "count", "alive", "factor"] []
  gHbSrv : mg "held_by_server" = some (.ref fHbSrv)
  fWid : Addr
  fdWid : FuncData
  FWid : Fun K "level_widths" "level_widths" sWid fWid fdWid
  bWid : Binds K fdWid ["n", "depth", "count"] []
  gWid : mg "level_widths" = some (.ref fWid)
  fFollow : Addr
  fdFollow : FuncData
  FFollow : Fun K "follow" "follow" sFollow fFollow fdFollow
  bFollow : Binds K fdFollow ["widths", "servers", "rest"] []
  gFollow : mg "follow" = some (.ref fFollow)
  fPath : Addr
  fdPath : FuncData
  FPath : Fun K "path" "path" sPath fPath fdPath
  bPath : Binds K fdPath ["n", "depth", "count", "number"] []
  gPath : mg "path" = some (.ref fPath)
  fJoined : Addr
  fdJoined : FuncData
  FJoined : Fun K "joined" "joined" sJoined fJoined fdJoined
  bJoined : Binds K fdJoined ["members", "server"] []
  gJoined : mg "joined" = some (.ref fJoined)
  fHold : Addr
  fdHold : FuncData
  FHold : Fun K "holders" "holders" sHold fHold fdHold
  bHold : Binds K fdHold ["order", "live", "factor"] []
  gHold : mg "holders" = some (.ref fHold)
  fSucc : Addr
  fdSucc : FuncData
  FSucc : Fun K "successor" "successor" sSucc fSucc fdSucc
  bSucc : Binds K fdSucc ["order", "live", "factor", "failed"] []
  gSucc : mg "successor" = some (.ref fSucc)
  fChkF : Addr
  fdChkF : FuncData
  FChkF : Fun K "check_field" "check_field" sChkF fChkF fdChkF
  bChkF : Binds K fdChkF ["field", "value", "least", "most"] []
  gChkF : mg "check_field" = some (.ref fChkF)
  fStream : Addr
  fdStream : FuncData
  FStream : Fun K "_law_stream" "_law_stream" sStream fStream fdStream
  bStream : Binds K fdStream ["_law_script", "_law_k"] []
  gStream : mg "_law_stream" = some (.ref fStream)
  fDraw : Addr
  fdDraw : FuncData
  FDraw : Fun K "_law_draw" "_law_draw" sDraw fDraw fdDraw
  bDraw : Binds K fdDraw ["_law_stream_here", "_law_below"] []
  gDraw : mg "_law_draw" = some (.ref fDraw)
  fShuffd : Addr
  fdShuffd : FuncData
  FShuffd : Fun K "_law_shuffled" "_law_shuffled" sShuffd fShuffd fdShuffd
  bShuffd : Binds K fdShuffd ["_law_stream_here", "_law_items"] []
  gShuffd : mg "_law_shuffled" = some (.ref fShuffd)
  fComb : Addr
  fdComb : FuncData
  FComb : Fun K "_law_comb" "_law_comb" sComb fComb fdComb
  bComb : Binds K fdComb ["_law_n", "_law_k"] []
  gComb : mg "_law_comb" = some (.ref fComb)
  fGcdS : Addr
  fdGcdS : FuncData
  FGcdS : Fun K "_law_gcd" "_law_gcd" sGcdS fGcdS fdGcdS
  bGcdS : Binds K fdGcdS ["_law_a", "_law_b"] []
  gGcdS : mg "_law_gcd" = some (.ref fGcdS)
  fLeastS : Addr
  fdLeastS : FuncData
  FLeastS : Fun K "_law_least" "_law_least" sLeastS fLeastS fdLeastS
  bLeastS : Binds K fdLeastS ["_law_n", "_law_depth"] []
  gLeastS : mg "_law_least" = some (.ref fLeastS)
  fAll88 : Addr
  fdAll88 : FuncData
  FAll88 : Fun K "_law_all" "_law_all" sAll88 fAll88 fdAll88
  bAll88 : Binds K fdAll88 ["_law_cluster", "_law_total"] []
  gAll88 : mg "_law_all" = some (.ref fAll88)
  fRecd88 : Addr
  fdRecd88 : FuncData
  FRecd88 : Fun K "_law_received" "_law_received" sRecd88 fRecd88 fdRecd88
  bRecd88 : Binds K fdRecd88 ["_law_before", "_law_after"] []
  gRecd88 : mg "_law_received" = some (.ref fRecd88)
  fFails88 : Addr
  fdFails88 : FuncData
  FFails88 : Fun K "_law_fails" "_law_fails" sFails88 fFails88 fdFails88
  bFails88 : Binds K fdFails88 ["_law_cluster", "_law_sizes", "_law_server"] []
  gFails88 : mg "_law_fails" = some (.ref fFails88)
  fRecov88 : Addr
  fdRecov88 : FuncData
  FRecov88 : Fun K "_law_recovers" "_law_recovers" sRecov88 fRecov88 fdRecov88
  bRecov88 : Binds K fdRecov88 ["_law_cluster", "_law_sizes", "_law_server"] []
  gRecov88 : mg "_law_recovers" = some (.ref fRecov88)
  cBase : Addr
  gcBase : mg "FailoverError" = some (.ref cBase)
  btBase : BaseT K cBase
  cNoN : Addr
  gcNoN : mg "NoNumber" = some (.ref cNoN)
  fNoN : Addr
  fdNoN : FuncData
  FNoN : Fun K "__init__" "NoNumber.__init__" sNoN fNoN fdNoN
  bNoN : Binds K fdNoN ["self", "value"] []
  eNoN : ErrT K cNoN fNoN "value" cBase
  cNotP : Addr
  gcNotP : mg "NotPossible" = some (.ref cNotP)
  fNotP : Addr
  fdNotP : FuncData
  FNotP : Fun K "__init__" "NotPossible.__init__" sNotP fNotP fdNotP
  bNotP : Binds K fdNotP ["self", "count"] []
  eNotP : ErrT K cNotP fNotP "count" cBase
  cTooS : Addr
  gcTooS : mg "TooShort" = some (.ref cTooS)
  fTooS : Addr
  fdTooS : FuncData
  FTooS : Fun K "__init__" "TooShort.__init__" sTooS fTooS fdTooS
  bTooS : Binds K fdTooS ["self", "order"] []
  eTooS : ErrT K cTooS fTooS "order" cBase
  cNoC : Addr
  gcNoC : mg "NoCluster" = some (.ref cNoC)
  fNoC : Addr
  fdNoC : FuncData
  FNoC : Fun K "__init__" "NoCluster.__init__" sNoC fNoC fdNoC
  bNoC : Binds K fdNoC ["self", "field"] []
  eNoC : ErrT K cNoC fNoC "field" cBase
  cNotL : Addr
  gcNotL : mg "NotLive" = some (.ref cNotL)
  fNotL : Addr
  fdNotL : FuncData
  FNotL : Fun K "__init__" "NotLive.__init__" sNotL fNotL fdNotL
  bNotL : Binds K fdNotL ["self", "value"] []
  eNotL : ErrT K cNotL fNotL "value" cBase
  cNotD : Addr
  gcNotD : mg "NotDead" = some (.ref cNotD)
  fNotD : Addr
  fdNotD : FuncData
  FNotD : Fun K "__init__" "NotDead.__init__" sNotD fNotD fdNotD
  bNotD : Binds K fdNotD ["self", "value"] []
  eNotD : ErrT K cNotD fNotD "value" cBase
  cTooF : Addr
  gcTooF : mg "TooFew" = some (.ref cTooF)
  fTooF : Addr
  fdTooF : FuncData
  FTooF : Fun K "__init__" "TooFew.__init__" sTooF fTooF fdTooF
  bTooF : Binds K fdTooF ["self", "alive"] []
  eTooF : ErrT K cTooF fTooF "alive" cBase
  ga_successor_failures : mg "successor_failures" = some (.ref fSucc)
  cClu : Addr
  gcClu : mg "Cluster" = some (.ref cClu)
  clClu : Cls K cClu
  naClu_n : NoAttr K cClu "n"
  naClu_failures : NoAttr K cClu "failures"
  naClu_factor : NoAttr K cClu "factor"
  naClu_count : NoAttr K cClu "count"
  naClu_living : NoAttr K cClu "living"
  naClu_past : NoAttr K cClu "past"
  fCluInit : Addr
  fdCluInit : FuncData
  FCluInit : Fun K "__init__" "Cluster.__init__" sCluInit fCluInit fdCluInit
  bCluInit : Binds K fdCluInit ["self", "n", "failures", "factor", "count"] []
  mtCluInit : Meth K cClu "__init__" fCluInit
  mkClu : Mk K cClu fCluInit
  fCluLive : Addr
  fdCluLive : FuncData
  FCluLive : Fun K "live" "Cluster.live" sCluLive fCluLive fdCluLive
  bCluLive : Binds K fdCluLive ["self"] []
  mtCluLive : Meth K cClu "live" fCluLive
  fCluListOf : Addr
  fdCluListOf : FuncData
  FCluListOf : Fun K "list_of" "Cluster.list_of" sCluListOf fCluListOf fdCluListOf
  bCluListOf : Binds K fdCluListOf ["self", "shard"] []
  mtCluListOf : Meth K cClu "list_of" fCluListOf
  fCluOwners : Addr
  fdCluOwners : FuncData
  FCluOwners : Fun K "owners" "Cluster.owners" sCluOwners fCluOwners fdCluOwners
  bCluOwners : Binds K fdCluOwners ["self", "shard"] []
  mtCluOwners : Meth K cClu "owners" fCluOwners
  fCluLoad : Addr
  fdCluLoad : FuncData
  FCluLoad : Fun K "load" "Cluster.load" sCluLoad fCluLoad fdCluLoad
  bCluLoad : Binds K fdCluLoad ["self", "server"] []
  mtCluLoad : Meth K cClu "load" fCluLoad
  fCluSuccessor : Addr
  fdCluSuccessor : FuncData
  FCluSuccessor : Fun K "successor" "Cluster.successor" sCluSuccessor fCluSuccessor fdCluSuccessor
  bCluSuccessor : Binds K fdCluSuccessor ["self", "shard", "server"] []
  mtCluSuccessor : Meth K cClu "successor" fCluSuccessor
  fCluFail : Addr
  fdCluFail : FuncData
  FCluFail : Fun K "fail" "Cluster.fail" sCluFail fCluFail fdCluFail
  bCluFail : Binds K fdCluFail ["self", "server"] []
  mtCluFail : Meth K cClu "fail" fCluFail
  fCluRecover : Addr
  fdCluRecover : FuncData
  FCluRecover : Fun K "recover" "Cluster.recover" sCluRecover fCluRecover fdCluRecover
  bCluRecover : Binds K fdCluRecover ["self", "server"] []
  mtCluRecover : Meth K cClu "recover" fCluRecover
  fCluCopied : Addr
  fdCluCopied : FuncData
  FCluCopied : Fun K "copied" "Cluster.copied" sCluCopied fCluCopied fdCluCopied
  bCluCopied : Binds K fdCluCopied ["self"] []
  mtCluCopied : Meth K cClu "copied" fCluCopied
  fCluChanges : Addr
  fdCluChanges : FuncData
  FCluChanges : Fun K "changes" "Cluster.changes" sCluChanges fCluChanges fdCluChanges
  bCluChanges : Binds K fdCluChanges ["self"] []
  mtCluChanges : Meth K cClu "changes" fCluChanges
  fCluCopy : Addr
  fdCluCopy : FuncData
  FCluCopy : Fun K "copy" "Cluster.copy" sCluCopy fCluCopy fdCluCopy
  bCluCopy : Binds K fdCluCopy ["self"] []
  mtCluCopy : Meth K cClu "copy" fCluCopy
  fCluTurn : Addr
  fdCluTurn : FuncData
  FCluTurn : Fun K "turn" "Cluster.turn" sCluTurn fCluTurn fdCluTurn
  bCluTurn : Binds K fdCluTurn ["self", "server"] []
  mtCluTurn : Meth K cClu "turn" fCluTurn
  fCluCheckLive : Addr
  fdCluCheckLive : FuncData
  FCluCheckLive : Fun K "check_live" "Cluster.check_live" sCluCheckLive fCluCheckLive fdCluCheckLive
  bCluCheckLive : Binds K fdCluCheckLive ["self", "value"] []
  mtCluCheckLive : Meth K cClu "check_live" fCluCheckLive
  fCluCheckCanFail : Addr
  fdCluCheckCanFail : FuncData
  FCluCheckCanFail : Fun K "check_can_fail" "Cluster.check_can_fail" sCluCheckCanFail fCluCheckCanFail fdCluCheckCanFail
  bCluCheckCanFail : Binds K fdCluCheckCanFail ["self", "value"] []
  mtCluCheckCanFail : Meth K cClu "check_can_fail" fCluCheckCanFail
  fCluEq : Addr
  fdCluEq : FuncData
  FCluEq : Fun K "__eq__" "Cluster.__eq__" sCluEq fCluEq fdCluEq
  bCluEq : Binds K fdCluEq ["self", "other"] []
  mtCluEq : Meth K cClu "__eq__" fCluEq
  fCluLen : Addr
  fdCluLen : FuncData
  FCluLen : Fun K "__len__" "Cluster.__len__" sCluLen fCluLen fdCluLen
  bCluLen : Binds K fdCluLen ["self"] []
  mtCluLen : Meth K cClu "__len__" fCluLen
  kitDig : PySem.W.nsIn K cStatics "sys.int_max_str_digits" = some none
  kCluA : PySem.W.findIn K (.ref cClu) "__class__" = some (some (.builtin "object.__class__"))
  kCluB : PySem.W.specialIn K (.builtin "object.__class__") "__get__" = some (some (.builtin "getset_descriptor.__get__"))
  kCluC : PySem.W.takesIn K (.builtin "object.__class__") = some true
  kCluD : PySem.W.mroIn K cClu (.type "object") = some true
  kCluE : PySem.W.kitOne K (.ref cClu) (.ref cClu) = some true
  tLEAST_SERVERS : Tok
  gLEAST_SERVERS : mg "LEAST_SERVERS" = some (.int 2 tLEAST_SERVERS)
  tMOST_SERVERS : Tok
  gMOST_SERVERS : mg "MOST_SERVERS" = some (.int 60 tMOST_SERVERS)
  n_ValueError : mg "ValueError" = none
  n_abs : mg "abs" = none
  n_all : mg "all" = none
  n_bool : mg "bool" = none
  n_dict : mg "dict" = none
  n_int : mg "int" = none
  n_isinstance : mg "isinstance" = none
  n_len : mg "len" = none
  n_list : mg "list" = none
  n_max : mg "max" = none
  n_min : mg "min" = none
  n_range : mg "range" = none
  n_set : mg "set" = none
  n_sorted : mg "sorted" = none
  n_tuple : mg "tuple" = none
  n_zip : mg "zip" = none
/-! ### is_plain_int -/
def tyNames : List String := ["NoneType", "bool", "int", "str", "list", "tuple", "dict"]
def spPlain (K : PySem.W.Frag) : Sp := fun vs H Q _ => ∃ (v : V) (t : String), vs = [v] ∧ TyX K H v (.type t) ∧ t ∈ tyNames ∧ Q (.bl (t == "int")) H
theorem ty_cases {t : String} (h : t ∈ tyNames) : t = "NoneType" ∨ t = "bool" ∨ t = "int" ∨ t = "str" ∨ t = "list" ∨ t = "tuple" ∨ t = "dict" := by
  unfold tyNames at h
  simp only [List.mem_cons, List.not_mem_nil, or_false] at h
  exact h
theorem kit_int {K : PySem.W.Frag} {t : String} (h : t ∈ tyNames) : PySem.W.kitOne K (.type t) (.type "int") = some (t == "int" || t == "bool") := by
  rcases ty_cases h with rfl | rfl | rfl | rfl | rfl | rfl | rfl <;> exact kit_ty (by decide +kernel)
theorem kit_bool {K : PySem.W.Frag} {t : String} (h : t ∈ tyNames) : PySem.W.kitOne K (.type t) (.type "bool") = some (t == "bool") := by
  rcases ty_cases h with rfl | rfl | rfl | rfl | rfl | rfl | rfl <;> exact kit_ty (by decide +kernel)
theorem kit_tuple {K : PySem.W.Frag} {t : String} (h : t ∈ tyNames) : PySem.W.kitOne K (.type t) (.type "tuple") = some (t == "tuple") := by
  rcases ty_cases h with rfl | rfl | rfl | rfl | rfl | rfl | rfl <;> exact kit_ty (by decide +kernel)
section
variable {P : Program} {w : World} {K : PySem.W.Frag} {mg : Str → Option Value} {base : Heap}
theorem ok_plain (T : Txt K mg) {j : Nat} : FnOk P w K mg base CX0 (j + 1) T.fPlain T.fdPlain ["thing"] (spPlain K) := by
  refine T.FPlain.ok scPlain (fun vs H Q E h => ?_) (fun cdv A outer s H vs Q E hr h => ?_)
  · obtain ⟨v, t, rfl, _⟩ := h
    rfl
  · obtain ⟨v, t, rfl, ty, ht, q⟩ := h
    refine ⟨_, pss_one (ps_ret (pe_and (pe_callB call_isi (by rfl) T.n_isinstance (by decide +kernel) (pa_cons (pv 0) (pa_cons (pe_bltn (v := .ty "int") (by rfl) T.n_int (by decide +kernel) rfl) pa_nil)))
      (pe_one (pe_not (pe_callB call_isi (by rfl) T.n_isinstance (by decide +kernel) (pa_cons (pv 0) (pa_cons (pe_bltn (v := .ty "bool") (by rfl) T.n_bool (by decide +kernel) rfl) pa_nil))))))), ?_⟩
    refine ⟨v, rfl, v, .ty "int", _, _, _, rfl, .ty _, ty, kit_int ht, _, rfl, ?_⟩
    rcases ty_cases ht with rfl | rfl | rfl | rfl | rfl | rfl | rfl
    · exact iteF q
    · exact iteT ⟨v, rfl, v, .ty "bool", _, _, _, rfl, .ty _, ty, kit_bool ht, _, rfl, q⟩
    · exact iteT ⟨v, rfl, v, .ty "bool", _, _, _, rfl, .ty _, ty, kit_bool ht, _, rfl, q⟩
    · exact iteF q
    · exact iteF q
    · exact iteF q
    · exact iteF q
end
/-! ### tuples and lists of servers -/
def setV (ms : List Nat) : List V := ms.map fun (m : Nat) => V.int (m : Int)
theorem setV_app (a b : List Nat) : setV (a ++ b) = setV a ++ setV b := List.map_append
theorem setV_at {ms : List Nat} {i m : Nat} (h : ms[i]? = some m) : (setV ms)[i]? = some (V.int (m : Int)) := by
  unfold setV
  rw [List.getElem?_map, h]
  rfl
theorem setV_len (ms : List Nat) : (setV ms).length = ms.length := List.length_map _
theorem setV_range (n : Nat) : rgV 0 (n : Int) = setV (List.range' 0 n) := by
  unfold setV
  have e : ((n : Int) - 0).toNat = n := by omega
  unfold rgV
  rw [e, List.range_eq_range']
  refine List.map_congr_left fun i _ => ?_
  rw [Int.zero_add]
theorem seq_at {k n : Nat} (h : k < n) : seqIndex? (k : Int) n = some k := by
  unfold seqIndex?
  simp only [show ¬ ((k : Int) < 0) by omega, if_false]
  rw [if_pos]
  · rw [Int.toNat_natCast]
  · rw [Bool.and_eq_true]
    exact ⟨decide_eq_true (by omega), decide_eq_true (by omega)⟩
theorem SqL.is {K : PySem.W.Frag} {H : Hp} {a : Addr} {xs ys : List V} (h : SqL K H a xs) (e : xs = ys) : SqL K H a ys := e ▸ h
theorem setV_erase : ∀ (l : List Nat) (k : Nat), (setV l).eraseIdx k = setV (l.eraseIdx k)
  | [], _ => rfl
  | _ :: _, 0 => rfl
  | a :: r, k + 1 => congrArg (V.int (a : Int) :: ·) (setV_erase r k)
theorem setV_ints (ms : List Nat) : setV ms = (ms.map fun (m : Nat) => (m : Int)).map V.int := by
  unfold setV
  rw [List.map_map]
  rfl
theorem ints_back {ns : List Int} {ms : List Nat} (h : ns.Perm (ms.map fun (m : Nat) => (m : Int))) : ∃ ks : List Nat, ns = (ks.map fun (m : Nat) => (m : Int)) ∧ ks.Perm ms := by
  have e : ∀ x ∈ ns, ((x.toNat : Nat) : Int) = x := fun x hx => by
    obtain ⟨m, _, rfl⟩ := List.mem_map.mp (h.mem_iff.mp hx)
    simp
  refine ⟨ns.map Int.toNat, ?_, ?_⟩
  · rw [List.map_map]
    conv => lhs; rw [← List.map_id ns]
    exact List.map_congr_left fun x hx => (e x hx).symm
  · have h2 := h.map Int.toNat
    rw [List.map_map] at h2
    have e2 : (ms.map (Int.toNat ∘ fun (m : Nat) => (m : Int))) = ms := by
      conv => rhs; rw [← List.map_id ms]
      exact List.map_congr_left fun x _ => by simp
    rw [e2] at h2
    exact h2
theorem le_back {ks : List Nat} (h : (ks.map fun (m : Nat) => (m : Int)).Pairwise (· ≤ ·)) : ks.Pairwise (· ≤ ·) := by
  rw [List.pairwise_map] at h
  exact h.imp fun z => by omega
theorem lt_of_le {ks : List Nat} (h : ks.Pairwise (· ≤ ·)) (hn : ks.Nodup) : Asc ks := (h.and hn).imp fun ⟨a, b⟩ => by omega
theorem inV_ints (x : Int) : ∀ ns : List Int, inV (V.int x) (ns.map V.int) = decide (x ∈ ns)
  | [] => rfl
  | y :: r => by
    show ((y == x) || inV (V.int x) (r.map V.int)) = _
    rw [inV_ints x r]
    by_cases h : y = x
    · subst h
      rw [beq_self_eq_true, decide_eq_true List.mem_cons_self]
      rfl
    · rw [show (y == x) = false from beq_eq_false_iff_ne.mpr h, Bool.false_or]
      by_cases g : x ∈ r
      · rw [decide_eq_true g, decide_eq_true (List.mem_cons_of_mem _ g)]
      · rw [decide_eq_false g, decide_eq_false fun z => ?_]
        rcases List.mem_cons.mp z with z | z
        · exact h z.symm
        · exact g z
theorem flat_ints : ∀ ns : List Int, (ns.map V.int).all flatV = true
  | [] => rfl
  | _ :: r => flat_ints r
theorem setV_flat (ms : List Nat) : (setV ms).all flatV = true := by
  rw [setV_ints]
  exact flat_ints _
theorem inV_setV (x : Nat) (ms : List Nat) : inV (.int (x : Int)) (setV ms) = decide (x ∈ ms) := by
  rw [setV_ints, inV_ints]
  refine decide_eq_decide.mpr ⟨fun h => ?_, fun h => List.mem_map.mpr ⟨x, h, rfl⟩⟩
  obtain ⟨y, hy, e⟩ := List.mem_map.mp h
  have : y = x := by omega
  rw [← this]
  exact hy
theorem setV_mem {ms : List Nat} {v : V} (h : v ∈ setV ms) : ∃ m, m ∈ ms ∧ v = .int (m : Int) := by
  obtain ⟨m, hm, e⟩ := List.mem_map.mp h
  exact ⟨m, hm, e.symm⟩
theorem setV_get {ms : List Nat} {i : Nat} {v : V} (h : (setV ms)[i]? = some v) : ∃ m, ms[i]? = some m ∧ v = .int (m : Int) := by
  unfold setV at h
  rw [List.getElem?_map] at h
  cases e : ms[i]? with
  | none =>
    rw [e] at h
    cases h
  | some m =>
    rw [e] at h
    exact ⟨m, rfl, (Option.some.inj h).symm⟩
theorem range'_snoc (n : Nat) : List.range' 0 (n + 1) = List.range' 0 n ++ [n] := by
  rw [← List.range_eq_range', ← List.range_eq_range', List.range_succ]
theorem fr_step (f : Nat → Bool) (n : Nat) : setV ((List.range' 0 (n + 1)).filter f) = setV ((List.range' 0 n).filter f) ++ if f n = true then [V.int (n : Int)] else [] := by
  rw [range'_snoc, List.filter_append, setV_app]
  congr 1
  cases h : f n with
  | true => rw [List.filter_cons_of_pos h]; rfl
  | false => rw [List.filter_cons_of_neg (by rw [h]; decide)]; rfl
/-- what an error of the class CN with the field f leaves behind -/
def Raised (f : Str) (CN : Addr) (v : V) (H : Hp) (E : XK) : Prop := ∀ H' d, Same H H' → H' d = some (.xd [(f, v)]) → H d = none → E (.ref CN) (some d) H'
theorem Raised.on {f : Str} {CN : Addr} {v : V} {H H1 : Hp} {E : XK} (s : Same H H1) (h : Raised f CN v H E) : Raised f CN v H1 E := fun H' d s2 e n => h H' d (s.trans s2) e (s.free n)
theorem cut_set (ms : List Nat) (lo hi : Option Int) : ∃ ks : List Nat, cutV (setV ms) lo hi = setV ks ∧ (∀ x ∈ ks, x ∈ ms) ∧ ks.length ≤ ms.length ∧ ks.Sublist ms := by
  unfold cutV setV
  rw [← List.map_drop, ← List.map_take]
  refine ⟨_, rfl, fun x hx => List.mem_of_mem_drop (List.mem_of_mem_take hx), ?_, (List.take_sublist _ _).trans (List.drop_sublist _ _)⟩
  rw [List.length_take, List.length_drop]
  omega
def natOf : V → Nat
  | .int i => i.toNat
  | _ => 0
theorem perm_setV {ys : List V} {ms : List Nat} (h : ys.Perm (setV ms)) : ∃ ks : List Nat, ys = setV ks ∧ ks.Perm ms := by
  have e : ∀ y ∈ ys, V.int ((natOf y : Nat) : Int) = y := fun y hy => by
    obtain ⟨m, _, rfl⟩ := setV_mem (h.mem_iff.mp hy)
    show V.int (((m : Int).toNat : Nat) : Int) = _
    rw [Int.toNat_natCast]
  refine ⟨ys.map natOf, ?_, ?_⟩
  · unfold setV
    rw [List.map_map]
    conv => lhs; rw [← List.map_id ys]
    exact List.map_congr_left fun y hy => (e y hy).symm
  · have h2 := h.map natOf
    unfold setV at h2
    rw [List.map_map] at h2
    have e2 : (ms.map (natOf ∘ fun (m : Nat) => V.int (m : Int))) = ms := by
      conv => rhs; rw [← List.map_id ms]
      refine List.map_congr_left fun x _ => ?_
      show (x : Int).toNat = x
      rw [Int.toNat_natCast]
    rw [e2] at h2
    exact h2
theorem dp_set {K : PySem.W.Frag} {H : Hp} : ∀ ms : List Nat, DpAll K H (setV ms) (natD ms)
  | [] => .nil
  | m :: r => .cons (.int (m : Int)) (dp_set r)
theorem but_free {p q : Addr} {H H' : Hp} (s : But p H H') (h : H' q = none) (n : q ≠ p) : H q = none := by
  cases e : H q with
  | none => rfl
  | some o =>
    rw [s _ _ n e] at h
    cases h
theorem but_new {p q : Addr} {H H1 : Hp} {o : HO} (s : But p H H1) (h : H q = none) : But p H (L2.upd H1 q o) := fun b x n e => by
  rw [upd_ne (ne_of_none e h)]
  exact s b x n e
theorem erase_perm {α : Type} : ∀ (l : List α) (k : Nat) (x : α), l[k]? = some x → (x :: l.eraseIdx k).Perm l
  | [], _, _, h => by cases h
  | a :: r, 0, x, h => by
    obtain rfl : a = x := Option.some.inj h
    exact List.Perm.refl _
  | a :: r, k + 1, x, h => (List.Perm.swap a x _).trans ((erase_perm r k x h).cons a)
theorem same_hide {p : Addr} {H H' : Hp} (s : Same H H') (n : H p = none) : Same H (hide p H') := fun b o e => by
  rw [hide_ne (ne_of_none e n)]
  exact s b o e
theorem cut_take (fl : List Nat) (w : Nat) : cutV (setV fl) none (some (w : Int)) = setV (fl.take w) := by
  unfold cutV
  have e0 : HT.sIx (setV fl).length 0 none = 0 := rfl
  have e1 : HT.sIx (setV fl).length (setV fl).length (some (w : Int)) = min w fl.length := by
    rw [setV_len]
    exact HT.sIx_nat _ _ _
  rw [e0, e1, List.drop_zero, Nat.sub_zero]
  unfold setV
  rw [← List.map_take]
  congr 1
  rw [List.take_eq_take_iff]
  omega
theorem SqT_updL {K : PySem.W.Frag} {H : Hp} {a D : Addr} {xs ys : List V} {o : HO} (h : SqT K H a xs) (hD : H D = some (.lst ys)) : SqT K (upd H D o) a xs := by
  rcases h with (h | ⟨o, h⟩) | h
  · exact .inl (.inl (by rw [upd_ne (fun c => by rw [c, hD] at h; cases h)]; exact h))
  · exact .inl (.inr ⟨o, by rw [upd_ne (fun c => by rw [c, hD] at h; cases h)]; exact h⟩)
  · exact .inr h
/-- a pair of a tuple of servers and a number -/
def PairAt (H0 H : Hp) (u : Addr) (ms : List Nat) (r : Nat) : Prop := H0 u = none ∧ ∃ t, H0 t = none ∧ H u = some (.tup [.ref t, .int (r : Int)]) ∧ H t = some (.tup (setV ms))
theorem PairAt.back {H0 H1 H : Hp} {u : Addr} {ms : List Nat} {r : Nat} (s : Same H0 H1) (h : PairAt H1 H u ms r) : PairAt H0 H u ms r := by
  obtain ⟨a, t, b, c⟩ := h
  exact ⟨s.free a, t, s.free b, c⟩
theorem erase_setV : ∀ (l : List Nat) (k : Nat), (setV l).eraseIdx k = setV (l.eraseIdx k)
  | [], _ => rfl
  | _ :: _, 0 => rfl
  | a :: r, k + 1 => congrArg (V.int (a : Int) :: ·) (erase_setV r k)
/-! ### level_parts -/
def spParts : Sp := fun vs H Q _ => ∃ n d : Nat, vs = [.int n, .int d] ∧ n ≤ 60 ∧ d ≤ n ∧ ∀ p, H p = none → Q (.ref p) (upd H p (.lst (setV (partsV n d))))
theorem rg_parts {n d : Nat} (h : d ≤ n) : rgC (n : Int) (-1) d = setV (partsV n d) := by
  unfold rgC setV partsV
  rw [List.map_map]
  refine List.map_congr_left fun i hi => ?_
  have := List.mem_range.mp hi
  show V.int ((n : Int) + ((i : Nat) : Int) * (-1)) = V.int ((n - i : Nat) : Int)
  congr 1
  omega
section
variable {P : Program} {w : World} {K : PySem.W.Frag} {mg : Str → Option Value} {base : Heap}
theorem ok_parts (T : Txt K mg) {j : Nat} : FnOk P w K mg base CX0 (j + 1) T.fParts T.fdParts ["n", "depth"] spParts := by
  refine T.FParts.ok scParts (fun vs H Q E h => ?_) (fun cdv A outer s H vs Q E hr h => ?_)
  · obtain ⟨n, d, rfl, _⟩ := h
    rfl
  · obtain ⟨n, d, rfl, hn, hd, q⟩ := h
    refine ⟨_, pss_one (ps_ret (pe_listRgC rfl (by rfl) T.n_list (by rfl) T.n_range (pa_cons (pv 0) (pa_cons (pe_op op_sub (pv 0) (pv 1)) (pa_cons (pe_un un_neg pe_int) pa_nil))))), ?_⟩
    have e : ((n : Int) - ((n : Int) - (d : Int))).toNat = d := by omega
    have rc : RgC (n : Int) ((n : Int) - (d : Int)) (-1) d := by
      have := RgC.neg (i := (n : Int)) (j := (n : Int) - (d : Int)) (by omega) (by omega) (by omega) (by omega)
      rw [e] at this
      exact this
    refine ⟨_, rfl, _, rfl, _, rfl, _, _, rfl, rfl, _, rfl, (n : Int), (n : Int) - (d : Int), -1, d, rfl, rc, by omega, fun p np => ?_⟩
    rw [rg_parts hd]
    exact q p np
end
/-! ### counts and numbers of any value -/
theorem TyX.same {K : PySem.W.Frag} {H H' : Hp} {v : V} {t : Value} (e : Same H H') (h : TyX K H v t) : TyX K H' v t := by
  cases h with
  | base h =>
    cases h with
    | non => exact .base .non
    | bl x => exact .base (.bl x)
    | int i => exact .base (.int i)
    | str x => exact .base (.str x)
    | flt x => exact .base (.flt x)
    | lst z => exact .base (.lst (e _ _ z))
    | frz z => exact .base (.frz (e _ _ z))
    | tup z => exact .base (.tup (e _ _ z))
    | dK z => exact .base (.dK (e _ _ z))
    | dT z => exact .base (.dT (e _ _ z))
    | ins z a1 a2 a3 a4 a5 => exact .base (.ins (e _ _ z) a1 a2 a3 a4 a5)
  | byt b => exact .byt b
  | set z => exact .set (e _ _ z)
  | kList a b => exact .kList a b
  | kTuple a b => exact .kTuple a b
  | kDict a b => exact .kDict a b
  | fTuple z => exact .fTuple (e _ _ z)
  | fDict z => exact .fDict (e _ _ z)
def CountV (K : PySem.W.Frag) (H : Hp) (v : V) (o : Option Int) : Prop := (∃ c, o = some c ∧ v = .int c) ∨ (o = none ∧ ∃ t, t ∈ tyNames ∧ (t == "int") = false ∧ TyX K H v (.type t))
theorem CountV.ty {K : PySem.W.Frag} {H : Hp} {v : V} {o : Option Int} (h : CountV K H v o) : ∃ t, t ∈ tyNames ∧ (t == "int") = o.isSome ∧ TyX K H v (.type t) := by
  rcases h with ⟨c, rfl, rfl⟩ | ⟨rfl, t, h1, h2, h3⟩
  · exact ⟨"int", by decide, rfl, .base (.int c)⟩
  · exact ⟨t, h1, h2, h3⟩
def possB (L : Nat) : Option Int → Bool
  | some c => decide (0 < c) && decide (c % (L : Int) = 0)
  | none => false
theorem possB_some (L : Nat) (c : Int) : possB L (some c) = (decide (0 < c) && decide (c % (L : Int) = 0)) := rfl
theorem CountV.same {K : PySem.W.Frag} {H H' : Hp} {v : V} {o : Option Int} (e : Same H H') (h : CountV K H v o) : CountV K H' v o := by
  rcases h with h | ⟨h1, t, h2, h3, h4⟩
  · exact .inl h
  · exact .inr ⟨h1, t, h2, h3, TyX.same e h4⟩
theorem decV (x y : Int) : decide (V.int x = V.int y) = decide (x = y) := by
  by_cases h : x = y
  · rw [decide_eq_true h, decide_eq_true (congrArg V.int h)]
  · rw [decide_eq_false h, decide_eq_false fun z => h (V.int.inj z)]
theorem poss_no {n d c i : Nat} (hn : n ≤ 60) (h1 : 1 ≤ n) (hd : d ≤ n) (hi : i < d) (h : ¬ (n - i) ∣ c) : possB (leastL n d) (some (c : Int)) = false := by
  rw [possB_some, decide_eq_false (p := (c : Int) % (leastL n d : Int) = 0), Bool.and_false]
  intro z
  have z2 : c % leastL n d = 0 := by
    have : ((c % leastL n d : Nat) : Int) = 0 := by
      rw [Int.natCast_emod]
      exact z
    omega
  exact h ((least_parts h1 hn hd c).mp (Nat.dvd_of_mod_eq_zero z2) i hi)
theorem poss_yes {n d c : Nat} (hn : n ≤ 60) (h1 : 1 ≤ n) (hd : d ≤ n) (h0 : 0 < c) (h : ∀ i, i < d → (n - i) ∣ c) : possB (leastL n d) (some (c : Int)) = true := by
  rw [possB_some, decide_eq_true (p := 0 < (c : Int)) (by omega), Bool.true_and]
  refine decide_eq_true ?_
  rw [← Int.natCast_emod, Nat.mod_eq_zero_of_dvd ((least_parts h1 hn hd c).mpr h)]
  rfl
theorem poss_std {n d : Nat} {o : Option Int} (hn : n ≤ 60) (h1 : 1 ≤ n) (hd : d ≤ n) (h : possB (leastL n d) o = true) : ∃ c : Nat, o = some (c : Int) ∧ Std n d c := by
  cases o with
  | none => cases h
  | some x =>
    rw [possB_some, Bool.and_eq_true] at h
    have a := of_decide_eq_true h.1
    have b := of_decide_eq_true h.2
    obtain ⟨c, rfl⟩ := Int.eq_ofNat_of_zero_le (Int.le_of_lt a)
    refine ⟨c, rfl, hn, h1, hd, by omega, ?_⟩
    have b2 : ((c % leastL n d : Nat) : Int) = 0 := by
      rw [Int.natCast_emod]
      exact b
    exact Nat.dvd_of_mod_eq_zero (by omega)
theorem std_poss {n d c : Nat} (h : Std n d c) : possB (leastL n d) (some (c : Int)) = true := by
  have h0 := h.c0
  obtain ⟨q, hq⟩ := h.dv
  rw [possB_some, decide_eq_true (show (0 : Int) < (c : Int) by omega), Bool.true_and]
  refine decide_eq_true ?_
  rw [← Int.natCast_emod, hq, Nat.mul_mod_right]
  rfl
def numB (m : Nat) : Option Int → Bool
  | some c => decide (0 ≤ c) && decide (c < (m : Int))
  | none => false
theorem numB_some (m : Nat) (c : Int) : numB m (some c) = (decide (0 ≤ c) && decide (c < (m : Int))) := rfl
theorem num_lt {c : Nat} {m : Option Int} (h : numB c m = true) : ∃ k : Nat, m = some (k : Int) ∧ k < c := by
  cases m with
  | none => cases h
  | some x =>
    rw [numB_some, Bool.and_eq_true] at h
    have a := of_decide_eq_true h.1
    have b := of_decide_eq_true h.2
    obtain ⟨k, rfl⟩ := Int.eq_ofNat_of_zero_le a
    exact ⟨k, rfl, by omega⟩
theorem CountV.isInt {K : PySem.W.Frag} {H : Hp} {v : V} {c : Int} (h : CountV K H v (some c)) : v = .int c := by
  rcases h with ⟨x, e, rfl⟩ | ⟨e, _⟩
  · rw [← Option.some.inj e]
  · cases e
/-! ### is_possible -/
def spPoss (K : PySem.W.Frag) : Sp := fun vs H Q _ => ∃ (n d : Nat) (v : V) (o : Option Int), vs = [.int n, .int d, v] ∧ n ≤ 60 ∧ 1 ≤ n ∧ d ≤ n ∧ CountV K H v o ∧ ∀ H', Same H H' → Q (.bl (possB (leastL n d) o)) H'
section
variable {P : Program} {w : World} {K : PySem.W.Frag} {mg : Str → Option Value} {base : Heap}
theorem ok_poss (T : Txt K mg) {j : Nat} : FnOk P w K mg base CX0 (j + 4) T.fPoss T.fdPoss ["n", "depth", "count"] (spPoss K) := by
  refine T.FPoss.ok scPoss (fun vs H Q E h => ?_) (fun cdv A outer s H vs Q E hr h => ?_)
  · obtain ⟨n, d, v, o, rfl, _⟩ := h
    rfl
  · obtain ⟨n, d, v, o, rfl, hn, h1, hd, hv, q⟩ := h
    refine ⟨_, pss_cons (ps_if (PW.pt (pw_or (pt_not (pt_val (pe_call (ok_plain T) hr (by rfl) T.gPlain T.FPlain.kp T.bPlain .nil pass0 (pa_cons (pv 2) pa_nil)))) (pw_or (pt_cmpR op_le (pv 2) pe_int (nomark _)) (pw_or1 (pt_cmpR op_gt (pv 1) (pv 0) (nomark _)))))) (pss_one (ps_ret pe_bl)) pss_nil) (pss_cons (ps_for PassesOwn.never rfl (pi_list (pe_call (ok_parts T) hr (by rfl) T.gParts T.FParts.kp T.bParts .nil pass0 (pa_cons (pv 0) (pa_cons (pv 1) pa_nil)))) (pg_name (i := 3) scPoss.nd rfl (.inl rfl)) (pss_one (ps_if (pt_cmpR op_ne (pe_op op_mod (pv 2) (pv 3)) pe_int (nomark _)) (pss_one (ps_ret pe_bl)) pss_nil))) (pss_one (ps_ret pe_bl))), ?_⟩
    obtain ⟨t, ht, e, ty⟩ := hv.ty
    refine ⟨v, rfl, v, t, rfl, ty, ht, _, rfl, ?_⟩
    rw [e]
    rcases hv with ⟨x, rfl, rfl⟩ | ⟨rfl, _⟩
    · refine iteF ?_
      refine ⟨_, rfl, _, _, rfl, rfl, _, rfl, ite2 (fun h2 => ?_) (fun h2 => ?_)⟩
      · have h3 : x ≤ 0 := of_decide_eq_true h2
        have e2 : possB (leastL n d) (some x) = false := by
          rw [possB_some, decide_eq_false (show ¬ 0 < x by omega)]
          rfl
        rw [e2] at q
        exact q _ (Same.refl _)
      · have h3 : ¬ x ≤ 0 := fun z => h2 (decide_eq_true z)
        refine ⟨_, rfl, _, rfl, _, _, rfl, rfl, _, rfl, ite2 (fun z => absurd (of_decide_eq_true z : (n : Int) < (d : Int)) (by omega)) (fun _ => ?_)⟩
        obtain ⟨c, rfl⟩ := Int.eq_ofNat_of_zero_le (show 0 ≤ x by omega)
        refine ⟨_, rfl, _, rfl, n, d, rfl, hn, hd, fun p np => ?_⟩
        have s0 := same_new (o := .lst (setV (partsV n d))) np
        refine ⟨p, rfl, ⟨_, SqL.of upd_same⟩, for_list (K := K) (a := p) (xs := setV (partsV n d)) (fun i σ H2 => (∃ u, σ = [some (.int n), some (.int d), some (.int c), u]) ∧ H2 = upd H p (.lst (setV (partsV n d))) ∧ ∀ k, k < i → (n - k) ∣ c) ⟨⟨none, rfl⟩, rfl, fun k hk => absurd hk (Nat.not_lt_zero k)⟩ ?_ ?_ ?_⟩
        · rintro i σ H2 _ ⟨⟨u, rfl⟩, rfl, _⟩
          exact SqL.of upd_same
        · rintro i z σ H2 hz ⟨⟨u, rfl⟩, rfl, ih⟩
          obtain ⟨m, hm, rfl⟩ := setV_get hz
          have hid : i < d := by
            have := (List.getElem?_eq_some_iff.mp hm).1
            rw [parts_len] at this
            exact this
          obtain rfl : n - i = m := Option.some.inj ((parts_at hid).symm.trans hm)
          refine ⟨_, rfl, _, rfl, _, _, rfl, rfl, (by omega : (0 : Int) < ((n - i : Nat) : Int)), rfl, _, rfl, ?_⟩
          dsimp only
          rw [decV]
          refine ite2 (fun h5 => ?_) (fun h5 => ?_)
          · have h6 : ¬ (c : Int) % ((n - i : Nat) : Int) = 0 := by
              intro z
              rw [decide_eq_true z] at h5
              cases h5
            have h7 : ¬ (n - i) ∣ c := fun z => h6 (by rw [← Int.natCast_emod, Nat.mod_eq_zero_of_dvd z]; rfl)
            rw [poss_no hn h1 hd hid h7] at q
            exact q _ s0
          · have h6 : (c : Int) % ((n - i : Nat) : Int) = 0 := Classical.byContradiction fun z => h5 (by rw [decide_eq_false z]; rfl)
            refine ⟨⟨_, rfl⟩, rfl, fun k hk => ?_⟩
            by_cases ek : k = i
            · subst ek
              have : ((c % (n - k) : Nat) : Int) = 0 := by
                rw [Int.natCast_emod]
                exact h6
              exact Nat.dvd_of_mod_eq_zero (by omega)
            · exact ih k (by omega)
        · rintro σ H2 ⟨⟨u, rfl⟩, rfl, ih⟩
          rw [setV_len, parts_len] at ih
          rw [poss_yes hn h1 hd (by omega) ih] at q
          exact q _ s0
    · exact iteT (q _ (Same.refl _))
end
/-! ### reach_of -/
def spReachOf : Sp := fun vs H Q _ => ∃ n f k : Nat, vs = [.int n, .int f, .int k] ∧ Q (.int (min n (f + k) : Nat)) H
section
variable {P : Program} {w : World} {K : PySem.W.Frag} {mg : Str → Option Value} {base : Heap}
theorem ok_reachof (T : Txt K mg) {j : Nat} : FnOk P w K mg base CX0 (j + 1) T.fReachOf T.fdReachOf ["n", "failures", "factor"] spReachOf := by
  refine T.FReachOf.ok scReachOf (fun vs H Q E h => ?_) (fun cdv A outer s H vs Q E hr h => ?_)
  · obtain ⟨n, f, k, rfl, _⟩ := h
    rfl
  · obtain ⟨n, f, k, rfl, q⟩ := h
    refine ⟨_, pss_one (ps_ret (pe_callB (call_min2 rfl) (by rfl) T.n_min (by decide +kernel) (pa_cons (pv 0) (pa_cons (pe_op op_add (pv 1) (pv 2)) pa_nil)))), ?_⟩
    refine ⟨_, rfl, _, rfl, _, rfl, _, _, rfl, rfl, _, _, rfl, ?_⟩
    have e : (if ((f : Int) + (k : Int)) < (n : Int) then ((f : Int) + (k : Int)) else (n : Int)) = ((min n (f + k) : Nat) : Int) := by
      by_cases c : (f : Int) + (k : Int) < (n : Int)
      · rw [if_pos c]
        omega
      · rw [if_neg c]
        omega
    dsimp only
    rw [e]
    exact q
end
/-! ### NotPossible's __init__ -/
section
variable {P : Program} {w : World} {K : PySem.W.Frag} {mg : Str → Option Value} {base : Heap}
theorem ok_notp (T : Txt K mg) {j : Nat} : FnOk P w K mg base CX0 (j + 1) T.fNotP T.fdNotP ["self", "count"] (spErr K T.cNotP "count") := by
  refine T.FNotP.ok scNotP (fun vs H Q E h => ?_) (fun cdv A outer s H vs Q E hr h => ?_)
  · obtain ⟨a, v, rfl, _⟩ := h
    rfl
  · obtain ⟨a, v, rfl, ha, q⟩ := h
    refine ⟨_, pss_cons (ps_expr (pe_baseInit (by rfl) T.gcBase T.btBase.sp T.btBase.ty T.btBase.rd T.btBase.fc (pa_cons (pv 0) (pa_cons pe_str pa_nil)))) (pss_one (ps_ost (pv 0) (pv 1))), ?_⟩
    refine ⟨.ref a, rfl, a, T.cNotP, _, rfl, (by show 1 ≤ 1000; decide), T.eNotP.ox, ha, ?_⟩
    refine ⟨v, rfl, .ref a, rfl, a, T.cNotP, rfl, T.eNotP.ox, T.eNotP.no, .inl ⟨ha, fun dx nd ne => q dx nd ne⟩⟩
end
/-! ### check_possible -/
def spChkP (K : PySem.W.Frag) (CN : Addr) : Sp := fun vs H Q E => ∃ (n d : Nat) (v : V) (o : Option Int), vs = [.int n, .int d, v] ∧ n ≤ 60 ∧ 1 ≤ n ∧ d ≤ n ∧ CountV K H v o ∧
  (possB (leastL n d) o = true → ∀ H', Same H H' → Q .non H') ∧ (possB (leastL n d) o = false → Raised "count" CN v H E)
section
variable {P : Program} {w : World} {K : PySem.W.Frag} {mg : Str → Option Value} {base : Heap}
theorem ok_chkp (T : Txt K mg) {j : Nat} : FnOk P w K mg base (L2.CX P w) (j + 5) T.fChkP T.fdChkP ["n", "depth", "count"] (spChkP K T.cNotP) := by
  refine T.FChkP.okX scChkP (fun vs H Q E h => ?_) (fun cdv A outer s H vs Q E hr h => ?_)
  · obtain ⟨n, d, v, o, rfl, _⟩ := h
    rfl
  · obtain ⟨n, d, v, o, rfl, hn, h1, hd, hv, q1, q2⟩ := h
    refine ⟨_, pss_one (ps_if (pt_not (pt_val (pe_call (ok_poss T) hr (by rfl) T.gPoss T.FPoss.kp T.bPoss .nil pass0 (pa_cons (pv 0) (pa_cons (pv 1) (pa_cons (pv 2) pa_nil)))))) (pss_one (ps_raise rfl (takes_of rfl rfl rfl rfl) (pmk_oex T.eNotP.ox T.eNotP.iC T.eNotP.tI (ok_notp T) hr T.bNotP .nil pass0 (by rfl) T.gcNotP (pa_cons (pv 2) pa_nil)))) pss_nil), ?_⟩
    refine ⟨_, rfl, _, rfl, v, rfl, n, d, v, o, rfl, hn, h1, hd, hv, fun H1 s1 => ⟨_, rfl, ?_⟩⟩
    cases e : possB (leastL n d) o with
    | true => exact iteF (q1 e _ s1)
    | false =>
      refine iteT ⟨v, rfl, (by show 1 ≤ 1000; decide), fun a na => ⟨a, v, rfl, upd_same, fun dx nd ne => ?_⟩⟩
      obtain ⟨e1, e2, e3, e4, e5⟩ := err_end (f := "count") (v := v) na nd ne
      exact ⟨rfl, dx, _, e1, e2, e3, q2 e _ dx (s1.trans e4) e5 (s1.free e3)⟩
end
/-! ### NoNumber's __init__ -/
section
variable {P : Program} {w : World} {K : PySem.W.Frag} {mg : Str → Option Value} {base : Heap}
theorem ok_non (T : Txt K mg) {j : Nat} : FnOk P w K mg base CX0 (j + 1) T.fNoN T.fdNoN ["self", "value"] (spErr K T.cNoN "value") := by
  refine T.FNoN.ok scNoN (fun vs H Q E h => ?_) (fun cdv A outer s H vs Q E hr h => ?_)
  · obtain ⟨a, v, rfl, _⟩ := h
    rfl
  · obtain ⟨a, v, rfl, ha, q⟩ := h
    refine ⟨_, pss_cons (ps_expr (pe_baseInit (by rfl) T.gcBase T.btBase.sp T.btBase.ty T.btBase.rd T.btBase.fc (pa_cons (pv 0) (pa_cons pe_str pa_nil)))) (pss_one (ps_ost (pv 0) (pv 1))), ?_⟩
    refine ⟨.ref a, rfl, a, T.cNoN, _, rfl, (by show 1 ≤ 1000; decide), T.eNoN.ox, ha, ?_⟩
    refine ⟨v, rfl, .ref a, rfl, a, T.cNoN, rfl, T.eNoN.ox, T.eNoN.no, .inl ⟨ha, fun dx nd ne => q dx nd ne⟩⟩
end
/-! ### check_number -/
def spChkN (K : PySem.W.Frag) (CN : Addr) : Sp := fun vs H Q E => ∃ (m : Nat) (v : V) (o : Option Int), vs = [v, .int m] ∧ CountV K H v o ∧
  (numB m o = true → Q .non H) ∧ (numB m o = false → Raised "value" CN v H E)
section
variable {P : Program} {w : World} {K : PySem.W.Frag} {mg : Str → Option Value} {base : Heap}
theorem ok_chkn (T : Txt K mg) {j : Nat} : FnOk P w K mg base (L2.CX P w) (j + 3) T.fChkN T.fdChkN ["value", "many"] (spChkN K T.cNoN) := by
  refine T.FChkN.okX scChkN (fun vs H Q E h => ?_) (fun cdv A outer s H vs Q E hr h => ?_)
  · obtain ⟨m, v, o, rfl, _⟩ := h
    rfl
  · obtain ⟨m, v, o, rfl, hv, q1, q2⟩ := h
    refine ⟨_, pss_one (ps_if (PW.pt (pw_or (pt_not (pt_val (pe_call (ok_plain T) hr (by rfl) T.gPlain T.FPlain.kp T.bPlain .nil pass0 (pa_cons (pv 0) pa_nil)))) (pw_or (pt_cmpR op_lt (pv 0) pe_int (nomark _)) (pw_or1 (pt_cmpR op_ge (pv 0) (pv 1) (nomark _)))))) (pss_one (ps_raise rfl (takes_of rfl rfl rfl rfl) (pmk_oex T.eNoN.ox T.eNoN.iC T.eNoN.tI (ok_non T) hr T.bNoN .nil pass0 (by rfl) T.gcNoN (pa_cons (pv 0) pa_nil)))) pss_nil), ?_⟩
    have raise : numB m o = false → (tMkO T.cNoN (spErr K T.cNoN "value") [] (tCons (tVar 0) tNil)) [some v, some (.int m)] H (fun cls d H' => E cls d H') := fun ho => by
      refine ⟨v, rfl, (by show 1 ≤ 1000; decide), fun a na => ⟨a, v, rfl, upd_same, fun dx nd ne => ?_⟩⟩
      obtain ⟨e1, e2, e3, e4, e5⟩ := err_end (f := "value") (v := v) na nd ne
      exact ⟨rfl, dx, _, e1, e2, e3, q2 ho _ dx e4 e5 e3⟩
    obtain ⟨t, ht, e, ty⟩ := hv.ty
    refine ⟨v, rfl, v, t, rfl, ty, ht, _, rfl, ?_⟩
    rw [e]
    rcases hv with ⟨c, rfl, rfl⟩ | ⟨rfl, _⟩
    · refine iteF ?_
      refine ⟨_, rfl, _, _, rfl, rfl, _, rfl, ite2 (fun h1 => ?_) (fun h1 => ?_)⟩
      · have h2 : c < 0 := of_decide_eq_true h1
        refine raise ?_
        rw [numB_some, decide_eq_false (show ¬ 0 ≤ c by omega)]
        rfl
      · have h2 : ¬ c < 0 := fun z => h1 (decide_eq_true z)
        refine ⟨_, rfl, _, rfl, _, _, rfl, rfl, _, rfl, ite2 (fun h3 => ?_) (fun h3 => ?_)⟩
        · have h4 : (m : Int) ≤ c := of_decide_eq_true h3
          refine raise ?_
          rw [numB_some, decide_eq_false (show ¬ c < (m : Int) by omega), Bool.and_false]
        · have h4 : ¬ (m : Int) ≤ c := fun z => h3 (decide_eq_true z)
          refine q1 ?_
          rw [numB_some, decide_eq_true (show (0 : Int) ≤ c by omega), decide_eq_true (show c < (m : Int) by omega)]
          rfl
    · refine iteT ?_
      exact raise rfl
end
/-! ### the formulas -/
def spShared : Sp := fun vs H Q _ => ∃ t p : Nat, vs = [.int t, .int p] ∧ 0 < p ∧ p < 2 ^ 500 ∧ Q (.int (t / p : Nat)) H
/-- a formula: the count is asked first -/
def spForm (K : PySem.W.Frag) (CP : Addr) (e : Nat) (G : Nat → Nat → Nat → Nat → Nat) : Sp := fun vs H Q E => ∃ (n : Nat) (v : V) (o : Option Int) (u f : Nat), vs = [.int n, v, .int u, .int f] ∧ n ≤ 60 ∧ u ≤ n ∧ 1 ≤ f ∧ f + e ≤ u ∧ CountV K H v o ∧
  (possB (leastL n (n - u + f + e)) o = false → Raised "count" CP v H E) ∧ (∀ c : Nat, o = some (c : Int) → Std n (n - u + f + e) c → ∀ H', Same H H' → Q (.int (G n c u f : Nat)) H')
section
variable {P : Program} {w : World} {K : PySem.W.Frag} {mg : Str → Option Value} {base : Heap}
theorem ok_shared (T : Txt K mg) {j : Nat} : FnOk P w K mg base CX0 (j + 1) T.fShared T.fdShared ["total", "parts"] spShared := by
  refine T.FShared.ok scShared (fun vs H Q E h => ?_) (fun cdv A outer s H vs Q E hr h => ?_)
  · obtain ⟨t, p, rfl, _⟩ := h
    rfl
  · obtain ⟨t, p, rfl, h0, h5, q⟩ := h
    refine ⟨_, pss_cons (ps_if (pt_cmpR op_le (pv 1) pe_int (nomark _)) (pss_one (ps_ret pe_int)) pss_nil) (pss_one (ps_ret (pe_op op_fdivW (pv 0) (pv 1)))), ?_⟩
    refine ⟨_, rfl, _, _, rfl, rfl, _, rfl, ite2 (fun hb => ?_) (fun hb => ?_)⟩
    · have : (p : Int) ≤ 0 := of_decide_eq_true hb
      omega
    · refine ⟨_, rfl, _, rfl, _, _, rfl, rfl, wide_div (b := 500) (by omega) (by rw [Int.natAbs_natCast]; exact h5) (by decide) (by decide), ?_⟩
      rw [Int.natCast_ediv] at q
      exact q
theorem ok_hbsrv (T : Txt K mg) {j : Nat} : FnOk P w K mg base (L2.CX P w) (j + 6) T.fHbSrv T.fdHbSrv ["n", "count", "alive", "factor"] (spForm K T.cNotP 0 fun n c u f => c * f / u) := by
  refine T.FHbSrv.okX scHbSrv (fun vs H Q E h => ?_) (fun cdv A outer s H vs Q E hr h => ?_)
  · obtain ⟨n, v, o, u, f, rfl, _⟩ := h
    rfl
  · obtain ⟨n, v, o, u, f, rfl, hn, hu, f1, fu, hv, q1, q2⟩ := h
    refine ⟨_, pss_cons (ps_expr (pe_call (ok_chkp T) hr (by rfl) T.gChkP T.FChkP.kp T.bChkP .nil (passes_call (takes_of rfl rfl rfl rfl) (fun _ _ _ _ h => h)) (pa_cons (pv 0) (pa_cons (pe_op op_add (pe_op op_sub (pv 0) (pv 2)) (pv 3)) (pa_cons (pv 1) pa_nil))))) (PSs.nox (pss_one (ps_ret (pe_call (ok_shared T) hr (by rfl) T.gShared T.FShared.kp T.bShared .nil pass0 (pa_cons (pe_op op_mul (pv 1) (pv 3)) (pa_cons (pv 2) pa_nil)))))), ?_⟩
    have ed : (n : Int) - (u : Int) + (f : Int) = ((n - u + f + 0 : Nat) : Int) := by omega
    refine ⟨_, rfl, _, rfl, _, rfl, _, _, rfl, rfl, _, rfl, _, _, rfl, rfl, v, rfl, n, n - u + f + 0, v, o, by dsimp only; rw [ed]; rfl, hn, by omega, by omega, hv, fun hp H1 s1 => ?_, q1⟩
    obtain ⟨c, rfl, st⟩ := poss_std hn (by omega) (by omega) hp
    obtain rfl := hv.isInt
    have q3 := q2 c rfl st H1 s1
    refine ⟨_, rfl, _, rfl, _, _, rfl, rfl, .inr ⟨by omega, by omega⟩, _, rfl, c * f, u, ?_, by omega, Nat.lt_of_le_of_lt (show u ≤ 60 by omega) (by decide +kernel), q3⟩
    rw [Int.natCast_mul]
    rfl
end
/-! ### level_widths -/
def spWid : Sp := fun vs H Q _ => ∃ n d c : Nat, vs = [.int n, .int d, .int c] ∧ n ≤ 60 ∧ 1 ≤ n ∧ d ≤ n ∧ ∀ H' p, Same H H' → H p = none → H' p = some (.lst (setV (wdsL n c d))) → Q (.ref p) H'
section
variable {P : Program} {w : World} {K : PySem.W.Frag} {mg : Str → Option Value} {base : Heap}
theorem ok_wid (T : Txt K mg) {j : Nat} : FnOk P w K mg base CX0 (j + 1) T.fWid T.fdWid ["n", "depth", "count"] spWid := by
  refine T.FWid.ok scWid (fun vs H Q E h => ?_) (fun cdv A outer s H vs Q E hr h => ?_)
  · obtain ⟨n, d, c, rfl, _⟩ := h
    rfl
  · obtain ⟨n, d, c, rfl, hn, h1, hd, q⟩ := h
    refine ⟨_, pss_cons (ps_set (i := 3) scWid.nd rfl (.inl rfl) (pe_lst pa_nil)) (pss_cons (ps_set (i := 4) scWid.nd rfl (.inl rfl) (pv 0)) (pss_cons (ps_for PassesOwn.never rfl (pi_range1 (by rfl) T.n_range (pa_cons (pv 1) pa_nil)) (pg_name (i := 5) scWid.nd rfl (.inl rfl)) (pss_cons (ps_expr (pe_bm PySem.F.plainAttrs_list PySem.F.slot_list_append PySem.F.type_list_append mt_append (pv 3) (pa_cons (pe_op op_fdivW (pv 2) (pv 4)) pa_nil))) (pss_one (ps_set (i := 4) scWid.nd rfl (.inl rfl) (pe_op op_fdivW (pe_op op_mul (pv 4) (pe_op op_sub (pe_op op_sub (pv 0) pe_int) (pv 5))) (pe_op op_add (pv 5) pe_int)))))) (pss_one (ps_ret (pv 3))))), ?_⟩
    refine ⟨Nat.zero_le _, fun pw nw => ?_⟩
    refine ⟨_, rfl, _, rfl, (d : Int), rfl, by omega, by omega, ?_⟩
    refine for_range (lo := 0) (n := (d : Int).toNat) (fun i σ H2 => ∃ u, σ = [some (.int n), some (.int d), some (.int c), some (.ref pw), some (.int ((n * C (n - 1) i : Nat) : Int)), u] ∧ Same H H2 ∧ H2 pw = some (.lst (setV (wdsL n c i)))) ⟨none, by rw [C_zero, Nat.mul_one]; rfl, same_new nw, upd_same⟩ ?_ ?_
    · rintro i σ H2 hi ⟨u, rfl, s2, hW⟩
      have hid : i < n := by omega
      have e0 := edge_pos hid
      have e1 := edge_lt (d := i) hn
      rw [Int.zero_add]
      refine ⟨.ref pw, rfl, .inl ⟨rfl, _, SqL.of hW⟩, _, rfl, _, rfl, _, _, rfl, rfl, wide_div (b := 64) (by omega) (by omega) (by decide) (by decide), pw, _, _, rfl, rfl, hW, ?_, ?_⟩
      · rw [setV_len, wds_len]
        exact small1000 (by omega)
      refine ⟨_, rfl, _, rfl, _, _, rfl, rfl, _, rfl, _, _, rfl, rfl, _, _, rfl, rfl, .inl ⟨by omega, by omega⟩, _, rfl, _, _, rfl, rfl, _, _, rfl, rfl, wide_div (b := 64) (by omega) (by omega) (by decide) (by decide), ?_⟩
      refine ⟨some (.int (i : Int)), ?_, keep_upd s2 nw, ?_⟩
      · have es : ((n * C (n - 1) (i + 1) : Nat) : Int) = ((n * C (n - 1) i : Nat) : Int) * ((n : Int) - 1 - (i : Int)) / ((i : Int) + 1) := by
          rw [← edge_step hid, Int.natCast_ediv, Int.natCast_mul (n * C (n - 1) i), show ((n - 1 - i : Nat) : Int) = (n : Int) - 1 - (i : Int) by omega]
          rfl
        rw [es]
        rfl
      · rw [upd_same, wds_step, setV_app]
        show _ = some (HO.lst (_ ++ [V.int ((c / (n * C (n - 1) i) : Nat) : Int)]))
        rw [Int.natCast_ediv]
    · rintro σ H2 ⟨u, rfl, s2, hW⟩
      rw [Int.toNat_natCast] at hW
      exact ⟨_, rfl, q _ pw s2 nw hW⟩
end
/-! ### follow, path, list_at, place_at -/
def spFollow (K : PySem.W.Frag) : Sp := fun vs H Q _ => ∃ (n c : Nat) (a b : Addr) (ss L : List Nat) (r : Nat), vs = [.ref a, .ref b, .int r] ∧ c < 2 ^ 500 ∧ SqL K H a (setV (ss.map (wd n c))) ∧ ss.length ≤ 60 ∧ (SqL K H b (setV L) ∨ SqT K H b (setV L)) ∧ L.length ≤ 60 ∧ (∀ x ∈ L, x < 60) ∧ FolOk n c ss L r ∧
  ∀ H' u, Same H H' → PairAt H H' u (fol n c ss L r).1 (fol n c ss L r).2 → Q (.ref u) H'
section
variable {P : Program} {w : World} {K : PySem.W.Frag} {mg : Str → Option Value} {base : Heap}
theorem ok_follow (T : Txt K mg) {j : Nat} : FnOk P w K mg base CX0 (j + 3) T.fFollow T.fdFollow ["widths", "servers", "rest"] (spFollow K) := by
  refine T.FFollow.ok scFollow (fun vs H Q E h => ?_) (fun cdv A outer s H vs Q E hr h => ?_)
  · obtain ⟨n, c, a, b, ss, L, r, rfl, _⟩ := h
    rfl
  · obtain ⟨n, c, a, b, ss, L, r, rfl, hc, hS, hsl, hL, hLl, hLx, ok, q⟩ := h
    refine ⟨_, pss_cons (ps_set (i := 3) scFollow.nd rfl (.inl rfl) (pe_callTy (call_listK K) (by rfl) T.n_list (by decide +kernel) (pa_cons (pv 1) pa_nil))) (pss_cons (ps_set (i := 4) scFollow.nd rfl (.inl rfl) (pe_lst pa_nil)) (pss_cons (ps_for PassesOwn.never rfl (pi_list (pv 0)) (pg_name (i := 5) scFollow.nd rfl (.inl rfl)) (pss_cons (ps_set (i := 6) scFollow.nd rfl (.inl rfl) (pe_op op_fdivW (pv 2) (pv 5))) (pss_cons (ps_set (i := 7) scFollow.nd rfl (.inl rfl) (pe_bm PySem.F.plainAttrs_list PySem.F.slot_list_pop PySem.F.type_list_pop mt_popAt (pv 3) (pa_cons (pv 6) pa_nil))) (pss_cons (ps_expr (pe_bm PySem.F.plainAttrs_list PySem.F.slot_list_append PySem.F.type_list_append mt_append (pv 4) (pa_cons (pv 7) pa_nil))) (pss_one (ps_aug (i := 2) scFollow.nd rfl (.inl rfl) (pe_op op_mul (pv 5) (pe_op op_sub (pe_op op_sub (pv 7) (pv 6)) (pv 6))) ip_add)))))) (pss_one (ps_ret (pe_tup (pa_cons (pe_callTy (call_tupleK K) (by rfl) T.n_tuple (by decide +kernel) (pa_cons (pv 4) pa_nil)) (pa_cons (pv 2) pa_nil))))))), ?_⟩
    refine ⟨.ref b, rfl, b, _, rfl, hL, fun pl nl => ?_⟩
    refine ⟨Nat.zero_le _, fun pt nt => ?_⟩
    have npt : pt ≠ pl := fun z => by
      rw [z, upd_same] at nt
      cases nt
    have ft : H pt = none := (same_new nl).free nt
    refine ⟨.ref a, rfl, a, rfl, ⟨_, Same.seq (same_new nt) (Same.seq (same_new nl) hS)⟩, for_list (K := K) (a := a) (xs := setV (ss.map (wd n c))) (fun i σ H2 => ∃ (pre M : List Nat) (x : Nat) (v8 v9 v10 : Option V), σ = [some (.ref a), some (.ref b), some (.int (x : Int)), some (.ref pl), some (.ref pt), v8, v9, v10] ∧ Same H H2 ∧ H2 pl = some (.lst (setV M)) ∧ H2 pt = some (.lst (setV pre)) ∧ M.length ≤ 60 ∧ pre.length = i ∧ (∀ x ∈ M, x < 60) ∧ FolOk n c (ss.drop i) M x ∧ fol n c ss L r = (pre ++ (fol n c (ss.drop i) M x).1, (fol n c (ss.drop i) M x).2)) ?_ ?_ ?_ ?_⟩
    · refine ⟨[], L, r, none, none, none, rfl, (same_new nl).trans (same_new nt), ?_, upd_same, hLl, rfl, hLx, ok, rfl⟩
      rw [upd_ne npt.symm]
      exact upd_same
    · rintro i σ H2 hi ⟨pre, M, x, v8, v9, v10, rfl, s2, _⟩
      exact s2.seq hS
    · rintro i z σ H2 hz ⟨pre, M, x, v8, v9, v10, rfl, s2, hM, hP, hMl, hpl, hMx, okk, hf⟩
      have hil : i < ss.length := by
        have := (List.getElem?_eq_some_iff.mp hz).1
        rw [setV_len, List.length_map] at this
        exact this
      obtain rfl : z = V.int (wd n c ss[i] : Nat) := by
        rw [setV_at (m := wd n c ss[i]) (by rw [List.getElem?_map, List.getElem?_eq_getElem hil]; rfl)] at hz
        exact (Option.some.inj hz).symm
      rw [List.drop_eq_getElem_cons hil] at okk hf
      generalize ss[i] = sz at okk hf
      rw [fol_cons] at hf
      obtain ⟨w0, hix, hge, okk2⟩ := okk
      have wc := wd_le n c sz
      have hm : M.getD (x / wd n c sz) 0 < 60 := hMx _ (List.mem_of_getElem? (getD_of hix))
      have hdm := Nat.div_add_mod x (wd n c sz)
      refine ⟨_, rfl, _, rfl, _, _, rfl, rfl, wide_div (b := 500) (Int.ofNat_lt.mpr w0) (Nat.lt_of_le_of_lt wc hc) (by decide) (by decide), ?_⟩
      dsimp only [gName]
      rw [← Int.natCast_ediv]
      have hM2 := getD_of hix
      generalize x / wd n c sz = ix at hix hge okk2 hf hm hM2 hdm ⊢
      generalize M.getD ix 0 = sv at hge okk2 hf hm hM2
      refine ⟨.ref pl, rfl, .inl ⟨rfl, _, SqL.of hM⟩, _, rfl, pl, _, _, _, _, rfl, rfl, hM, by omega, by omega, seq_at (by rw [setV_len]; exact hix), setV_at hM2, ?_⟩
      rw [setV_erase]
      have hpt3 : (upd H2 pl (.lst (setV (M.eraseIdx ix)))) pt = some (.lst (setV pre)) := by
        rw [upd_ne npt]
        exact hP
      refine ⟨.ref pt, rfl, .inl ⟨rfl, _, SqL.of hpt3⟩, _, rfl, pt, _, _, rfl, rfl, hpt3, ?_, ?_⟩
      · rw [setV_len]
        have := hil
        exact small1000 (by omega)
      refine ⟨_, rfl, _, rfl, _, rfl, _, rfl, _, _, rfl, rfl, _, rfl, _, _, rfl, rfl, _, _, rfl, rfl, .inr ⟨by omega, by omega⟩, _, _, rfl, rfl, ?_⟩
      refine ⟨pre ++ [sv], M.eraseIdx ix, wd n c sz * (sv - ix) + x % wd n c sz, some (.int (wd n c sz : Nat)), some (.int (ix : Int)), some (.int (sv : Int)), ?_, ?_, ?_, ?_, ?_, ?_, ?_, okk2, ?_⟩
      · have e9 : ((wd n c sz * (sv - ix) + x % wd n c sz : Nat) : Int) = (x : Int) + (wd n c sz : Int) * ((sv : Int) - (ix : Int) - (ix : Int)) := by
          have e8 : (x : Int) = (wd n c sz : Int) * (ix : Int) + ((x % wd n c sz : Nat) : Int) := by
            rw [← Int.natCast_mul, ← Int.natCast_add, hdm]
          rw [Int.natCast_add, Int.natCast_mul, Int.natCast_sub hge]
          simp only [Int.mul_sub]
          omega
        rw [e9]
        rfl
      · exact keep_upd (keep_upd s2 nl) ft
      · rw [upd_ne npt.symm]
        exact upd_same
      · rw [upd_same, setV_app]
        rfl
      · rw [List.length_eraseIdx]
        split <;> omega
      · rw [List.length_append, hpl]
        rfl
      · exact fun y hy => hMx y (List.mem_of_mem_eraseIdx hy)
      · rw [hf, List.append_assoc]
        rfl
    · rintro σ H2 ⟨pre, M, x, v8, v9, v10, rfl, s2, hM, hP, hMl, hpl, hMx, okk, hf⟩
      rw [setV_len, List.length_map, List.drop_length] at hf
      refine ⟨.ref pt, rfl, pt, _, rfl, .inl ⟨SqL.of hP, fun l nl2 => ?_⟩⟩
      refine ⟨_, rfl, (by show 2 ≤ sizeLine; decide), fun u nu => ?_⟩
      have f1 := s2.free nl2
      refine q _ u ((s2.trans (same_new nl2)).trans (same_new nu)) ⟨(s2.trans (same_new nl2)).free nu, l, f1, ?_, ?_⟩
      · rw [upd_same, hf]
        rfl
      · rw [upd_ne (ne_of_none (o := .tup (setV pre)) upd_same nu), upd_same, hf]
        show _ = some (HO.tup (setV (pre ++ [])))
        rw [List.append_nil]
end
/-! ### path, list_at, place_at -/
def spPath : Sp := fun vs H Q _ => ∃ (n d c k : Nat), vs = [.int n, .int d, .int c, .int k] ∧ Std n d c ∧ k < c ∧ c < 2 ^ 500 ∧
  ∀ H' u, Same H H' → PairAt H H' u (path n d c k).1 (path n d c k).2 → Q (.ref u) H'
/-- a count that is possible, and a number below it -/
def spListAt (K : PySem.W.Frag) (CP CN : Addr) (G : Nat → Nat → Nat → Nat → Hp → VK → Prop) : Sp := fun vs H Q E => ∃ (n d : Nat) (v : V) (o : Option Int) (u : V) (m : Option Int), vs = [.int n, .int d, v, u] ∧ n ≤ 60 ∧ 1 ≤ n ∧ d ≤ n ∧ CountV K H v o ∧ CountV K H u m ∧
  (possB (leastL n d) o = false → Raised "count" CP v H E) ∧
  (∀ c : Nat, o = some (c : Int) → Std n d c → c < 2 ^ 500 ∧ (numB c m = false → Raised "value" CN u H E) ∧ (∀ k : Nat, m = some (k : Int) → k < c → G n d c k H Q))
def gList : Nat → Nat → Nat → Nat → Hp → VK → Prop := fun n d c k H Q => ∀ H' t, Same H H' → H t = none → H' t = some (.tup (setV (path n d c k).1)) → Q (.ref t) H'
def gPlace : Nat → Nat → Nat → Nat → Hp → VK → Prop := fun n d c k H Q => ∀ H' u ms, Same H H' → ms.Perm (path n d c k).1 → Asc ms → PairAt H H' u ms (path n d c k).2 → Q (.ref u) H'
theorem spListAt_ok {K : PySem.W.Frag} {CP CN : Addr} {G : Nat → Nat → Nat → Nat → Hp → VK → Prop} {n d c k : Nat} {H : Hp} {Q : VK} {E : XK} (st : Std n d c) (hk : k < c) (hc : c < 2 ^ 500) (g : G n d c k H Q) : spListAt K CP CN G [.int n, .int d, .int c, .int k] H Q E := by
  refine ⟨n, d, .int c, some c, .int k, some k, rfl, st.n60, st.n1, st.dn, .inl ⟨c, rfl, rfl⟩, .inl ⟨k, rfl, rfl⟩, fun h => ?_, fun c' e st' => ?_⟩
  · rw [std_poss st] at h
    cases h
  · have e2 := Option.some.inj e
    obtain rfl : c = c' := by omega
    refine ⟨hc, fun h => ?_, fun k' e3 hk' => ?_⟩
    · rw [numB_some, decide_eq_true (show (0 : Int) ≤ (k : Int) by omega), decide_eq_true (show (k : Int) < (c : Int) by omega)] at h
      cases h
    · have e4 := Option.some.inj e3
      obtain rfl : k = k' := by omega
      exact g
theorem gList.on {n d c k : Nat} {H H1 : Hp} {Q : VK} (s : Same H H1) (g : gList n d c k H Q) : gList n d c k H1 Q := fun H' t s2 nt e => g H' t (s.trans s2) (s.free nt) e
theorem gPlace.on {n d c k : Nat} {H H1 : Hp} {Q : VK} (s : Same H H1) (g : gPlace n d c k H Q) : gPlace n d c k H1 Q := fun H' u ms s2 pm a pu => g H' u ms (s.trans s2) pm a (pu.back s)
section
variable {P : Program} {w : World} {K : PySem.W.Frag} {mg : Str → Option Value} {base : Heap}
theorem ok_path (T : Txt K mg) {j : Nat} : FnOk P w K mg base CX0 (j + 4) T.fPath T.fdPath ["n", "depth", "count", "number"] spPath := by
  refine T.FPath.ok scPath (fun vs H Q E h => ?_) (fun cdv A outer s H vs Q E hr h => ?_)
  · obtain ⟨n, d, c, k, rfl, _⟩ := h
    rfl
  · obtain ⟨n, d, c, k, rfl, st, hk, hc, q⟩ := h
    have hn := st.n60
    have hd := st.dn
    refine ⟨_, pss_one (ps_ret (pe_call (ok_follow T) hr (by rfl) T.gFollow T.FFollow.kp T.bFollow .nil pass0 (pa_cons (pe_call (ok_wid T) hr (by rfl) T.gWid T.FWid.kp T.bWid .nil pass0 (pa_cons (pv 0) (pa_cons (pv 1) (pa_cons (pv 2) pa_nil)))) (pa_cons (pe_listRg rfl (by rfl) T.n_list (prg_1 (by rfl) T.n_range (pv 0))) (pa_cons (pv 3) pa_nil))))), ?_⟩
    refine ⟨_, rfl, _, rfl, _, rfl, n, d, c, rfl, hn, st.n1, hd, fun H1 a s1 na hA => ?_⟩
    refine ⟨_, rfl, _, rfl, .of_le (by omega) (by omega) (by omega) (by omega), fun b nb => ?_⟩
    rw [setV_range n]
    have s2 := same_new (o := .lst (setV (List.range' 0 n))) nb
    have hw : wdsL n c d = (List.range' 0 d).map (wd n c) := by
      unfold wdsL
      rw [List.range_eq_range']
    rw [hw] at hA
    refine ⟨_, rfl, n, c, a, b, List.range' 0 d, List.range' 0 n, k, rfl, hc, SqL.of (s2 _ _ hA), ?_, .inl (SqL.of upd_same), ?_, fun x hx => ?_, path_ok st hk, fun H' u s3 pu => ?_⟩
    · rw [List.length_range']
      omega
    · rw [List.length_range']
      omega
    · have := mem_range0.mp hx
      omega
    · exact q H' u ((s1.trans s2).trans s3) (pu.back (s1.trans s2))
end
/-! ### joined -/
def spJoined (K : PySem.W.Frag) : Sp := fun vs H Q _ => ∃ (a : Addr) (ms : List Nat) (x : Nat), vs = [.ref a, .int x] ∧ SqT K H a (setV ms) ∧ ms.length ≤ 60 ∧
  ∀ H' t, Same H H' → H t = none → H' t = some (.tup (setV (srt (ms ++ [x])))) → Q (.ref t) H'
section
variable {P : Program} {w : World} {K : PySem.W.Frag} {mg : Str → Option Value} {base : Heap}
theorem ok_joined (T : Txt K mg) {j : Nat} : FnOk P w K mg base CX0 (j + 1) T.fJoined T.fdJoined ["members", "server"] (spJoined K) := by
  refine T.FJoined.ok scJoined (fun vs H Q E h => ?_) (fun cdv A outer s H vs Q E hr h => ?_)
  · obtain ⟨a, ms, x, rfl, _⟩ := h
    rfl
  · obtain ⟨a, ms, x, rfl, hA, hl, q⟩ := h
    refine ⟨_, pss_one (ps_ret (pe_callTy (call_tupleK K) (by rfl) T.n_tuple (by decide +kernel) (pa_cons (pe_callB (cr_sortTI K) (by rfl) T.n_sorted (by decide +kernel) (pa_cons (pe_op (op_catS K) (pv 0) (pe_tup (pa_cons (pv 1) pa_nil))) pa_nil)) pa_nil))), ?_⟩
    refine ⟨.ref a, rfl, _, rfl, by show 1 ≤ sizeLine; decide, fun e ne => ?_⟩
    have s1 := same_new (o := .tup [V.int (x : Int)]) ne
    refine ⟨a, e, setV ms, [V.int (x : Int)], rfl, rfl, Same.seqT s1 hA, SqT.of upd_same, by rw [setV_len, sizeLine_eq]; show ms.length + 1 ≤ _; omega, fun p H2 s2 hP => ?_⟩
    have hP2 : SqT K H2 p ((intL (ms ++ [x])).map V.int) := by
      rw [← setV_ints, setV_app]
      exact hP
    refine ⟨p, intL (ms ++ [x]), rfl, .inr hP2, by rw [List.length_map, List.length_append]; show ms.length + 1 < 64; omega, fun ns' q0 pm srtd nq0 => ?_⟩
    obtain ⟨ks, rfl, pk⟩ := ints_back pm
    rw [← setV_ints]
    obtain rfl : ks = srt (ms ++ [x]) := srt_of pk (le_back srtd)
    refine ⟨q0, _, rfl, .inl ⟨SqL.of upd_same, fun t nt => ?_⟩⟩
    have s3 := (s1.trans s2).trans (same_new (o := .lst (setV (srt (ms ++ [x])))) nq0)
    exact q _ t (s3.trans (same_new nt)) (s3.free nt) upd_same
end
/-! ### TooShort's __init__ -/
section
variable {P : Program} {w : World} {K : PySem.W.Frag} {mg : Str → Option Value} {base : Heap}
theorem ok_toos (T : Txt K mg) {j : Nat} : FnOk P w K mg base CX0 (j + 1) T.fTooS T.fdTooS ["self", "order"] (spErr K T.cTooS "order") := by
  refine T.FTooS.ok scTooS (fun vs H Q E h => ?_) (fun cdv A outer s H vs Q E hr h => ?_)
  · obtain ⟨a, v, rfl, _⟩ := h
    rfl
  · obtain ⟨a, v, rfl, ha, q⟩ := h
    refine ⟨_, pss_cons (ps_expr (pe_baseInit (by rfl) T.gcBase T.btBase.sp T.btBase.ty T.btBase.rd T.btBase.fc (pa_cons (pv 0) (pa_cons pe_str pa_nil)))) (pss_one (ps_ost (pv 0) (pv 1))), ?_⟩
    refine ⟨.ref a, rfl, a, T.cTooS, _, rfl, (by show 1 ≤ 1000; decide), T.eTooS.ox, ha, ?_⟩
    refine ⟨v, rfl, .ref a, rfl, a, T.cTooS, rfl, T.eTooS.ox, T.eTooS.no, .inl ⟨ha, fun dx nd ne => q dx nd ne⟩⟩
end
/-! ### holders -/
def inL (ls os : List Nat) : List Nat := os.filter fun x => decide (x ∈ ls)
def holdL (ls os : List Nat) (w : Nat) : List Nat := (inL ls os).take w
theorem inL_step {ls os : List Nat} {i x : Nat} (h : os[i]? = some x) : inL ls (os.take (i + 1)) = inL ls (os.take i) ++ if x ∈ ls then [x] else [] := by
  unfold inL
  rw [List.take_add_one, h, List.filter_append]
  congr 1
  show List.filter _ [x] = _
  by_cases c : x ∈ ls
  · rw [List.filter_cons_of_pos (by simpa using c), if_pos c]
    rfl
  · rw [List.filter_cons_of_neg (by simpa using c), if_neg c]
    rfl
theorem hold_step {ls os : List Nat} {w i x : Nat} (h : os[i]? = some x) : holdL ls (os.take (i + 1)) w = if (holdL ls (os.take i) w).length < w ∧ x ∈ ls then holdL ls (os.take i) w ++ [x] else holdL ls (os.take i) w := by
  unfold holdL
  rw [inL_step h, List.take_append, List.length_take]
  by_cases c : x ∈ ls
  · rw [if_pos c]
    by_cases c2 : (inL ls (os.take i)).length < w
    · rw [if_pos ⟨by omega, c⟩, List.take_of_length_le (l := [x]) (by show 1 ≤ _; omega)]
    · rw [if_neg (by omega), show w - (inL ls (os.take i)).length = 0 by omega, List.take_zero, List.append_nil]
  · rw [if_neg c, if_neg (fun z => c z.2), List.take_nil, List.append_nil]
theorem hold_len (ls os : List Nat) (w : Nat) : (holdL ls os w).length = min w (inL ls os).length := by
  unfold holdL
  rw [List.length_take]
theorem inL_mem {ls os : List Nat} {x : Nat} (h : x ∈ inL ls os) : x ∈ os ∧ x ∈ ls := by
  have := List.mem_filter.mp h
  exact ⟨this.1, of_decide_eq_true this.2⟩
theorem hold_mem {ls os : List Nat} {w x : Nat} (h : x ∈ holdL ls os w) : x ∈ os ∧ x ∈ ls := inL_mem (List.mem_of_mem_take h)
theorem hold_full {ls os : List Nat} {w i : Nat} (h : w ≤ (holdL ls (os.take i) w).length) : holdL ls os w = holdL ls (os.take i) w := by
  have e : inL ls os = inL ls (os.take i) ++ inL ls (os.drop i) := by
    unfold inL
    rw [← List.filter_append, List.take_append_drop]
  rw [hold_len] at h
  unfold holdL
  rw [e, List.take_append_of_le_length (by omega)]
/-! ### holders -/
def spHold (K : PySem.W.Frag) (CS : Addr) : Sp := fun vs H Q E => ∃ (a b : Addr) (os ls : List Nat) (f : Nat), vs = [.ref a, .ref b, .int f] ∧ SqT K H a (setV os) ∧ SqT K H b (setV ls) ∧ os.length ≤ 60 ∧ ls.length ≤ 60 ∧
  (min f ls.length ≤ (inL ls os).length → ∀ H' t, Same H H' → H t = none → H' t = some (.tup (setV (holdL ls os (min f ls.length)))) → Q (.ref t) H') ∧
  ((inL ls os).length < min f ls.length → Raised "order" CS (.ref a) H E)
section
variable {P : Program} {w : World} {K : PySem.W.Frag} {mg : Str → Option Value} {base : Heap}
theorem ok_hold (T : Txt K mg) {j : Nat} : FnOk P w K mg base (L2.CX P w) (j + 3) T.fHold T.fdHold ["order", "live", "factor"] (spHold K T.cTooS) := by
  refine T.FHold.okX scHold (fun vs H Q E h => ?_) (fun cdv A outer s H vs Q E hr h => ?_)
  · obtain ⟨a, b, os, ls, f, rfl, _⟩ := h
    rfl
  · obtain ⟨a, b, os, ls, f, rfl, hA, hB, la, lb, q1, q2⟩ := h
    refine ⟨_, pss_cons (ps_set (i := 3) scHold.nd rfl (.inl rfl) (pe_callB (call_min2 rfl) (by rfl) T.n_min (by decide +kernel) (pa_cons (pv 2) (pa_cons (pe_callB (call_lenK K) (by rfl) T.n_len PySem.boot_len (pa_cons (pv 1) pa_nil)) pa_nil)))) (pss_cons (ps_set (i := 4) scHold.nd rfl (.inl rfl) (pe_lst pa_nil)) (C8.pss_cut (ps_for (passes_of rfl) rfl (pi_tup (pv 0)) (pg_name (i := 5) scHold.nd rfl (.inl rfl)) (pss_cons (ps_if (pt_cmpR op_ge (pe_callB (call_lenK K) (by rfl) T.n_len PySem.boot_len (pa_cons (pv 4) pa_nil)) (pv 3) (nomark _)) (pss_one ps_break) pss_nil) (pss_one (ps_if (pt_cmpR (op_inK K) (pv 5) (pv 1) (by rfl)) (pss_one (ps_expr (pe_bm PySem.F.plainAttrs_list PySem.F.slot_list_append PySem.F.type_list_append mt_append (pv 4) (pa_cons (pv 5) pa_nil)))) pss_nil)))) (pss_cons (ps_if (pt_cmpR op_lt (pe_callB (call_lenK K) (by rfl) T.n_len PySem.boot_len (pa_cons (pv 4) pa_nil)) (pv 3) (nomark _)) (pss_one (ps_raise rfl (takes_of rfl rfl rfl rfl) (pmk_oex T.eTooS.ox T.eTooS.iC T.eTooS.tI (ok_toos T) hr T.bTooS .nil pass0 (by rfl) T.gcTooS (pa_cons (pv 0) pa_nil)))) pss_nil) (pss_one (ps_ret (pe_callTy (call_tupleK K) (by rfl) T.n_tuple (by decide +kernel) (pa_cons (pv 4) pa_nil))))))), ?_⟩
    have em : (if ((setV ls).length : Int) < (f : Int) then ((setV ls).length : Int) else (f : Int)) = ((min f ls.length : Nat) : Int) := by
      rw [setV_len]
      by_cases c : ls.length < f
      · rw [if_pos (by omega), Nat.min_eq_right (by omega)]
      · rw [if_neg (by omega), Nat.min_eq_left (by omega)]
    refine ⟨_, rfl, .ref b, rfl, b, _, rfl, .inr hB, _, _, rfl, ?_⟩
    dsimp only [gName]
    rw [em]
    generalize min f ls.length = wn at q1 q2
    refine ⟨Nat.zero_le _, fun pf nf => ?_⟩
    refine ⟨fun σ H2 => ∃ v5, σ = [some (.ref a), some (.ref b), some (.int f), some (.int wn), some (.ref pf), v5] ∧ Same H H2 ∧ H2 pf = some (.lst (setV (holdL ls os wn))), ?_, ?_⟩
    · refine ⟨.ref a, rfl, a, rfl, ⟨_, Same.seqT (same_new nf) hA⟩, for_tup (K := K) (a := a) (xs := setV os) (fun i σ H2 => ∃ v5, σ = [some (.ref a), some (.ref b), some (.int f), some (.int wn), some (.ref pf), v5] ∧ Same H H2 ∧ H2 pf = some (.lst (setV (holdL ls (os.take i) wn)))) ⟨none, rfl, same_new nf, ?_⟩ (fun i σ H2 _ ⟨_, _, s2, _⟩ => Same.seqT s2 hA) ?_ ?_⟩
      · rw [upd_same]
        unfold holdL inL
        simp [setV]
      · rintro i x σ H2 hz ⟨v5, rfl, s2, hF⟩
        obtain ⟨m, hm, rfl⟩ := setV_get hz
        have hl2 := hold_len ls (os.take i) wn
        have hl3 : (inL ls (os.take i)).length ≤ 60 := by
          have := List.length_filter_le (fun x => decide (x ∈ ls)) (os.take i)
          have h2 : (os.take i).length ≤ 60 := by
            rw [List.length_take]
            omega
          exact Nat.le_trans this h2
        have st := hold_step (ls := ls) (w := wn) hm
        refine ⟨.ref pf, rfl, pf, _, rfl, .inl (SqL.of hF), _, rfl, _, _, rfl, rfl, _, rfl, ite2 (fun h1 => ?_) (fun h1 => ?_)⟩
        · have h2 : wn ≤ (holdL ls (os.take i) wn).length := by
            have h3 : (wn : Int) ≤ ((setV (holdL ls (os.take i) wn)).length : Int) := of_decide_eq_true h1
            rw [setV_len] at h3
            omega
          exact ⟨_, rfl, s2, by rw [hold_full h2]; exact hF⟩
        · have h2 : (holdL ls (os.take i) wn).length < wn := by
            have h3 : ¬ (wn : Int) ≤ ((setV (holdL ls (os.take i) wn)).length : Int) := fun z => h1 (decide_eq_true z)
            rw [setV_len] at h3
            omega
          refine ⟨_, rfl, .ref b, rfl, b, _, rfl, .inr (Same.seqT s2 hB), rfl, setV_flat _, _, rfl, ?_⟩
          rw [inV_setV]
          refine ite2 (fun h3 => ?_) (fun h3 => ?_)
          · have h4 : m ∈ ls := of_decide_eq_true (by simpa using h3)
            rw [if_pos ⟨h2, h4⟩] at st
            refine ⟨.ref pf, rfl, .inl ⟨rfl, _, SqL.of hF⟩, _, rfl, pf, _, _, rfl, rfl, hF, ?_, _, rfl, keep_upd s2 nf, ?_⟩
            · rw [setV_len]
              exact small1000 (by omega)
            · rw [upd_same, st, setV_app]
              rfl
          · have h4 : ¬ m ∈ ls := fun z => h3 (by simpa using z)
            rw [if_neg (fun z => h4 z.2)] at st
            exact ⟨_, rfl, s2, by rw [st]; exact hF⟩
      · rintro σ H2 ⟨v5, rfl, s2, hF⟩
        rw [setV_len, List.take_length] at hF
        exact ⟨_, rfl, s2, hF⟩
    · rintro σ H2 ⟨v5, rfl, s2, hF⟩
      have hl2 := hold_len ls os wn
      refine ⟨.ref pf, rfl, pf, _, rfl, .inl (SqL.of hF), _, rfl, _, _, rfl, rfl, _, rfl, ite2 (fun h1 => ?_) (fun h1 => ?_)⟩
      · have h2 : (holdL ls os wn).length < wn := by
          have h3 : ((setV (holdL ls os wn)).length : Int) < (wn : Int) := of_decide_eq_true h1
          rw [setV_len] at h3
          omega
        refine ⟨.ref a, rfl, (by show 1 ≤ 1000; decide), fun e ne => ⟨e, .ref a, rfl, upd_same, fun dx nd nx => ?_⟩⟩
        obtain ⟨e1, e2, e3, e4, e5⟩ := err_end (f := "order") (v := .ref a) ne nd nx
        exact ⟨rfl, dx, _, e1, e2, e3, q2 (by omega) _ dx (s2.trans e4) e5 (s2.free e3)⟩
      · have h2 : ¬ (holdL ls os wn).length < wn := fun z => h1 (decide_eq_true (by rw [setV_len]; omega))
        refine ⟨.ref pf, rfl, pf, _, rfl, .inl ⟨SqL.of hF, fun t nt => ?_⟩⟩
        exact q1 (by omega) _ t (s2.trans (same_new nt)) (s2.free nt) upd_same
end
/-! ### successor -/
def sucV (ls os : List Nat) (f x : Nat) : V := if x ∈ holdL ls os f then .int (((inL ls os).getD f 0 : Nat) : Int) else .non
theorem inL_le {ls os : List Nat} (h : os.Nodup) : (inL ls os).length ≤ ls.length := subG_len (h.filter _) fun y hy => (inL_mem hy).2
def spSucc (K : PySem.W.Frag) (CS : Addr) : Sp := fun vs H Q E => ∃ (a b : Addr) (os ls : List Nat) (f x : Nat), vs = [.ref a, .ref b, .int f, .int x] ∧ SqT K H a (setV os) ∧ SqT K H b (setV ls) ∧ os.length ≤ 60 ∧ ls.length ≤ 60 ∧ os.Nodup ∧
  (f + 1 ≤ (inL ls os).length → ∀ H', Same H H' → Q (sucV ls os f x) H') ∧
  ((inL ls os).length ≤ f → Raised "order" CS (.ref a) H E)
section
variable {P : Program} {w : World} {K : PySem.W.Frag} {mg : Str → Option Value} {base : Heap}
theorem ok_succ (T : Txt K mg) {j : Nat} : FnOk P w K mg base (L2.CX P w) (j + 4) T.fSucc T.fdSucc ["order", "live", "factor", "failed"] (spSucc K T.cTooS) := by
  refine T.FSucc.okX scSucc (fun vs H Q E h => ?_) (fun cdv A outer s H vs Q E hr h => ?_)
  · obtain ⟨a, b, os, ls, f, x, rfl, _⟩ := h
    rfl
  · obtain ⟨a, b, os, ls, f, x, rfl, hA, hB, la, lb, nd, q1, q2⟩ := h
    refine ⟨_, pss_cons (ps_set (i := 4) scSucc.nd rfl (.inl rfl) (pe_call (ok_hold T) hr (by rfl) T.gHold T.FHold.kp T.bHold .nil (passes_call (takes_of rfl rfl rfl rfl) (fun _ _ _ _ h => h)) (pa_cons (pv 0) (pa_cons (pv 1) (pa_cons (pe_op op_add (pv 2) pe_int) pa_nil))))) (pss_cons (ps_if (pt_cmpR op_le (pe_callB (call_lenK K) (by rfl) T.n_len PySem.boot_len (pa_cons (pv 4) pa_nil)) (pv 2) (nomark _)) (pss_one (ps_raise rfl (takes_of rfl rfl rfl rfl) (pmk_oex T.eTooS.ox T.eTooS.iC T.eTooS.tI (ok_toos T) hr T.bTooS .nil pass0 (by rfl) T.gcTooS (pa_cons (pv 0) pa_nil)))) pss_nil) (pss_cons (ps_if (pt_cmpR (op_inK K) (pv 3) (pe_slice (sl_tupS K) (pv 4) po_none (po_some (pv 2))) (by rfl)) (pss_one (ps_ret (pe_ix (ix_tupK K) (pv 4) (pv 2) (fun _ _ => rfl)))) pss_nil) (pss_one (ps_ret pe_non)))), ?_⟩
    have il := inL_le (ls := ls) nd
    refine ⟨.ref a, rfl, .ref b, rfl, _, rfl, _, _, rfl, rfl, a, b, os, ls, f + 1, by dsimp only; rw [show (f : Int) + 1 = ((f + 1 : Nat) : Int) by omega]; rfl, hA, hB, la, lb, fun hle H2 t s2 nt ht => ?_, fun hlt => ?_⟩
    · have hl : (holdL ls os (min (f + 1) ls.length)).length = min (f + 1) ls.length := by
        rw [hold_len]
        omega
      refine ⟨.ref t, rfl, t, _, rfl, .inr (SqT.of ht), _, rfl, _, _, rfl, rfl, _, rfl, ?_⟩
      rw [setV_len, hl]
      refine ite2 (fun hb => ?_) (fun hb => ?_)
      · have hf : ((min (f + 1) ls.length : Nat) : Int) ≤ (f : Int) := of_decide_eq_true hb
        refine ⟨.ref a, rfl, (by show 1 ≤ 1000; decide), fun e ne => ⟨e, .ref a, rfl, upd_same, fun dx nd nx => ?_⟩⟩
        obtain ⟨e1, e2, e3, e4, e5⟩ := err_end (f := "order") (v := .ref a) ne nd nx
        exact ⟨rfl, dx, _, e1, e2, e3, q2 (by omega) _ dx (s2.trans e4) e5 (s2.free e3)⟩
      · have hf : ¬ ((min (f + 1) ls.length : Nat) : Int) ≤ (f : Int) := fun z => hb (decide_eq_true z)
        have em : min (f + 1) ls.length = f + 1 := by omega
        rw [em] at hle ht hl
        have e2 : (holdL ls os (f + 1)).take f = holdL ls os f := by
          unfold holdL
          rw [List.take_take, Nat.min_eq_left (by omega)]
        refine ⟨_, rfl, .ref t, rfl, _, rfl, _, rfl, t, _, rfl, SqT.of ht, fun p3 H3 s3 h3 => ?_⟩
        rw [cut_take, e2] at h3
        refine ⟨p3, _, rfl, .inr h3, rfl, setV_flat _, _, rfl, ?_⟩
        rw [inV_setV, if_neg (by decide)]
        have fin := q1 hle H3 (s2.trans s3)
        unfold sucV at fin
        refine ite2 (fun hb2 => ?_) (fun hb2 => ?_)
        · rw [if_pos (of_decide_eq_true hb2)] at fin
          refine ⟨.ref t, rfl, _, rfl, t, _, _, _, rfl, rfl, SqT.of (s3 _ _ ht), atI_nat ?_, fin⟩
          have e3 : (holdL ls os (f + 1))[f]? = some ((inL ls os).getD f 0) := by
            unfold holdL
            rw [List.getElem?_take, if_pos (by omega)]
            exact getD_of (by omega)
          unfold setV
          rw [List.getElem?_map, e3]
          rfl
        · rw [if_neg (fun z => hb2 (decide_eq_true z))] at fin
          exact fin
    · exact q2 (by omega)
end
/-! ### NoCluster's __init__ -/
section
variable {P : Program} {w : World} {K : PySem.W.Frag} {mg : Str → Option Value} {base : Heap}
theorem ok_noc (T : Txt K mg) {j : Nat} : FnOk P w K mg base CX0 (j + 1) T.fNoC T.fdNoC ["self", "field"] (spErr K T.cNoC "field") := by
  refine T.FNoC.ok scNoC (fun vs H Q E h => ?_) (fun cdv A outer s H vs Q E hr h => ?_)
  · obtain ⟨a, v, rfl, _⟩ := h
    rfl
  · obtain ⟨a, v, rfl, ha, q⟩ := h
    refine ⟨_, pss_cons (ps_expr (pe_baseInit (by rfl) T.gcBase T.btBase.sp T.btBase.ty T.btBase.rd T.btBase.fc (pa_cons (pv 0) (pa_cons pe_str pa_nil)))) (pss_one (ps_ost (pv 0) (pv 1))), ?_⟩
    refine ⟨.ref a, rfl, a, T.cNoC, _, rfl, (by show 1 ≤ 1000; decide), T.eNoC.ox, ha, ?_⟩
    refine ⟨v, rfl, .ref a, rfl, a, T.cNoC, rfl, T.eNoC.ox, T.eNoC.no, .inl ⟨ha, fun dx nd ne => q dx nd ne⟩⟩
end
/-! ### check_field -/
def fieldB (lo hi : Int) : Option Int → Bool
  | some c => decide (lo ≤ c) && decide (c ≤ hi)
  | none => false
def spChkF (K : PySem.W.Frag) (CN : Addr) : Sp := fun vs H Q E => ∃ (fs : Str) (v : V) (o : Option Int) (lo hi : Int), vs = [.str fs, v, .int lo, .int hi] ∧ CountV K H v o ∧
  (fieldB lo hi o = true → Q .non H) ∧ (fieldB lo hi o = false → Raised "field" CN (.str fs) H E)
section
variable {P : Program} {w : World} {K : PySem.W.Frag} {mg : Str → Option Value} {base : Heap}
theorem ok_chkf (T : Txt K mg) {j : Nat} : FnOk P w K mg base (L2.CX P w) (j + 3) T.fChkF T.fdChkF ["field", "value", "least", "most"] (spChkF K T.cNoC) := by
  refine T.FChkF.okX scChkF (fun vs H Q E h => ?_) (fun cdv A outer s H vs Q E hr h => ?_)
  · obtain ⟨fs, v, o, lo, hi, rfl, _⟩ := h
    rfl
  · obtain ⟨fs, v, o, lo, hi, rfl, hv, q1, q2⟩ := h
    refine ⟨_, pss_one (ps_if (PW.pt (pw_or (pt_not (pt_val (pe_call (ok_plain T) hr (by rfl) T.gPlain T.FPlain.kp T.bPlain .nil pass0 (pa_cons (pv 1) pa_nil)))) (pw_or (pt_cmpR op_lt (pv 1) (pv 2) (nomark _)) (pw_or1 (pt_cmpR op_gt (pv 1) (pv 3) (nomark _)))))) (pss_one (ps_raise rfl (takes_of rfl rfl rfl rfl) (pmk_oex T.eNoC.ox T.eNoC.iC T.eNoC.tI (ok_noc T) hr T.bNoC .nil pass0 (by rfl) T.gcNoC (pa_cons (pv 0) pa_nil)))) pss_nil), ?_⟩
    have raise : fieldB lo hi o = false → (tMkO T.cNoC (spErr K T.cNoC "field") [] (tCons (tVar 0) tNil)) [some (.str fs), some v, some (.int lo), some (.int hi)] H (fun cls d H' => E cls d H') := fun ho => by
      refine ⟨.str fs, rfl, (by show 1 ≤ 1000; decide), fun a na => ⟨a, .str fs, rfl, upd_same, fun dx nd ne => ?_⟩⟩
      obtain ⟨e1, e2, e3, e4, e5⟩ := err_end (f := "field") (v := .str fs) na nd ne
      exact ⟨rfl, dx, _, e1, e2, e3, q2 ho _ dx e4 e5 e3⟩
    obtain ⟨t, ht, e, ty⟩ := hv.ty
    refine ⟨v, rfl, v, t, rfl, ty, ht, _, rfl, ?_⟩
    rw [e]
    rcases hv with ⟨c, rfl, rfl⟩ | ⟨rfl, _⟩
    · refine iteF ?_
      refine ⟨_, rfl, _, rfl, _, _, rfl, rfl, _, rfl, ite2 (fun h1 => ?_) (fun h1 => ?_)⟩
      · have h2 : c < lo := of_decide_eq_true h1
        refine raise ?_
        show (decide (lo ≤ c) && decide (c ≤ hi)) = false
        rw [decide_eq_false (show ¬ lo ≤ c by omega)]
        rfl
      · have h2 : ¬ c < lo := fun z => h1 (decide_eq_true z)
        refine ⟨_, rfl, _, rfl, _, _, rfl, rfl, _, rfl, ite2 (fun h3 => ?_) (fun h3 => ?_)⟩
        · have h4 : hi < c := of_decide_eq_true h3
          refine raise ?_
          show (decide (lo ≤ c) && decide (c ≤ hi)) = false
          rw [decide_eq_false (show ¬ c ≤ hi by omega), Bool.and_false]
        · have h4 : ¬ hi < c := fun z => h3 (decide_eq_true z)
          refine q1 ?_
          show (decide (lo ≤ c) && decide (c ≤ hi)) = true
          rw [decide_eq_true (show lo ≤ c by omega), decide_eq_true (show c ≤ hi by omega)]
          rfl
    · refine iteT ?_
      exact raise rfl
end
/-! ### the law's stream of drawn numbers -/
def StrAt (H : Hp) (p : Addr) : Prop := ∃ a b : Int, H p = some (.lst [.int a, .int b]) ∧ (0 ≤ a ∧ a < 10 ^ 900) ∧ (0 ≤ b ∧ b < 2305843009213693951)
theorem StrAt.same {H H' : Hp} {p : Addr} (h : StrAt H p) (s : Same H H') : StrAt H' p := by
  obtain ⟨a, b, h1, h2⟩ := h
  exact ⟨a, b, s _ _ h1, h2⟩
theorem StrAt.ne {H : Hp} {p q : Addr} (h : StrAt H p) (n : H q = none) : p ≠ q := by
  obtain ⟨a, b, h1, _⟩ := h
  exact ne_of_none h1 n
theorem StrAt.lst {H : Hp} {p : Addr} (h : StrAt H p) : ∃ ys, H p = some (.lst ys) := by
  obtain ⟨a, b, h1, _⟩ := h
  exact ⟨_, h1⟩
theorem StrAt.upd {H : Hp} {p q : Addr} {o : HO} (h : StrAt H p) (n : p ≠ q) : StrAt (L2.upd H q o) p := by
  obtain ⟨a, b, h1, h2⟩ := h
  exact ⟨a, b, by rw [upd_ne n]; exact h1, h2⟩
def spStream (K : PySem.W.Frag) : Sp := fun vs H Q _ => ∃ (a : Addr) (ns : List Int) (i : Nat), vs = [.ref a, .int i] ∧ SqL K H a (ns.map V.int) ∧ i ≤ 100 ∧ ns.length ≤ 1000 ∧ ∀ H' p, Same H H' → H p = none → StrAt H' p → Q (.ref p) H'
theorem own_okS (x : Int) (c : Bool) : 0 ≤ x % (10 : Int) ^ 900 * (if c then 1 else 0) ∧ x % (10 : Int) ^ 900 * (if c then 1 else 0) < 10 ^ 900 := by
  have p : (0 : Int) < 10 ^ 900 := Int.pow_pos (by decide)
  generalize (10 : Int) ^ 900 = B at p
  have h1 := Int.emod_nonneg x (show B ≠ 0 by omega)
  have h2 := Int.emod_lt_of_pos x p
  cases c with
  | true =>
    rw [if_pos rfl, Int.mul_one]
    exact ⟨h1, h2⟩
  | false =>
    rw [if_neg (by decide), Int.mul_zero]
    exact ⟨Int.le_refl _, p⟩
theorem bit_inS (c : Bool) : -(2 ^ 64) < (if c then (1 : Int) else 0) ∧ (if c then (1 : Int) else 0) < 2 ^ 64 := by
  cases c <;> decide
section
variable {P : Program} {w : World} {K : PySem.W.Frag} {mg : Str → Option Value} {base : Heap}
theorem ok_stream (T : Txt K mg) {j : Nat} : FnOk P w K mg base CX0 (j + 1) T.fStream T.fdStream ["_law_script", "_law_k"] (spStream K) := by
  refine T.FStream.ok scStream (fun vs H Q E h => ?_) (fun cdv A outer s H vs Q E hr h => ?_)
  · obtain ⟨a, ns, i, rfl, _⟩ := h
    rfl
  · obtain ⟨a, ns, i, rfl, hS, hi, hl, q⟩ := h
    refine ⟨_, C8.pss_cut (ps_set (i := 2) scStream.nd rfl (.inl rfl) (pe_ifExp (pt_cmpR op_lt (pv 1) (pe_callB (call_lenK K) (by rfl) T.n_len PySem.boot_len (pa_cons (pv 0) pa_nil)) (nomark _)) (pe_ix (ix_listK K) (pv 0) (pv 1) (fun _ _ => rfl)) (pe_op op_add (pe_op op_mul pe_int (pv 1)) (pe_callB (call_lenK K) (by rfl) T.n_len PySem.boot_len (pa_cons (pv 0) pa_nil))))) (pss_cons (ps_set (i := 3) scStream.nd rfl (.inl rfl) (pe_op op_mul (pe_op op_mod (pe_callB call_abs (by rfl) T.n_abs (by decide +kernel) (pa_cons (pv 2) pa_nil)) (pe_callTy (cr_intL T.kitDig) (by rfl) T.n_int (by decide +kernel) (pa_cons (pe_op op_add_str pe_str (pe_op op_repS pe_str pe_int)) pa_nil))) (pe_callTy call_int1 (by rfl) T.n_int (by decide +kernel) (pa_cons (pe_cmpR op_ge (pe_callB call_abs (by rfl) T.n_abs (by decide +kernel) (pa_cons (pv 2) pa_nil)) (pe_op op_pow pe_int pe_int) (nomark _)) pa_nil)))) (pss_one (ps_ret (pe_lst (pa_cons (pv 3) (pa_cons (pe_op op_mod (pe_op op_mul (pe_op op_add (pe_op op_add (pe_op op_mod (pv 2) pe_int) (pe_op op_mul (pe_op op_mul pe_int (pv 1)) (pv 1))) pe_int) pe_int) pe_int) pa_nil)))))), ?_⟩
    refine ⟨fun σ H2 => ∃ x : Int, σ = [some (.ref a), some (.int i), some (.int x), none] ∧ H2 = H, ?_, ?_⟩
    · refine ⟨_, rfl, .ref a, rfl, a, _, rfl, .inl hS, _, _, rfl, rfl, _, rfl, ite2 (fun h1 => ?_) (fun h1 => ?_)⟩
      · have hlt : i < ns.length := by
          have h2 := of_decide_eq_true h1
          rw [List.length_map] at h2
          omega
        exact ⟨.ref a, rfl, _, rfl, a, _, _, _, rfl, rfl, hS, atI_nat (v := V.int ns[i]) (by rw [List.getElem?_map, List.getElem?_eq_getElem hlt]; rfl), _, rfl, rfl⟩
      · exact ⟨_, rfl, _, _, rfl, rfl, .inl ⟨by decide, by decide⟩, .ref a, rfl, a, _, rfl, .inl hS, _, _, rfl, rfl, _, rfl, rfl⟩
    · rintro σ H2 ⟨x, rfl, rfl⟩
      refine ⟨_, rfl, _, rfl, Str.ofString "0", 900, rfl, rfl, by decide, by decide, by decide, by decide, (by show zeros900.length ≤ sizeLine; rw [zeros_len, sizeLine_eq]; decide), Str.ofString "1", zeros900, rfl, rfl, (by rw [zeros_len, sizeLine_eq]; decide), Str.ofString "1" ++ zeros900, 10 ^ 900, rfl, big_text, big_seen, (by rw [big_len]; decide), _, _, rfl, rfl, Int.pow_pos (by decide), ?_⟩
      refine ⟨_, rfl, _, rfl, _, _, rfl, rfl, ⟨by decide, by decide, by decide⟩, _, _, rfl, rfl, .inr ⟨_, rfl, _, _, rfl, rfl, .inr (bit_inS _), ?_⟩⟩
      refine ⟨_, rfl, _, rfl, _, _, rfl, rfl, (show (0 : Int) < 2305843009213693951 by decide), _, rfl, _, _, rfl, rfl, .inl ⟨by decide, by decide⟩, _, rfl, _, _, rfl, rfl, .inr ⟨by omega, by omega⟩, _, _, rfl, rfl, _, _, rfl, rfl, _, _, rfl, rfl, .inr ⟨by decide, by decide⟩, _, _, rfl, rfl, (show (0 : Int) < 2305843009213693951 by decide), ?_⟩
      refine ⟨by show 2 ≤ sizeLine; decide, fun p np => ?_⟩
      refine q _ p (same_new np) np ⟨_, _, upd_same, own_okS _ _, ⟨Int.emod_nonneg _ (by decide), Int.emod_lt_of_pos _ (by decide)⟩⟩
end
/-! ### a number drawn -/
def spDraw : Sp := fun vs H Q _ => ∃ (p : Addr) (u : Int), vs = [.ref p, .int u] ∧ StrAt H p ∧ 1 ≤ u ∧ u < 2 ^ 1000 ∧
  ∀ (r : Int) (H' : Hp), 0 ≤ r → r < u → StrAt H' p → But p H H' → Q (.int r) H'
section
variable {P : Program} {w : World} {K : PySem.W.Frag} {mg : Str → Option Value} {base : Heap}
theorem ok_draw (T : Txt K mg) {j : Nat} : FnOk P w K mg base CX0 (j + 1) T.fDraw T.fdDraw ["_law_stream_here", "_law_below"] spDraw := by
  refine T.FDraw.ok scDraw (fun vs H Q E h => ?_) (fun cdv A outer s H vs Q E hr h => ?_)
  · obtain ⟨p, u, rfl, _⟩ := h
    rfl
  · obtain ⟨p, u, rfl, ⟨a, b, hp, ha, hb⟩, hu1, hu2, q⟩ := h
    refine ⟨_, pss_cons (ps_if (pt_cmpR op_gt (pe_ix (ix_listK K) (pv 0) pe_int (fun _ _ => rfl)) pe_int (nomark _)) (pss_cons (ps_set (i := 2) scDraw.nd rfl (.inl rfl) (pe_op op_mod (pe_ix (ix_listK K) (pv 0) pe_int (fun _ _ => rfl)) (pv 1))) (pss_cons (ps_asg (pe_op op_fdivW (pe_ix (ix_listK K) (pv 0) pe_int (fun _ _ => rfl)) (pv 1)) (pg_sub (pv 0) pe_int set_list)) (pss_one (ps_ret (pv 2))))) pss_nil) (pss_cons (ps_asg (pe_op op_mod (pe_op op_add (pe_op op_mul (pe_ix (ix_listK K) (pv 0) pe_int (fun _ _ => rfl)) pe_int) pe_int) pe_int) (pg_sub (pv 0) pe_int set_list)) (pss_one (ps_ret (pe_op op_mod (pe_op op_fdiv (pe_op op_mod (pe_op op_mul (pe_op op_fdiv (pe_ix (ix_listK K) (pv 0) pe_int (fun _ _ => rfl)) pe_int) (pe_op op_add (pe_op op_mod (pe_ix (ix_listK K) (pv 0) pe_int (fun _ _ => rfl)) pe_int) pe_int)) pe_int) pe_int) (pv 1))))), ?_⟩
    refine ⟨.ref p, rfl, p, _, _, _, rfl, rfl, SqL.of hp, rfl, _, _, rfl, rfl, _, rfl, ite2 (fun h1 => ?_) (fun h1 => ?_)⟩
    · have h0 : 0 < a := of_decide_eq_true h1
      refine ⟨.ref p, rfl, p, _, _, _, rfl, rfl, SqL.of hp, rfl, _, rfl, _, _, rfl, rfl, by omega, ?_⟩
      refine ⟨.ref p, rfl, p, _, _, _, rfl, rfl, SqL.of hp, rfl, _, rfl, _, _, rfl, rfl, wide_div (b := 1000) (by omega) (by omega) (by decide) (by decide), ?_⟩
      refine ⟨.ref p, rfl, p, _, _, 0, rfl, rfl, hp, rfl, ?_⟩
      refine ⟨_, rfl, q _ _ (Int.emod_nonneg _ (by omega)) (Int.emod_lt_of_pos _ (by omega)) ⟨a / u, b, upd_same, ?_, hb⟩ (But.refl p H).upd⟩
      have h3 : a / u ≤ a := Int.ediv_le_self _ (by omega)
      exact ⟨Int.ediv_nonneg (by omega) (by omega), Int.lt_of_le_of_lt h3 ha.2⟩
    · refine ⟨.ref p, rfl, p, _, _, _, rfl, rfl, SqL.of hp, rfl, _, _, rfl, rfl, .inl ⟨by omega, by omega⟩, _, _, rfl, rfl, _, _, rfl, rfl, (show (0 : Int) < 2305843009213693951 by decide), .ref p, rfl, p, _, _, 1, rfl, rfl, hp, rfl, ?_⟩
      have c0 := Int.emod_nonneg (b * 1181783497276652981 + 12345678910987) (show (2305843009213693951 : Int) ≠ 0 by decide)
      have c1 := Int.emod_lt_of_pos (b * 1181783497276652981 + 12345678910987) (show (0 : Int) < 2305843009213693951 by decide)
      dsimp only
      generalize (b * 1181783497276652981 + 12345678910987) % 2305843009213693951 = c at c0 c1 ⊢
      have hp2 : (upd H p (.lst ([V.int a, V.int b].set 1 (V.int c)))) p = some (.lst [V.int a, V.int c]) := upd_same
      have d0 := Int.ediv_nonneg c0 (show (0 : Int) ≤ 65537 by decide)
      have d1 : c / 65537 ≤ c := Int.ediv_le_self _ c0
      refine ⟨.ref p, rfl, p, _, _, _, rfl, rfl, SqL.of hp2, rfl, _, _, rfl, rfl, ⟨by decide, by decide⟩, .ref p, rfl, p, _, _, _, rfl, rfl, SqL.of hp2, rfl, _, _, rfl, rfl, (show (0 : Int) < 65537 by decide), _, _, rfl, rfl, _, _, rfl, rfl, .inl ⟨by omega, by omega⟩, _, _, rfl, rfl, (show (0 : Int) < 2305843009213693921 by decide), _, _, rfl, rfl, ⟨by decide, by decide⟩, _, rfl, _, _, rfl, rfl, by omega, ?_⟩
      exact q _ _ (Int.emod_nonneg _ (by omega)) (Int.emod_lt_of_pos _ (by omega)) ⟨a, c, hp2, ha, c0, c1⟩ (But.refl p H).upd
end
/-! ### some things in a drawn order -/
/-- a server, or a tuple of servers -/
def TI (K : PySem.W.Frag) (H : Hp) (v : V) (d : PyData) : Prop := (∃ m : Nat, m < 60 ∧ v = .int (m : Int) ∧ d = .int (m : Int)) ∨ ∃ (t : Addr) (ms : List Nat), v = .ref t ∧ SqT K H t (setV ms) ∧ ms.length ≤ 60 ∧ (∀ x ∈ ms, x < 60) ∧ d = .tuple (natD ms)
theorem TI.dp {K : PySem.W.Frag} {H : Hp} {v : V} {d : PyData} (h : TI K H v d) : Dp K H v d := by
  rcases h with ⟨m, _, rfl, rfl⟩ | ⟨t, ms, rfl, hT, _, _, rfl⟩
  · exact .int _
  · exact .tup hT (dp_set ms)
theorem TI.sh {K : PySem.W.Frag} {H : Hp} {v : V} {d : PyData} (h : TI K H v d) : Sh 1 500 d := by
  rcases h with ⟨m, hm, rfl, rfl⟩ | ⟨t, ms, rfl, hT, hl, hx, rfl⟩
  · exact (Sh.int (b := 6) (by decide) (by decide) (i := (m : Int)) (by rw [Int.natAbs_natCast]; omega)).mono (by decide) (by decide)
  · exact sh_list hl hx
theorem SqT_but {K : PySem.W.Frag} {H H' : Hp} {a p : Addr} {xs ys : List V} (h : SqT K H a xs) (hp : H p = some (.lst ys)) (b : But p H H') : SqT K H' a xs := by
  rcases h with (h | ⟨o, h⟩) | h
  · exact .inl (.inl (b _ _ (fun c => by rw [c, hp] at h; cases h) h))
  · exact .inl (.inr ⟨o, b _ _ (fun c => by rw [c, hp] at h; cases h) h⟩)
  · exact .inr h
theorem TI.same {K : PySem.W.Frag} {H H' : Hp} {v : V} {d : PyData} (s : Same H H') (h : TI K H v d) : TI K H' v d := by
  rcases h with h | ⟨t, ms, e, hT, r⟩
  · exact .inl h
  · exact .inr ⟨t, ms, e, Same.seqT s hT, r⟩
theorem TI.updL {K : PySem.W.Frag} {H : Hp} {v : V} {d : PyData} {D : Addr} {ys : List V} {o : HO} (h : TI K H v d) (hD : H D = some (.lst ys)) : TI K (upd H D o) v d := by
  rcases h with h | ⟨t, ms, e, hT, r⟩
  · exact .inl h
  · exact .inr ⟨t, ms, e, SqT_updL hT hD, r⟩
theorem TI.but {K : PySem.W.Frag} {H H' : Hp} {v : V} {d : PyData} {p : Addr} (h : TI K H v d) (hp : StrAt H p) (b : But p H H') : TI K H' v d := by
  obtain ⟨ys, e⟩ := hp.lst
  rcases h with h | ⟨t, ms, e2, hT, r⟩
  · exact .inl h
  · exact .inr ⟨t, ms, e2, SqT_but hT e b, r⟩
def Els (K : PySem.W.Frag) (H : Hp) (xs : List V) : Prop := ∀ x ∈ xs, ∃ d, TI K H x d
theorem Els.data {K : PySem.W.Frag} {H : Hp} : ∀ {xs : List V}, Els K H xs → ∃ ds, DpAll K H xs ds ∧ ShAll 1 (501 * xs.length) ds ∧ ds.length = xs.length
  | [], _ => ⟨[], .nil, ShAll.nil.mono (by decide) (Nat.zero_le _), rfl⟩
  | x :: r, h => by
    obtain ⟨d, hd⟩ := h x List.mem_cons_self
    obtain ⟨ds, h1, h2, h3⟩ := Els.data fun y hy => h y (List.mem_cons_of_mem _ hy)
    exact ⟨d :: ds, .cons hd.dp h1, (ShAll.cons hd.sh h2).mono (Nat.le_refl _) (by rw [List.length_cons, Nat.mul_succ]; omega), congrArg (· + 1) h3⟩
theorem Els.set {K : PySem.W.Frag} {H : Hp} {ms : List Nat} (h : ∀ x ∈ ms, x < 60) : Els K H (setV ms) := fun v hv => by
  obtain ⟨m, hm, rfl⟩ := setV_mem hv
  exact ⟨_, .inl ⟨m, h m hm, rfl, rfl⟩⟩
def spShuffd (K : PySem.W.Frag) : Sp := fun vs H Q _ => ∃ (p : Addr) (a : Addr) (xs : List V), vs = [.ref p, .ref a] ∧ StrAt H p ∧ (SqL K H a xs ∨ SqT K H a xs) ∧ xs.length ≤ 1000 ∧ Els K H xs ∧
  ∀ H' q ys, But p H H' → H q = none → H' q = some (.lst ys) → ys.Perm xs → StrAt H' p → Q (.ref q) H'
def WShuffd (K : PySem.W.Frag) (p a pl pf : Addr) (xs : List V) (H : Hp) (k : Nat) (σ : L2.St) (H' : Hp) : Prop := ∃ L F : List V, σ = [some (.ref p), some (.ref a), some (.ref pl), some (.ref pf)] ∧ H' pl = some (.lst L) ∧ H' pf = some (.lst F) ∧ (F ++ L).Perm xs ∧ StrAt H' p ∧ But p H H' ∧ Els K H' xs ∧ k = L.length
section
variable {P : Program} {w : World} {K : PySem.W.Frag} {mg : Str → Option Value} {base : Heap}
theorem ok_shuffd (T : Txt K mg) {j : Nat} : FnOk P w K mg base CX0 (j + 2) T.fShuffd T.fdShuffd ["_law_stream_here", "_law_items"] (spShuffd K) := by
  refine T.FShuffd.ok scShuffd (fun vs H Q E h => ?_) (fun cdv A outer s H vs Q E hr h => ?_)
  · obtain ⟨p, a, xs, rfl, _⟩ := h
    rfl
  · obtain ⟨p, a, xs, rfl, P0, hA, hl, els, q⟩ := h
    have hu64 : (A.deeper (envOfC "_law_shuffled" (defScope sShuffd) s.heap.objs.size T.fShuffd cdv)).units + 64 < cLine := by
      have := hr.un
      omega
    refine ⟨_, pss_cons (ps_par (i := 2) (j := 3) rfl scShuffd.nd rfl rfl (by decide) rfl rfl (pa_cons (pe_callTy (call_listK K) (by rfl) T.n_list (by decide +kernel) (pa_cons (pv 1) pa_nil)) (pa_cons (pe_lst pa_nil) pa_nil)) (by rfl)) (pss_cons (ps_while PassesOwn.never (pt_cmpR (op_neDK K hu64) (pv 2) (pe_lst pa_nil) (nomark _)) (pss_one (ps_expr (pe_bm PySem.F.plainAttrs_list PySem.F.slot_list_append PySem.F.type_list_append mt_append (pv 3) (pa_cons (pe_bm PySem.F.plainAttrs_list PySem.F.slot_list_pop PySem.F.type_list_pop mt_popAt (pv 2) (pa_cons (pe_call (ok_draw T) hr (by rfl) T.gDraw T.FDraw.kp T.bDraw .nil pass0 (pa_cons (pv 0) (pa_cons (pe_callB (call_lenK K) (by rfl) T.n_len PySem.boot_len (pa_cons (pv 2) pa_nil)) pa_nil))) pa_nil)) pa_nil))))) (pss_one (ps_ret (pv 3)))), ?_⟩
    refine ⟨.ref a, rfl, a, _, rfl, hA, fun pl nl => ⟨Nat.zero_le _, fun pf nf => ⟨_, _, rfl, ?_⟩⟩⟩
    have hpl : pl ≠ p := (P0.ne nl).symm
    have P1 := P0.same (same_new (o := .lst xs) nl)
    have hpf : pf ≠ p := (P1.ne nf).symm
    have npf : pf ≠ pl := fun z => by
      rw [z, upd_same] at nf
      cases nf
    have ff : H pf = none := (same_new nl).free nf
    have s0 := (same_new (o := .lst xs) nl).trans (same_new (o := .lst []) nf)
    refine ⟨WShuffd K p a pl pf xs H, ⟨xs.length, xs, [], rfl, ?_, upd_same, List.Perm.refl _, P0.same s0, But.of s0, fun x hx => ?_, rfl⟩, ?_⟩
    · rw [upd_ne npf.symm]
      exact upd_same
    · obtain ⟨d, hd⟩ := els x hx
      exact ⟨d, hd.same s0⟩
    rintro k σ H2 ⟨L, F, rfl, hL, hF, pm, P2, B2, els2, rfl⟩
    have elsL : Els K H2 L := fun x hx => els2 x (pm.mem_iff.mp (List.mem_append_right _ hx))
    have hlen := pm.length_eq
    rw [List.length_append] at hlen
    refine ⟨.ref pl, rfl, Nat.zero_le _, fun e ne => ?_⟩
    have se := same_new (o := .lst []) ne
    obtain ⟨ds, d1, d2, d3⟩ := Els.data elsL
    have sL := (Sh.lst d2).shaped (by decide)
    refine ⟨.list ds, .list [], .lst (SqL.of (se _ _ hL)) (DpAll.mono se d1), .lst (SqL.of upd_same) .nil, sL, (Sh.lst ShAll.nil).shaped (by decide), _, rfl, ?_⟩
    have P3 := P2.same se
    have B3 := B2.same se
    have hL3 := se _ _ hL
    have hF3 := se _ _ hF
    have els3 : Els K (upd H2 e (.lst [])) xs := fun x hx => by
      obtain ⟨d, hd⟩ := els2 x hx
      exact ⟨d, hd.same se⟩
    generalize upd H2 e (.lst []) = H3 at P3 B3 hL3 hF3 els3
    cases L with
    | nil =>
      cases ds with
      | cons _ _ => cases d3
      | nil =>
        refine iteF ⟨_, rfl, ?_⟩
        rw [List.append_nil] at pm
        rw [List.length_nil, Nat.add_zero] at hlen
        exact q H3 pf F B3 ff hF3 pm P3
    | cons y r =>
      cases ds with
      | nil => cases d3
      | cons d ds =>
        refine iteT ?_
        refine ⟨WShuffd K p a pl pf xs H r.length, fun σ' H'' hw => ⟨r.length, Nat.lt_succ_self _, hw⟩, ?_⟩
        have hlr : (y :: r).length = r.length + 1 := rfl
        refine ⟨.ref pf, rfl, .inl ⟨rfl, _, SqL.of hF3⟩, .ref pl, rfl, .inl ⟨rfl, _, SqL.of hL3⟩, .ref p, rfl,   .ref pl, rfl, pl, _, rfl, .inl (SqL.of hL3), p, _, rfl, P3, by omega, ?_, fun x H7 x0 xl P7 B7 => ?_⟩
        · exact Int.lt_trans (show ((y :: r).length : Int) < 2000 by omega) (by decide +kernel)
        obtain ⟨k, rfl⟩ := Int.eq_ofNat_of_zero_le x0
        have hk : k < (y :: r).length := by omega
        have hL7 := B7 _ _ hpl hL3
        have hF7 := B7 _ _ hpf hF3
        refine ⟨pl, _, (k : Int), k, _, rfl, rfl, hL7, by omega, by omega, seq_at hk, List.getElem?_eq_getElem hk, pf, _, _, rfl, rfl, (by rw [upd_ne npf]; exact hF7), small1000 (by omega), ?_⟩
        refine ⟨(y :: r).eraseIdx k, F ++ [(y :: r)[k]], rfl, ?_, upd_same, ?_, ?_, ?_, ?_, ?_⟩
        · rw [upd_ne npf.symm, upd_same]
        · rw [List.append_assoc]
          exact ((erase_perm (y :: r) k _ (List.getElem?_eq_getElem hk)).append_left F).trans pm
        · exact (P7.upd hpl.symm).upd hpf.symm
        · exact but_new (but_new (B3.trans B7) nl) ff
        · intro x hx
          obtain ⟨d, hd⟩ := els3 x hx
          have h7 := hd.but P3 B7
          exact ⟨d, (h7.updL hL7).updL (ys := F) (by rw [upd_ne npf]; exact hF7)⟩
        · rw [List.length_eraseIdx, if_pos hk]
          omega
end
/-! ### the law's binomial -/
def spComb : Sp := fun vs H Q _ => ∃ n k : Nat, vs = [.int n, .int k] ∧ n ≤ 60 ∧ k ≤ n ∧ Q (.int (C n k : Nat)) H
section
variable {P : Program} {w : World} {K : PySem.W.Frag} {mg : Str → Option Value} {base : Heap}
theorem ok_comb (T : Txt K mg) {j : Nat} : FnOk P w K mg base CX0 (j + 1) T.fComb T.fdComb ["_law_n", "_law_k"] spComb := by
  refine T.FComb.ok scComb (fun vs H Q E h => ?_) (fun cdv A outer s H vs Q E hr h => ?_)
  · obtain ⟨n, k, rfl, _⟩ := h
    rfl
  · obtain ⟨n, k, rfl, hn, hk, q⟩ := h
    refine ⟨_, pss_cons (ps_set (i := 2) scComb.nd rfl (.inl rfl) pe_int) (pss_cons (ps_for PassesOwn.never rfl (pi_range1 (by rfl) T.n_range (pa_cons (pv 1) pa_nil)) (pg_name (i := 3) scComb.nd rfl (.inl rfl)) (pss_one (ps_set (i := 2) scComb.nd rfl (.inl rfl) (pe_op op_fdiv (pe_op op_mul (pv 2) (pe_op op_sub (pv 0) (pv 3))) (pe_op op_add (pv 3) pe_int))))) (pss_one (ps_ret (pe_ifExp (pt_cmpR op_le (pv 1) (pv 0) (nomark _)) (pv 2) pe_int)))), ?_⟩
    refine ⟨_, rfl, (k : Int), rfl, by omega, by omega, ?_⟩
    refine for_range (lo := 0) (n := (k : Int).toNat) (fun i σ H2 => ∃ v, σ = [some (.int n), some (.int k), some (.int (C n i : Nat)), v] ∧ H2 = H) ⟨none, by rw [C_zero]; rfl, rfl⟩ ?_ ?_
    · rintro i σ H2 hi ⟨v, rfl, rfl⟩
      have c60 := C_60 n i hn
      rw [Int.zero_add]
      refine ⟨_, rfl, _, rfl, _, rfl, _, _, rfl, rfl, _, _, rfl, rfl, .inr ⟨by omega, by omega⟩, _, rfl, _, _, rfl, rfl, _, _, rfl, rfl, ⟨by omega, by omega⟩, some (.int (i : Int)), ?_, rfl⟩
      have e := C_div n i (by omega)
      rw [show (n : Int) + 1 - (1 + (i : Int)) = (n : Int) - (i : Int) by omega, show 1 + (i : Int) = (i : Int) + 1 by omega] at e
      rw [← e]
      rfl
    · rintro σ H2 ⟨v, rfl, rfl⟩
      rw [Int.toNat_natCast]
      exact ⟨_, rfl, _, rfl, _, _, rfl, rfl, _, rfl, ite2 (fun _ => ⟨_, rfl, q⟩) (fun z => absurd (decide_eq_true (show (k : Int) ≤ (n : Int) by omega)) z)⟩
end
/-! ### the law's common divisor -/
def spGcdS : Sp := fun vs H Q _ => ∃ a b : Nat, vs = [.int a, .int b] ∧ Q (.int (Nat.gcd a b : Nat)) H
def WGcdS (a b : Nat) (H : Hp) (m : Nat) (σ : L2.St) (H' : Hp) : Prop := ∃ x y : Nat, σ = [some (.int x), some (.int y)] ∧ H' = H ∧ Nat.gcd x y = Nat.gcd a b ∧ m = y
theorem common_turn (x y : Nat) : Nat.gcd y (x % y) = Nat.gcd x y := by
  rw [Nat.gcd_comm x y, Nat.gcd_rec y x, Nat.gcd_comm]
section
variable {P : Program} {w : World} {K : PySem.W.Frag} {mg : Str → Option Value} {base : Heap}
theorem ok_gcds (T : Txt K mg) {j : Nat} : FnOk P w K mg base CX0 (j + 1) T.fGcdS T.fdGcdS ["_law_a", "_law_b"] spGcdS := by
  refine T.FGcdS.ok scGcdS (fun vs H Q E h => ?_) (fun cdv A outer s H vs Q E hr h => ?_)
  · obtain ⟨a, b, rfl, _⟩ := h
    rfl
  · obtain ⟨a, b, rfl, q⟩ := h
    refine ⟨_, pss_cons (ps_while PassesOwn.never (pt_cmpR op_gt (pv 1) pe_int (nomark _)) (pss_one (ps_par (i := 0) (j := 1) rfl scGcdS.nd rfl rfl (by decide) rfl rfl (pa_cons (pv 1) (pa_cons (pe_op op_mod (pv 0) (pv 1)) pa_nil)) (by rfl))))
      (pss_one (ps_ret (pv 0))), ?_⟩
    refine ⟨WGcdS a b H, ⟨b, a, b, rfl, rfl, rfl, rfl⟩, ?_⟩
    rintro m σ H' ⟨x, y, rfl, rfl, hg, rfl⟩
    refine ⟨_, rfl, _, _, rfl, rfl, _, rfl, ite2 (fun h1 => ?_) (fun h1 => ?_)⟩
    · have h0 : (0 : Int) < (m : Int) := of_decide_eq_true h1
      refine ⟨WGcdS a b H' (x % m), fun σ' H'' hw => ⟨x % m, Nat.mod_lt _ (by omega), hw⟩, ?_⟩
      refine ⟨_, rfl, _, rfl, _, rfl, _, _, rfl, rfl, h0, _, _, rfl, m, x % m, ?_, rfl, by rw [common_turn]; exact hg, rfl⟩
      rw [Int.natCast_emod]
      rfl
    · have h0 : m = 0 := by
        have h2 : ¬ (0 : Int) < (m : Int) := fun z => h1 (decide_eq_true z)
        omega
      subst h0
      rw [Nat.gcd_zero_right] at hg
      rw [← hg] at q
      exact ⟨_, rfl, q⟩
end
/-! ### the law's least number of lists -/
def spLeast : Sp := fun vs H Q _ => ∃ n d : Nat, vs = [.int n, .int d] ∧ n ≤ 60 ∧ 1 ≤ n ∧ d ≤ n ∧ Q (.int (leastL n d : Nat)) H
theorem step_alt {a b : Nat} (ha : 0 < a) : a * b / Nat.gcd a b = stepL a b := by
  unfold stepL
  obtain ⟨x, hx⟩ := Nat.gcd_dvd_left a b
  have g0 : 0 < Nat.gcd a b := Nat.gcd_pos_of_pos_left b ha
  generalize Nat.gcd a b = g at hx g0
  subst hx
  rw [Nat.mul_div_cancel_left _ g0, Nat.mul_assoc, Nat.mul_div_cancel_left _ g0]
section
variable {P : Program} {w : World} {K : PySem.W.Frag} {mg : Str → Option Value} {base : Heap}
theorem ok_leasts (T : Txt K mg) {j : Nat} : FnOk P w K mg base CX0 (j + 2) T.fLeastS T.fdLeastS ["_law_n", "_law_depth"] spLeast := by
  refine T.FLeastS.ok scLeastS (fun vs H Q E h => ?_) (fun cdv A outer s H vs Q E hr h => ?_)
  · obtain ⟨n, d, rfl, _⟩ := h
    rfl
  · obtain ⟨n, d, rfl, hn, h1, hd, q⟩ := h
    refine ⟨_, pss_cons (ps_set (i := 2) scLeastS.nd rfl (.inl rfl) pe_int) (pss_cons (ps_for PassesOwn.never rfl (pi_range1 (by rfl) T.n_range (pa_cons (pv 1) pa_nil)) (pg_name (i := 3) scLeastS.nd rfl (.inl rfl)) (pss_cons (ps_set (i := 4) scLeastS.nd rfl (.inl rfl) (pe_op op_mul (pv 0) (pe_call (ok_comb T) hr (by rfl) T.gComb T.FComb.kp T.bComb .nil pass0 (pa_cons (pe_op op_sub (pv 0) pe_int) (pa_cons (pv 3) pa_nil))))) (pss_one (ps_set (i := 2) scLeastS.nd rfl (.inl rfl) (pe_op op_fdivW (pe_op op_mul (pv 2) (pv 4)) (pe_call (ok_gcds T) hr (by rfl) T.gGcdS T.FGcdS.kp T.bGcdS .nil pass0 (pa_cons (pv 2) (pa_cons (pv 4) pa_nil)))))))) (pss_one (ps_ret (pv 2)))), ?_⟩
    refine ⟨_, rfl, (d : Int), rfl, by omega, by omega, ?_⟩
    refine for_range (lo := 0) (n := (d : Int).toNat) (fun i σ H2 => ∃ v3 v4, σ = [some (.int n), some (.int d), some (.int (leastL n i : Nat)), v3, v4] ∧ H2 = H) ⟨none, none, rfl, rfl⟩ ?_ ?_
    · rintro i σ H2 hi ⟨v3, v4, rfl, rfl⟩
      have hin : i < n := by omega
      have e0 := edge_pos hin
      have e1 := edge_lt (d := i) hn
      have L0 := leastL_pos (n := n) (d := i) (by omega)
      have c60 := C_60 (n - 1) i (by omega)
      have en : (n : Int) - 1 = ((n - 1 : Nat) : Int) := by omega
      rw [Int.zero_add]
      refine ⟨_, rfl, _, rfl, _, _, rfl, rfl, _, rfl, n - 1, i, by dsimp only; rw [en]; rfl, by omega, by omega, _, _, rfl, rfl, .inl ⟨by omega, by omega⟩, ?_⟩
      have ec : (n : Int) * ((C (n - 1) i : Nat) : Int) = ((n * C (n - 1) i : Nat) : Int) := (Int.natCast_mul _ _).symm
      dsimp only [gName]
      rw [ec]
      have g0 : 0 < Nat.gcd (leastL n i) (n * C (n - 1) i) := Nat.gcd_pos_of_pos_right _ e0
      have g1 : Nat.gcd (leastL n i) (n * C (n - 1) i) ≤ n * C (n - 1) i := Nat.gcd_le_right _ e0
      refine ⟨_, rfl, _, rfl, _, _, rfl, rfl, .inr ⟨by omega, by omega⟩, _, rfl, _, rfl, leastL n i, n * C (n - 1) i, rfl, _, _, rfl, rfl, wide_div (b := 64) (by omega) (by omega) (by decide) (by decide), some (.int (i : Int)), some (.int ((n * C (n - 1) i : Nat) : Int)), ?_, rfl⟩
      have es : leastL n (i + 1) = stepL (leastL n i) (n * C (n - 1) i) := rfl
      rw [es, ← step_alt L0, Int.natCast_ediv, Int.natCast_mul]
      rfl
    · rintro σ H2 ⟨v3, v4, rfl, rfl⟩
      rw [Int.toNat_natCast]
      exact ⟨_, rfl, q⟩
end
/-! ### a cluster in the heap -/
def fldC (n fl fa c : Nat) (tl pl : Addr) : List (Str × V) := [("n", .int n), ("failures", .int fl), ("factor", .int fa), ("count", .int c), ("living", .ref tl), ("past", .ref pl)]
section
variable {n fl fa c : Nat} {tl pl : Addr}
theorem fldC_n : (fldC n fl fa c tl pl).lookup ("n" : Str) = some (.int n) := by rfl
theorem fldC_failures : (fldC n fl fa c tl pl).lookup ("failures" : Str) = some (.int fl) := by rfl
theorem fldC_factor : (fldC n fl fa c tl pl).lookup ("factor" : Str) = some (.int fa) := by rfl
theorem fldC_count : (fldC n fl fa c tl pl).lookup ("count" : Str) = some (.int c) := by rfl
theorem fldC_living : (fldC n fl fa c tl pl).lookup ("living" : Str) = some (.ref tl) := by rfl
theorem fldC_past : (fldC n fl fa c tl pl).lookup ("past" : Str) = some (.ref pl) := by rfl
theorem fldC_no {m : Str} (h : (["n", "failures", "factor", "count", "living", "past"] : List Str).all (fun x => !(m == x)) = true) : (fldC n fl fa c tl pl).lookup m = none := by
  simp only [List.all_cons, List.all_nil, Bool.and_true, Bool.and_eq_true, Bool.not_eq_true'] at h
  obtain ⟨h1, h2, h3, h4, h5, h6⟩ := h
  simp only [fldC, List.lookup, h1, h2, h3, h4, h5, h6]
theorem fldC_turn {t : Addr} : putF "living" (.ref t) (fldC n fl fa c tl pl) = fldC n fl fa c t pl := by rfl
theorem fldC_init : putF "past" (.ref pl) (putF "living" (.ref tl) (putF "count" (.int c) (putF "factor" (.int fa) (putF "failures" (.int fl) (putF "n" (.int n) []))))) = fldC n fl fa c tl pl := by rfl
end
/-- what a cluster keeps to -/
structure CluOk (n fl fa c : Nat) (L : List Nat) : Prop where
  n2 : 2 ≤ n
  f1 : 1 ≤ fl
  fn : fl < n
  a1 : 1 ≤ fa
  an : fa ≤ n
  std : Std n (min n (fl + fa)) c
  big : c < 2 ^ 500
  asc : Asc L
  lt : ∀ x ∈ L, x < n
  few : n ≤ L.length + fl
def PstL (H : Hp) (us : List V) (qs : List (Nat × Nat)) : Prop := PySem.Paired (fun v (q : Nat × Nat) => ∃ u, v = V.ref u ∧ H u = some (.tup [V.int (q.1 : Nat), V.int (q.2 : Nat)])) us qs
theorem PstL.same {H H' : Hp} {us : List V} {qs : List (Nat × Nat)} (s : ∀ u xs, H u = some (.tup xs) → H' u = some (.tup xs)) (h : PstL H us qs) : PstL H' us qs := PySem.Paired.mono (fun v q ⟨u, e, z⟩ => ⟨u, e, s _ _ z⟩) h
theorem PstL.app {H : Hp} {us ws : List V} {qs rs : List (Nat × Nat)} (h : PstL H us qs) (k : PstL H ws rs) : PstL H (us ++ ws) (qs ++ rs) := by
  unfold PstL at *
  induction h with
  | nil => exact k
  | cons a _ ih => exact .cons a ih
theorem PstL.len {H : Hp} {us : List V} {qs : List (Nat × Nat)} (h : PstL H us qs) : us.length = qs.length := PySem.Paired.length h
theorem PstL.last {H : Hp} : ∀ {us : List V} {qs : List (Nat × Nat)}, PstL H us qs → qs ≠ [] → ∃ (ws : List V) (u : Addr) (q : Nat × Nat), us = ws ++ [V.ref u] ∧ H u = some (.tup [V.int (q.1 : Nat), V.int (q.2 : Nat)]) ∧ qs.getLast? = some q
  | _, _, .nil, ne => absurd rfl ne
  | _, [q], .cons ⟨u, rfl, hu⟩ .nil, _ => ⟨[], u, q, rfl, hu, rfl⟩
  | _, q :: q2 :: qs, .cons a (.cons b r), _ => by
    obtain ⟨ws, u, z, e, hu, hl⟩ := PstL.last (PySem.Paired.cons b r) (by simp)
    exact ⟨_ :: ws, u, z, by rw [e]; rfl, hu, by rw [List.getLast?_cons_cons]; exact hl⟩
/-- the cluster at p, its changes at pl -/
structure CluB (C : Addr) (H : Hp) (p pl : Addr) (n fl fa c : Nat) (L : List Nat) (qs : List (Nat × Nat)) : Prop where
  ob : ∃ dx tl, H p = some (.ins C dx (fldC n fl fa c tl pl)) ∧ H tl = some (.tup (setV L))
  past : ∃ us, H pl = some (.lst us) ∧ PstL H us qs
section
variable {C : Addr} {H H' : Hp} {p pl : Addr} {n fl fa c : Nat} {L : List Nat} {qs : List (Nat × Nat)}
theorem CluB.same (h : CluB C H p pl n fl fa c L qs) (s : Same H H') : CluB C H' p pl n fl fa c L qs := by
  obtain ⟨⟨dx, tl, h1, h2⟩, us, h3, h4⟩ := h
  exact ⟨⟨dx, tl, s _ _ h1, s _ _ h2⟩, us, s _ _ h3, h4.same fun u xs e => s _ _ e⟩
theorem CluB.but {q : Addr} {xs : List V} (h : CluB C H p pl n fl fa c L qs) (hq : H q = some (.lst xs)) (ne : pl ≠ q) (s : But q H H') : CluB C H' p pl n fl fa c L qs := by
  obtain ⟨⟨dx, tl, h1, h2⟩, us, h3, h4⟩ := h
  have k : ∀ {b : Addr} {o : HO}, H b = some o → (∀ ys, o ≠ .lst ys) → H' b = some o := fun {b o} e n => s _ _ (fun z => by rw [z, hq] at e; exact n _ (Option.some.inj e).symm) e
  exact ⟨⟨dx, tl, k h1 (fun _ z => by cases z), k h2 (fun _ z => by cases z)⟩, us, s _ _ ne h3, h4.same fun u xs e => k e (fun _ z => by cases z)⟩
theorem CluB.nep {q : Addr} (h : CluB C H p pl n fl fa c L qs) (nq : H q = none) : q ≠ p ∧ q ≠ pl := by
  obtain ⟨⟨dx, tl, h1, h2⟩, us, h3, h4⟩ := h
  exact ⟨(ne_of_none h1 nq).symm, (ne_of_none h3 nq).symm⟩
theorem std_less {n d e c : Nat} (h : Std n d c) (he : e ≤ d) (ld : leastL n e ∣ leastL n d) : Std n e c := ⟨h.n60, h.n1, Nat.le_trans he h.dn, h.c0, Nat.dvd_trans ld h.dv⟩
theorem in_enough {n : Nat} {os L : List Nat} (nd : os.Nodup) (lo : ∀ x ∈ os, x < n) (asc : Asc L) (lL : ∀ x ∈ L, x < n) : os.length + L.length ≤ (inL L os).length + n := by
  have h1 : (os.filter (fun x => decide (x ∈ L))).length + (os.filter (fun x => !decide (x ∈ L))).length = os.length := by
    rw [← List.countP_eq_length_filter, ← List.countP_eq_length_filter]
    have := List.length_eq_countP_add_countP (fun x => decide (x ∈ L)) (l := os)
    simp only [Bool.not_eq_true, Bool.decide_eq_false] at this
    omega
  have nd2 : (os.filter (fun x => !decide (x ∈ L)) ++ L).Nodup := by
    refine List.nodup_append.mpr ⟨nd.filter _, asc_nodup asc, fun a ha b hb e => ?_⟩
    have := (List.mem_filter.mp ha).2
    rw [e] at this
    simp [hb] at this
  have h2 := subG_len (ns := List.range' 0 n) nd2 fun k hk => by
    rcases List.mem_append.mp hk with h | h
    · exact mem_range0.mpr (lo k (List.mem_filter.mp h).1)
    · exact mem_range0.mpr (lL k h)
  rw [List.length_append, List.length_range'] at h2
  have h3 : (inL L os).length = (os.filter (fun x => decide (x ∈ L))).length := rfl
  omega
end
theorem asc_lenC {L : List Nat} {n : Nat} (a : Asc L) (h : ∀ x ∈ L, x < n) : L.length ≤ n := by
  have h2 := subG_len (ns := List.range' 0 n) (asc_nodup a) fun k hk => mem_range0.mpr (h k hk)
  rw [List.length_range'] at h2
  exact h2
/-! ### what a cluster tells of its shards -/
def spCluLive (C : Addr) : Sp := fun vs H Q _ => ∃ (p pl : Addr) (n fl fa c : Nat) (L : List Nat) (qs : List (Nat × Nat)), vs = [.ref p] ∧ CluB C H p pl n fl fa c L qs ∧ ∀ t, H t = some (.tup (setV L)) → Q (.ref t) H
section
variable {P : Program} {w : World} {K : PySem.W.Frag} {mg : Str → Option Value} {base : Heap}
theorem ok_clulive (T : Txt K mg) {j : Nat} : FnOk P w K mg base CX0 (j + 1) T.fCluLive T.fdCluLive ["self"] (spCluLive T.cClu) := by
  refine T.FCluLive.ok scCluLive (fun vs H Q E h => ?_) (fun cdv A outer s H vs Q E hr h => ?_)
  · obtain ⟨p, pl, n, fl, fa, c, L, qs, rfl, _⟩ := h
    rfl
  · obtain ⟨p, pl, n, fl, fa, c, L, qs, rfl, B, q⟩ := h
    obtain ⟨⟨dx, tl, h1, h2⟩, us, h3, h4⟩ := id B
    refine ⟨_, pss_one (ps_ret (pe_fld (pv 0) rfl)), ?_⟩
    refine ⟨.ref p, rfl, p, T.cClu, dx, _, _, rfl, h1, T.clClu, T.naClu_living, fldC_living, q _ h2⟩
end
/-! ### the list of a shard -/
def spCluList (K : PySem.W.Frag) (C CN : Addr) : Sp := fun vs H Q E => ∃ (p pl : Addr) (n fl fa c : Nat) (L : List Nat) (qs : List (Nat × Nat)) (v : V) (o : Option Int), vs = [.ref p, v] ∧ CluB C H p pl n fl fa c L qs ∧ CluOk n fl fa c L ∧ CountV K H v o ∧
  (numB c o = false → Raised "value" CN v H E) ∧ (∀ k : Nat, o = some (k : Int) → k < c → ∀ H' t, Same H H' → H t = none → H' t = some (.tup (setV (path n (min n (fl + fa)) c k).1)) → Q (.ref t) H')
section
variable {P : Program} {w : World} {K : PySem.W.Frag} {mg : Str → Option Value} {base : Heap}
theorem ok_clulistof (T : Txt K mg) {j : Nat} : FnOk P w K mg base (L2.CX P w) (j + 5) T.fCluListOf T.fdCluListOf ["self", "shard"] (spCluList K T.cClu T.cNoN) := by
  refine T.FCluListOf.okX scCluListOf (fun vs H Q E h => ?_) (fun cdv A outer s H vs Q E hr h => ?_)
  · obtain ⟨p, pl, n, fl, fa, c, L, qs, v, o, rfl, _⟩ := h
    rfl
  · obtain ⟨p, pl, n, fl, fa, c, L, qs, v, o, rfl, B, ok, hv, q1, q2⟩ := h
    obtain ⟨⟨dx, tl, h1, h2⟩, us, h3, h4⟩ := id B
    refine ⟨_, pss_cons (ps_expr (pe_call (ok_chkn T) hr (by rfl) T.gChkN T.FChkN.kp T.bChkN .nil (passes_call (takes_of rfl rfl rfl rfl) (fun _ _ _ _ h => h)) (pa_cons (pv 1) (pa_cons (pe_fld (pv 0) rfl) pa_nil)))) (pss_cons (ps_set (i := 2) scCluListOf.nd rfl (.inl rfl) (pe_call (ok_reachof T) hr (by rfl) T.gReachOf T.FReachOf.kp T.bReachOf .nil pass0 (pa_cons (pe_fld (pv 0) rfl) (pa_cons (pe_fld (pv 0) rfl) (pa_cons (pe_fld (pv 0) rfl) pa_nil))))) (pss_cons (ps_asg (pe_call (ok_path T) hr (by rfl) T.gPath T.FPath.kp T.bPath .nil pass0 (pa_cons (pe_fld (pv 0) rfl) (pa_cons (pv 2) (pa_cons (pe_fld (pv 0) rfl) (pa_cons (pv 1) pa_nil))))) (pg_tup rfl (pgs_cons (pg_name (i := 3) scCluListOf.nd rfl (.inl rfl)) (pgs_cons (pg_name (i := 4) scCluListOf.nd rfl (.inl rfl)) pgs_nil)))) (pss_one (ps_ret (pv 3))))), ?_⟩
    refine ⟨v, rfl, .ref p, rfl, p, T.cClu, dx, _, _, rfl, h1, T.clClu, T.naClu_count, fldC_count, c, v, o, rfl, hv, fun hn => ?_, q1⟩
    obtain ⟨k, rfl, hk⟩ : ∃ k : Nat, o = some (k : Int) ∧ k < c := by
      cases o with
      | none => cases hn
      | some z =>
        rw [numB_some, Bool.and_eq_true] at hn
        have a1 := of_decide_eq_true hn.1
        have a2 := of_decide_eq_true hn.2
        exact ⟨z.toNat, by rw [Int.toNat_of_nonneg a1], by omega⟩
    obtain rfl := hv.isInt
    refine ⟨.ref p, rfl, p, T.cClu, dx, _, _, rfl, h1, T.clClu, T.naClu_n, fldC_n, .ref p, rfl, p, T.cClu, dx, _, _, rfl, h1, T.clClu, T.naClu_failures, fldC_failures, .ref p, rfl, p, T.cClu, dx, _, _, rfl, h1, T.clClu, T.naClu_factor, fldC_factor, n, fl, fa, rfl, ?_⟩
    refine ⟨.ref p, rfl, p, T.cClu, dx, _, _, rfl, h1, T.clClu, T.naClu_n, fldC_n, _, rfl, .ref p, rfl, p, T.cClu, dx, _, _, rfl, h1, T.clClu, T.naClu_count, fldC_count, _, rfl, n, min n (fl + fa), c, k, rfl, ok.std, hk, ok.big, fun H1 u s1 hu => ?_⟩
    obtain ⟨nu, t, nt, e1, e2⟩ := hu
    refine ⟨u, _, rfl, SqT.of e1, rfl, _, _, rfl, _, _, rfl, rfl, ?_⟩
    exact ⟨.ref t, rfl, q2 k rfl hk H1 t s1 nt e2⟩
end
/-! ### NotLive's __init__ -/
section
variable {P : Program} {w : World} {K : PySem.W.Frag} {mg : Str → Option Value} {base : Heap}
theorem ok_notl (T : Txt K mg) {j : Nat} : FnOk P w K mg base CX0 (j + 1) T.fNotL T.fdNotL ["self", "value"] (spErr K T.cNotL "value") := by
  refine T.FNotL.ok scNotL (fun vs H Q E h => ?_) (fun cdv A outer s H vs Q E hr h => ?_)
  · obtain ⟨a, v, rfl, _⟩ := h
    rfl
  · obtain ⟨a, v, rfl, ha, q⟩ := h
    refine ⟨_, pss_cons (ps_expr (pe_baseInit (by rfl) T.gcBase T.btBase.sp T.btBase.ty T.btBase.rd T.btBase.fc (pa_cons (pv 0) (pa_cons pe_str pa_nil)))) (pss_one (ps_ost (pv 0) (pv 1))), ?_⟩
    refine ⟨.ref a, rfl, a, T.cNotL, _, rfl, (by show 1 ≤ 1000; decide), T.eNotL.ox, ha, ?_⟩
    refine ⟨v, rfl, .ref a, rfl, a, T.cNotL, rfl, T.eNotL.ox, T.eNotL.no, .inl ⟨ha, fun dx nd ne => q dx nd ne⟩⟩
end
/-! ### TooFew's __init__ -/
section
variable {P : Program} {w : World} {K : PySem.W.Frag} {mg : Str → Option Value} {base : Heap}
theorem ok_toof (T : Txt K mg) {j : Nat} : FnOk P w K mg base CX0 (j + 1) T.fTooF T.fdTooF ["self", "alive"] (spErr K T.cTooF "alive") := by
  refine T.FTooF.ok scTooF (fun vs H Q E h => ?_) (fun cdv A outer s H vs Q E hr h => ?_)
  · obtain ⟨a, v, rfl, _⟩ := h
    rfl
  · obtain ⟨a, v, rfl, ha, q⟩ := h
    refine ⟨_, pss_cons (ps_expr (pe_baseInit (by rfl) T.gcBase T.btBase.sp T.btBase.ty T.btBase.rd T.btBase.fc (pa_cons (pv 0) (pa_cons pe_str pa_nil)))) (pss_one (ps_ost (pv 0) (pv 1))), ?_⟩
    refine ⟨.ref a, rfl, a, T.cTooF, _, rfl, (by show 1 ≤ 1000; decide), T.eTooF.ox, ha, ?_⟩
    refine ⟨v, rfl, .ref a, rfl, a, T.cTooF, rfl, T.eTooF.ox, T.eTooF.no, .inl ⟨ha, fun dx nd ne => q dx nd ne⟩⟩
end
/-! ### which servers are live, and what is asked before a change -/
def liveB (L : List Nat) : Option Int → Bool
  | some c => decide (c ∈ L.map fun (m : Nat) => (m : Int))
  | none => false
theorem liveB_some {L : List Nat} {o : Option Int} (h : liveB L o = true) : ∃ x : Nat, o = some (x : Int) ∧ x ∈ L := by
  cases o with
  | none => cases h
  | some c =>
    obtain ⟨m, hm, e⟩ := List.mem_map.mp (of_decide_eq_true (h : decide (c ∈ L.map fun (m : Nat) => (m : Int)) = true))
    exact ⟨m, by rw [← e], hm⟩
theorem liveB_nat {L : List Nat} {x : Nat} (h : x ∈ L) : liveB L (some (x : Int)) = true := decide_eq_true (List.mem_map.mpr ⟨x, h, rfl⟩)
theorem liveB_not {L : List Nat} {x : Nat} (h : x ∉ L) : liveB L (some (x : Int)) = false := decide_eq_false fun z => by
  obtain ⟨m, hm, e⟩ := List.mem_map.mp z
  obtain rfl : m = x := by omega
  exact h hm
/-- all but what stands at p and q is as it was -/
def But2 (p q : Addr) (H H' : Hp) : Prop := ∀ b o, b ≠ p → b ≠ q → H b = some o → H' b = some o
theorem But2.trans {p q : Addr} {H H1 H2 : Hp} (s : But2 p q H H1) (t : But2 p q H1 H2) : But2 p q H H2 := fun b o n m e => t b o n m (s b o n m e)
theorem But2.of {p q : Addr} {H H1 : Hp} (t : But p H H1) : But2 p q H H1 := fun b o n _ e => t b o n e
theorem But2.of' {p q : Addr} {H H1 : Hp} (t : But q H H1) : But2 p q H H1 := fun b o _ n e => t b o n e
theorem But2.refl (p q : Addr) (H : Hp) : But2 p q H H := fun _ _ _ _ e => e
theorem But2.ofS {p q : Addr} {H H1 : Hp} (t : Same H H1) : But2 p q H H1 := fun b o _ _ e => t b o e
theorem nodup_snocC {l : List Nat} {x : Nat} (h : l.Nodup) (n : x ∉ l) : (l ++ [x]).Nodup := List.nodup_append.mpr ⟨h, List.nodup_cons.mpr ⟨List.not_mem_nil, List.nodup_nil⟩, fun a ha b hb e => by
  rw [List.mem_singleton.mp hb] at e
  rw [e] at ha
  exact n ha⟩
def turnL (L : List Nat) (x : Nat) : List Nat := if x ∈ L then L.filter (fun y => !decide (y = x)) else srt (L ++ [x])
theorem turn_in {L : List Nat} {x : Nat} (h : x ∈ L) : turnL L x = L.filter (fun y => !decide (y = x)) := if_pos h
theorem turn_out {L : List Nat} {x : Nat} (h : x ∉ L) : turnL L x = srt (L ++ [x]) := if_neg h
theorem turn_asc {L : List Nat} {x : Nat} (h : Asc L) : Asc (turnL L x) := by
  unfold turnL
  split
  · exact h.sublist (List.filter_sublist)
  · rename_i c
    exact srt_asc (nodup_snocC (asc_nodup h) c)
theorem turn_mem {L : List Nat} {x y : Nat} : y ∈ turnL L x ↔ (y ∈ L ∧ y ≠ x) ∨ (y = x ∧ x ∉ L) := by
  unfold turnL
  split
  · rename_i c
    rw [List.mem_filter]
    constructor
    · rintro ⟨a, b⟩
      exact .inl ⟨a, by simpa using b⟩
    · rintro (⟨a, b⟩ | ⟨_, b⟩)
      · exact ⟨a, by simpa using b⟩
      · exact absurd c b
  · rename_i c
    rw [(srt_perm _).mem_iff, List.mem_append, List.mem_singleton]
    constructor
    · rintro (a | a)
      · exact .inl ⟨a, fun z => c (by rw [← z]; exact a)⟩
      · exact .inr ⟨a, c⟩
    · rintro (⟨a, _⟩ | ⟨a, _⟩)
      · exact .inl a
      · exact .inr a
theorem turn_lt {L : List Nat} {x n : Nat} (h : ∀ y ∈ L, y < n) (hx : x < n) : ∀ y ∈ turnL L x, y < n := fun y hy => by
  rcases turn_mem.mp hy with ⟨a, _⟩ | ⟨a, _⟩
  · exact h y a
  · rw [a]
    exact hx
theorem out_len : ∀ {L : List Nat} {x : Nat}, L.Nodup → x ∈ L → (L.filter (fun y => !decide (y = x))).length + 1 = L.length
  | [], x, _, h => by cases h
  | a :: r, x, nd, h => by
    obtain ⟨h1, h2⟩ := List.nodup_cons.mp nd
    by_cases c : a = x
    · subst c
      rw [List.filter_cons_of_neg (by simp), List.filter_eq_self.mpr (fun y hy => by
        have : y ≠ a := fun z => h1 (by rw [← z]; exact hy)
        simpa using this)]
      rfl
    · rw [List.filter_cons_of_pos (by simpa using c), List.length_cons, List.length_cons, out_len h2 (by
        rcases List.mem_cons.mp h with z | z
        · exact absurd z.symm c
        · exact z)]
theorem turn_len_in {L : List Nat} {x : Nat} (nd : L.Nodup) (h : x ∈ L) : (turnL L x).length + 1 = L.length := by
  rw [turn_in h]
  exact out_len nd h
theorem turn_len_out {L : List Nat} {x : Nat} (h : x ∉ L) : (turnL L x).length = L.length + 1 := by
  rw [turn_out h, (srt_perm _).length_eq, List.length_append]
  rfl
section
variable {C : Addr} {H H' H2 : Hp} {p pl : Addr} {n fl fa c : Nat} {L L' : List Nat} {qs : List (Nat × Nat)}
theorem CluOk.out {x : Nat} (h : CluOk n fl fa c L) (hx : x ∈ L) (few : n + 1 ≤ L.length + fl) : CluOk n fl fa c (turnL L x) :=
  ⟨h.n2, h.f1, h.fn, h.a1, h.an, h.std, h.big, turn_asc h.asc, turn_lt h.lt (h.lt x hx), by have := turn_len_in (asc_nodup h.asc) hx; omega⟩
theorem CluOk.back {x : Nat} (h : CluOk n fl fa c L) (hx : x ∉ L) (lt : x < n) : CluOk n fl fa c (turnL L x) :=
  ⟨h.n2, h.f1, h.fn, h.a1, h.an, h.std, h.big, turn_asc h.asc, turn_lt h.lt lt, by have := turn_len_out hx; have := h.few; omega⟩
theorem CluOk.len (h : CluOk n fl fa c L) : L.length ≤ n := asc_lenC h.asc h.lt
theorem CluOk.sixty (h : CluOk n fl fa c L) : L.length ≤ 60 := Nat.le_trans h.len h.std.n60
theorem CluB.ne (h : CluB C H p pl n fl fa c L qs) : p ≠ pl := by
  obtain ⟨⟨dx, tl, h1, h2⟩, us, h3, h4⟩ := h
  intro z
  rw [← z, h1] at h3
  cases h3
theorem CluB.turn {dx tl t : Addr} (B : CluB C H p pl n fl fa c L qs) (e : H p = some (.ins C dx (fldC n fl fa c tl pl))) (s : Same H H2) (ht : H2 t = some (.tup (setV L'))) (nt : H t = none) :
    CluB C (upd H2 p (.ins C dx (putF "living" (.ref t) (fldC n fl fa c tl pl)))) p pl n fl fa c L' qs ∧ But p H (upd H2 p (.ins C dx (putF "living" (.ref t) (fldC n fl fa c tl pl)))) := by
  have np := B.ne
  obtain ⟨⟨dx2, tl2, h1, h2⟩, us, h3, h4⟩ := B
  have ntp : t ≠ p := (ne_of_none e nt).symm
  refine ⟨⟨⟨dx, t, upd_same, by rw [upd_ne ntp]; exact ht⟩, us, by rw [upd_ne np.symm]; exact s _ _ h3, h4.same fun u xs z => ?_⟩, (But.of s).upd⟩
  rw [upd_ne (fun y => by rw [y, h1] at z; cases z)]
  exact s _ _ z
theorem CluB.push {x v : Nat} {t : Addr} {us : List V} (B : CluB C H p pl n fl fa c L qs) (s : Same H H2) (nt : H t = none) (ht : H2 t = some (.tup [V.int (x : Int), V.int (v : Int)])) (hp : H2 pl = some (.lst us)) (hu : PstL H us qs) :
    CluB C (upd H2 pl (.lst (us ++ [.ref t]))) p pl n fl fa c L (qs ++ [(x, v)]) ∧ But pl H (upd H2 pl (.lst (us ++ [.ref t]))) := by
  have np := B.ne
  obtain ⟨⟨dx2, tl2, h1, h2⟩, us2, h3, h4⟩ := B
  have k : ∀ {b : Addr} {o : HO}, H2 b = some o → (∀ ys, o ≠ .lst ys) → (upd H2 pl (.lst (us ++ [.ref t]))) b = some o := fun {b o} e n => by
    rw [upd_ne (fun z => by rw [z, hp] at e; exact n _ (Option.some.inj e).symm)]
    exact e
  refine ⟨⟨⟨dx2, tl2, k (s _ _ h1) (fun _ z => by cases z), k (s _ _ h2) (fun _ z => by cases z)⟩, us ++ [.ref t], upd_same, PstL.app (hu.same fun u xs z => k (s _ _ z) (fun _ z => by cases z)) (.cons ⟨t, rfl, k ht (fun _ z => by cases z)⟩ .nil)⟩, (But.of s).upd⟩
end
theorem oth_stepC {ls : List Nat} {x i m : Nat} (h : ls[i]? = some m) : (ls.take (i + 1)).filter (fun y => !decide (y = x)) = (ls.take i).filter (fun y => !decide (y = x)) ++ if (!decide (m = x)) = true then [m] else [] := by
  rw [take_snoc h, List.filter_append]
  congr 1
  by_cases c : (!decide (m = x)) = true
  · rw [if_pos c, List.filter_cons_of_pos (p := fun y => !decide (y = x)) (a := m) c]
    rfl
  · rw [if_neg c, List.filter_cons_of_neg (p := fun y => !decide (y = x)) (a := m) c]
    rfl
theorem atI_endC {xs : List V} {v : V} (h : xs[xs.length - 1]? = some v) : atI xs (-1) = some v := by
  rw [← List.getLast?_eq_getElem?] at h
  obtain ⟨ys, rfl⟩ := List.getLast?_eq_some_iff.mp h
  exact L2.atI_last ys v
/-- what all changes so far have copied -/
def lastC (qs : List (Nat × Nat)) : Nat := match qs.getLast? with | some q => q.2 | none => 0
theorem lastC_snoc (qs : List (Nat × Nat)) (q : Nat × Nat) : lastC (qs ++ [q]) = q.2 := by
  unfold lastC
  rw [List.getLast?_concat]
def loadC (fa c u : Nat) : Nat := c * min fa u / u
theorem least_le {n d e : Nat} (h1 : 1 ≤ n) (h6 : n ≤ 60) (hd : d ≤ n) (he : e ≤ d) : leastL n e ∣ leastL n d :=
  (least_parts h1 h6 (Nat.le_trans he hd) _).mpr fun i hi => (least_parts h1 h6 hd _).mp (Nat.dvd_refl _) i (by omega)
def spCluChk (K : PySem.W.Frag) (C CL : Addr) : Sp := fun vs H Q E => ∃ (p pl : Addr) (n fl fa c : Nat) (L : List Nat) (qs : List (Nat × Nat)) (v : V) (o : Option Int), vs = [.ref p, v] ∧ CluB C H p pl n fl fa c L qs ∧ CountV K H v o ∧
  (liveB L o = false → Raised "value" CL v H E) ∧ (liveB L o = true → Q .non H)
def spCluCan (K : PySem.W.Frag) (C CL CF : Addr) : Sp := fun vs H Q E => ∃ (p pl : Addr) (n fl fa c : Nat) (L : List Nat) (qs : List (Nat × Nat)) (v : V) (o : Option Int), vs = [.ref p, v] ∧ CluB C H p pl n fl fa c L qs ∧ CluOk n fl fa c L ∧ CountV K H v o ∧
  (liveB L o = false → Raised "value" CL v H E) ∧ (liveB L o = true → L.length + fl < n + 1 → Raised "alive" CF (.int (L.length : Nat)) H E) ∧ (liveB L o = true → n + 1 ≤ L.length + fl → Q .non H)
def spCluTurn (K : PySem.W.Frag) (C : Addr) : Sp := fun vs H Q _ => ∃ (p pl : Addr) (n fl fa c : Nat) (L : List Nat) (qs : List (Nat × Nat)) (x : Nat), vs = [.ref p, .int x] ∧ CluB C H p pl n fl fa c L qs ∧ L.length ≤ 60 ∧
  ∀ H', But p H H' → CluB C H' p pl n fl fa c (turnL L x) qs → Q .non H'
def spCluCopied (C : Addr) : Sp := fun vs H Q _ => ∃ (p pl : Addr) (n fl fa c : Nat) (L : List Nat) (qs : List (Nat × Nat)), vs = [.ref p] ∧ CluB C H p pl n fl fa c L qs ∧ Q (.int (lastC qs : Nat)) H
def spCluChanges (C : Addr) : Sp := fun vs H Q _ => ∃ (p pl : Addr) (n fl fa c : Nat) (L : List Nat) (qs : List (Nat × Nat)), vs = [.ref p] ∧ CluB C H p pl n fl fa c L qs ∧ Q (.int (qs.length : Nat)) H
def spCluLen (C : Addr) : Sp := fun vs H Q _ => ∃ (p pl : Addr) (n fl fa c : Nat) (L : List Nat) (qs : List (Nat × Nat)), vs = [.ref p] ∧ CluB C H p pl n fl fa c L qs ∧ Q (.int (L.length : Nat)) H
def spCluLoad (K : PySem.W.Frag) (C CL : Addr) : Sp := fun vs H Q E => ∃ (p pl : Addr) (n fl fa c : Nat) (L : List Nat) (qs : List (Nat × Nat)) (v : V) (o : Option Int), vs = [.ref p, v] ∧ CluB C H p pl n fl fa c L qs ∧ CluOk n fl fa c L ∧ CountV K H v o ∧
  (liveB L o = false → Raised "value" CL v H E) ∧ (liveB L o = true → ∀ H', Same H H' → Q (.int (loadC fa c L.length : Nat)) H')
section
variable {P : Program} {w : World} {K : PySem.W.Frag} {mg : Str → Option Value} {base : Heap}
theorem ok_cluchecklive (T : Txt K mg) {j : Nat} : FnOk P w K mg base (L2.CX P w) (j + 3) T.fCluCheckLive T.fdCluCheckLive ["self", "value"] (spCluChk K T.cClu T.cNotL) := by
  refine T.FCluCheckLive.okX scCluCheckLive (fun vs H Q E h => ?_) (fun cdv A outer s H vs Q E hr h => ?_)
  · obtain ⟨p, pl, n, fl, fa, c, L, qs, v, o, rfl, _⟩ := h
    rfl
  · obtain ⟨p, pl, n, fl, fa, c, L, qs, v, o, rfl, B, hv, q1, q2⟩ := h
    obtain ⟨⟨dx, tl, h1, h2⟩, us, h3, h4⟩ := id B
    refine ⟨_, pss_one (ps_if (PW.pt (pw_or (pt_not (pt_val (pe_call (ok_plain T) hr (by rfl) T.gPlain T.FPlain.kp T.bPlain .nil pass0 (pa_cons (pv 1) pa_nil)))) (pw_or1 (pt_cmpR (op_notInK K) (pv 1) (pe_fld (pv 0) rfl) (by rfl))))) (pss_one (ps_raise rfl (takes_of rfl rfl rfl rfl) (pmk_oex T.eNotL.ox T.eNotL.iC T.eNotL.tI (ok_notl T) hr T.bNotL .nil pass0 (by rfl) T.gcNotL (pa_cons (pv 1) pa_nil)))) pss_nil), ?_⟩
    have raise : liveB L o = false → (tMkO T.cNotL (spErr K T.cNotL "value") [] (tCons (tVar 1) tNil)) [some (.ref p), some v] H (fun cls d H' => E cls d H') := fun ho => by
      refine ⟨v, rfl, (by show 1 ≤ 1000; decide), fun a na => ⟨a, v, rfl, upd_same, fun dx nd ne => ?_⟩⟩
      obtain ⟨e1, e2, e3, e4, e5⟩ := err_end (f := "value") (v := v) na nd ne
      exact ⟨rfl, dx, _, e1, e2, e3, q1 ho _ dx e4 e5 e3⟩
    obtain ⟨t, ht, e, ty⟩ := hv.ty
    refine ⟨v, rfl, v, t, rfl, ty, ht, _, rfl, ?_⟩
    rw [e]
    rcases hv with ⟨z, rfl, rfl⟩ | ⟨rfl, _⟩
    · refine iteF ?_
      refine ⟨_, rfl, .ref p, rfl, p, T.cClu, dx, _, _, rfl, h1, T.clClu, T.naClu_living, fldC_living, tl, _, rfl, .inr (SqT.of h2), rfl, setV_flat _, _, rfl, ?_⟩
      rw [setV_ints, inV_ints]
      refine ite2 (fun hb => ?_) (fun hb => ?_)
      · exact raise (decide_eq_false (by simpa using hb))
      · exact q2 (decide_eq_true (by simpa using hb))
    · refine iteT ?_
      exact raise rfl
theorem ok_clucheckcanfail (T : Txt K mg) {j : Nat} : FnOk P w K mg base (L2.CX P w) (j + 4) T.fCluCheckCanFail T.fdCluCheckCanFail ["self", "value"] (spCluCan K T.cClu T.cNotL T.cTooF) := by
  refine T.FCluCheckCanFail.okX scCluCheckCanFail (fun vs H Q E h => ?_) (fun cdv A outer s H vs Q E hr h => ?_)
  · obtain ⟨p, pl, n, fl, fa, c, L, qs, v, o, rfl, _⟩ := h
    rfl
  · obtain ⟨p, pl, n, fl, fa, c, L, qs, v, o, rfl, B, ok, hv, q1, q2, q3⟩ := h
    obtain ⟨⟨dx, tl, h1, h2⟩, us, h3, h4⟩ := id B
    have hn := ok.fn
    refine ⟨_, pss_cons (ps_expr (pe_meth (pv 0) T.clClu T.mtCluCheckLive (ok_cluchecklive T) hr T.bCluCheckLive .nil (passes_call (takes_of rfl rfl rfl rfl) (fun _ _ _ _ h => h)) (pa_cons (pv 1) pa_nil))) (pss_one (ps_if (pt_cmpR op_lt (pe_op op_sub (pe_callB (call_lenK K) (by rfl) T.n_len PySem.boot_len (pa_cons (pe_fld (pv 0) rfl) pa_nil)) pe_int) (pe_op op_sub (pe_fld (pv 0) rfl) (pe_fld (pv 0) rfl)) (nomark _)) (pss_one (ps_raise rfl (takes_of rfl rfl rfl rfl) (pmk_oex T.eTooF.ox T.eTooF.iC T.eTooF.tI (ok_toof T) hr T.bTooF .nil pass0 (by rfl) T.gcTooF (pa_cons (pe_callB (call_lenK K) (by rfl) T.n_len PySem.boot_len (pa_cons (pe_fld (pv 0) rfl) pa_nil)) pa_nil)))) pss_nil)), ?_⟩
    refine ⟨.ref p, rfl, p, dx, _, rfl, h1, fldC_no (by decide +kernel), v, rfl, p, pl, n, fl, fa, c, L, qs, v, o, rfl, B, hv, q1, fun hl => ?_⟩
    refine ⟨.ref p, rfl, p, T.cClu, dx, _, _, rfl, h1, T.clClu, T.naClu_living, fldC_living, tl, _, rfl, .inr (SqT.of h2), _, _, rfl, rfl, .ref p, rfl, p, T.cClu, dx, _, _, rfl, h1, T.clClu, T.naClu_n, fldC_n, .ref p, rfl, p, T.cClu, dx, _, _, rfl, h1, T.clClu, T.naClu_failures, fldC_failures, _, _, rfl, rfl, _, _, rfl, rfl, _, rfl, ?_⟩
    rw [setV_len]
    refine ite2 (fun hb => ?_) (fun hb => ?_)
    · have hb2 : (L.length : Int) - 1 < (n : Int) - (fl : Int) := of_decide_eq_true hb
      refine ⟨.ref p, rfl, p, T.cClu, dx, _, _, rfl, h1, T.clClu, T.naClu_living, fldC_living, tl, _, rfl, .inr (SqT.of h2), (by show 1 ≤ 1000; decide), fun a na => ⟨a, _, rfl, upd_same, fun dx nd ne => ?_⟩⟩
      obtain ⟨e1, e2, e3, e4, e5⟩ := err_end (f := "alive") (v := .int ((setV L).length : Nat)) na nd ne
      have q4 := q2 hl (by omega)
      rw [show V.int ((L.length : Nat) : Int) = V.int (((setV L).length : Nat) : Int) by rw [setV_len]] at q4
      exact ⟨rfl, dx, _, e1, e2, e3, q4 _ dx e4 e5 e3⟩
    · have hb2 : ¬ (L.length : Int) - 1 < (n : Int) - (fl : Int) := fun z => hb (decide_eq_true z)
      exact q3 hl (by omega)
theorem ok_cluturn (T : Txt K mg) {j : Nat} : FnOk P w K mg base CX0 (j + 2) T.fCluTurn T.fdCluTurn ["self", "server"] (spCluTurn K T.cClu) := by
  refine T.FCluTurn.ok scCluTurn (fun vs H Q E h => ?_) (fun cdv A outer s H vs Q E hr h => ?_)
  · obtain ⟨p, pl, n, fl, fa, c, L, qs, x, rfl, _⟩ := h
    rfl
  · obtain ⟨p, pl, n, fl, fa, c, L, qs, x, rfl, B, hl, q⟩ := h
    obtain ⟨⟨dx, tl, h1, h2⟩, us, h3, h4⟩ := id B
    refine ⟨_, pss_one (ps_if (pt_cmpR (op_inK K) (pv 1) (pe_fld (pv 0) rfl) (by rfl)) (pss_one (ps_fld (pv 0) (pe_callTy (call_tupleK K) (by rfl) T.n_tuple (by decide +kernel) (pa_cons (pe_lc (own := [("other", 2)]) (g := (gName 2)) rfl scCluTurn.nd (pi_tup (pe_fld (pv 0) rfl)) (blkOk_by (own := [("other", 2)]) (N := NCluTurn) (sc := defScope sCluTurn) (by decide +kernel)) (fun _ _ _ _ _ => (pg_name (i := 2) scCluTurn.nd rfl (.inl rfl))) (fun _ _ _ _ _ => pts_one (pt_cmpR op_ne (pv 2) (pv 1) (nomark _))) (fun _ _ _ _ _ => (pv 2))) pa_nil)) rfl)) (pss_one (ps_fld (pv 0) (pe_call (ok_joined T) hr (by rfl) T.gJoined T.FJoined.kp T.bJoined .nil pass0 (pa_cons (pe_fld (pv 0) rfl) (pa_cons (pv 1) pa_nil))) rfl))), ?_⟩
    refine ⟨_, rfl, .ref p, rfl, p, T.cClu, dx, _, _, rfl, h1, T.clClu, T.naClu_living, fldC_living, tl, _, rfl, .inr (SqT.of h2), rfl, setV_flat _, _, rfl, ?_⟩
    rw [inV_setV]
    refine ite2 (fun hb => ?_) (fun hb => ?_)
    · have hx : x ∈ L := by simpa using hb
      rw [turn_in hx] at q
      refine ⟨.ref p, rfl, p, T.cClu, dx, _, _, rfl, h1, T.clClu, T.naClu_living, fldC_living, tl, rfl, ⟨_, SqT.of h2⟩, fun D nD => ?_⟩
      refine lc_tup (K := K) (a := tl) (xs := setV L) (fun z H3 => Same H H3 ∧ H3 D = some (.lst (setV ((L.take z).filter fun y => !decide (y = x))))) ⟨same_new nD, upd_same⟩ (fun _ H3 _ h => Same.seqT h.1 (SqT.of h2)) ?_ ?_
      · rintro z v H3 hz ⟨s3, hD⟩
        obtain ⟨m, hm, rfl⟩ := setV_get hz
        have st := oth_stepC (x := x) hm
        have fl := List.length_filter_le (fun y => !decide (y = x)) (L.take z)
        rw [List.length_take] at fl
        refine ⟨rfl, _, rfl, _, rfl, rfl, _, rfl, ?_⟩
        have ev : decide (V.int (m : Int) = V.int (x : Int)) = decide (m = x) := decide_eq_decide.mpr ⟨fun e => by injection e with e; omega, fun e => by rw [e]⟩
        rw [ev]
        refine ite2 (fun hb => ?_) (fun hb => ?_)
        · refine ⟨_, rfl, _, hD, by rw [setV_len]; exact small1000 (by omega), keep_upd s3 nD, ?_⟩
          rw [upd_same, st, if_pos hb, setV_app]
          rfl
        · refine ⟨s3, ?_⟩
          rw [st, if_neg hb, List.append_nil]
          exact hD
      · rintro H3 ⟨s3, hD⟩
        rw [setV_len, List.take_length] at hD
        refine ⟨D, _, rfl, .inl ⟨SqL.of hD, fun t nt => ?_⟩⟩
        have s4 := s3.trans (same_new (o := .tup (setV (L.filter fun y => !decide (y = x)))) nt)
        obtain ⟨B2, b2⟩ := B.turn h1 s4 upd_same (s3.free nt)
        exact ⟨.ref p, rfl, p, T.cClu, dx, _, rfl, s4 _ _ h1, T.clClu, T.naClu_living, (by show 6 < 1000; decide), q _ b2 B2⟩
    · have hx : x ∉ L := by simpa using hb
      rw [turn_out hx] at q
      refine ⟨.ref p, rfl, p, T.cClu, dx, _, _, rfl, h1, T.clClu, T.naClu_living, fldC_living, _, rfl, tl, L, x, rfl, SqT.of h2, hl, fun H3 t s3 nt ht => ?_⟩
      obtain ⟨B2, b2⟩ := B.turn h1 s3 ht nt
      exact ⟨.ref p, rfl, p, T.cClu, dx, _, rfl, s3 _ _ h1, T.clClu, T.naClu_living, (by show 6 < 1000; decide), q _ b2 B2⟩
theorem ok_clucopied (T : Txt K mg) {j : Nat} : FnOk P w K mg base CX0 (j + 1) T.fCluCopied T.fdCluCopied ["self"] (spCluCopied T.cClu) := by
  refine T.FCluCopied.ok scCluCopied (fun vs H Q E h => ?_) (fun cdv A outer s H vs Q E hr h => ?_)
  · obtain ⟨p, pl, n, fl, fa, c, L, qs, rfl, _⟩ := h
    rfl
  · obtain ⟨p, pl, n, fl, fa, c, L, qs, rfl, B, q⟩ := h
    obtain ⟨⟨dx, tl, h1, h2⟩, us, h3, h4⟩ := id B
    have ul := h4.len
    refine ⟨_, pss_cons (ps_if (pt_cmpR op_eq (pe_callB (call_lenK K) (by rfl) T.n_len PySem.boot_len (pa_cons (pe_fld (pv 0) rfl) pa_nil)) pe_int (nomark _)) (pss_one (ps_ret pe_int)) pss_nil) (pss_one (ps_ret (pe_ix (ix_tupK K) (pe_ix (ix_listK K) (pe_fld (pv 0) rfl) (pe_un un_neg pe_int) (fun _ _ => rfl)) pe_int (fun _ _ => rfl)))), ?_⟩
    refine ⟨.ref p, rfl, p, T.cClu, dx, _, _, rfl, h1, T.clClu, T.naClu_past, fldC_past, pl, _, rfl, .inl (SqL.of h3), rfl, _, rfl, ?_⟩
    refine ite2 (fun hb => ?_) (fun hb => ?_)
    · have e : V.int ((us.length : Nat) : Int) = V.int 0 := of_decide_eq_true hb
      have e2 : ((us.length : Nat) : Int) = 0 := by injection e
      obtain rfl : qs = [] := List.eq_nil_of_length_eq_zero (by omega)
      exact q
    · have ne : qs ≠ [] := fun z => hb (decide_eq_true (by rw [ul, z]; rfl))
      obtain ⟨ws, u, y, rfl, hu, hy⟩ := h4.last ne
      have ly : lastC qs = y.2 := by
        unfold lastC
        rw [hy]
      rw [ly] at q
      refine ⟨.ref p, rfl, p, T.cClu, dx, _, _, rfl, h1, T.clClu, T.naClu_past, fldC_past, _, rfl, pl, _, _, .ref u, rfl, rfl, SqL.of h3, ?_, u, _, _, _, rfl, rfl, SqT.of hu, rfl, q⟩
      exact atI_endC (by rw [List.length_append]; simp)
theorem ok_cluchanges (T : Txt K mg) {j : Nat} : FnOk P w K mg base CX0 (j + 1) T.fCluChanges T.fdCluChanges ["self"] (spCluChanges T.cClu) := by
  refine T.FCluChanges.ok scCluChanges (fun vs H Q E h => ?_) (fun cdv A outer s H vs Q E hr h => ?_)
  · obtain ⟨p, pl, n, fl, fa, c, L, qs, rfl, _⟩ := h
    rfl
  · obtain ⟨p, pl, n, fl, fa, c, L, qs, rfl, B, q⟩ := h
    obtain ⟨⟨dx, tl, h1, h2⟩, us, h3, h4⟩ := id B
    have ul := h4.len
    refine ⟨_, pss_one (ps_ret (pe_callB (call_lenK K) (by rfl) T.n_len PySem.boot_len (pa_cons (pe_fld (pv 0) rfl) pa_nil))), ?_⟩
    refine ⟨.ref p, rfl, p, T.cClu, dx, _, _, rfl, h1, T.clClu, T.naClu_past, fldC_past, pl, _, rfl, .inl (SqL.of h3), ?_⟩
    rw [ul]
    exact q
theorem ok_clulen (T : Txt K mg) {j : Nat} : FnOk P w K mg base CX0 (j + 1) T.fCluLen T.fdCluLen ["self"] (spCluLen T.cClu) := by
  refine T.FCluLen.ok scCluLen (fun vs H Q E h => ?_) (fun cdv A outer s H vs Q E hr h => ?_)
  · obtain ⟨p, pl, n, fl, fa, c, L, qs, rfl, _⟩ := h
    rfl
  · obtain ⟨p, pl, n, fl, fa, c, L, qs, rfl, B, q⟩ := h
    obtain ⟨⟨dx, tl, h1, h2⟩, us, h3, h4⟩ := id B
    refine ⟨_, pss_one (ps_ret (pe_callB (call_lenK K) (by rfl) T.n_len PySem.boot_len (pa_cons (pe_fld (pv 0) rfl) pa_nil))), ?_⟩
    refine ⟨.ref p, rfl, p, T.cClu, dx, _, _, rfl, h1, T.clClu, T.naClu_living, fldC_living, tl, _, rfl, .inr (SqT.of h2), ?_⟩
    rw [setV_len]
    exact q
theorem ok_cluload (T : Txt K mg) {j : Nat} : FnOk P w K mg base (L2.CX P w) (j + 7) T.fCluLoad T.fdCluLoad ["self", "server"] (spCluLoad K T.cClu T.cNotL) := by
  refine T.FCluLoad.okX scCluLoad (fun vs H Q E h => ?_) (fun cdv A outer s H vs Q E hr h => ?_)
  · obtain ⟨p, pl, n, fl, fa, c, L, qs, v, o, rfl, _⟩ := h
    rfl
  · obtain ⟨p, pl, n, fl, fa, c, L, qs, v, o, rfl, B, ok, hv, q1, q2⟩ := h
    obtain ⟨⟨dx, tl, h1, h2⟩, us, h3, h4⟩ := id B
    refine ⟨_, pss_cons (ps_expr (pe_meth (pv 0) T.clClu T.mtCluCheckLive (ok_cluchecklive T) hr T.bCluCheckLive .nil (passes_call (takes_of rfl rfl rfl rfl) (fun _ _ _ _ h => h)) (pa_cons (pv 1) pa_nil))) (pss_cons (ps_set (i := 2) scCluLoad.nd rfl (.inl rfl) (pe_callB (call_lenK K) (by rfl) T.n_len PySem.boot_len (pa_cons (pe_fld (pv 0) rfl) pa_nil))) (pss_one (ps_ret (pe_call (ok_hbsrv T) hr (by rfl) T.gHbSrv T.FHbSrv.kp T.bHbSrv .nil (passes_call (takes_of rfl rfl rfl rfl) (fun _ _ _ _ h => h)) (pa_cons (pe_fld (pv 0) rfl) (pa_cons (pe_fld (pv 0) rfl) (pa_cons (pv 2) (pa_cons (pe_callB (call_min2 rfl) (by rfl) T.n_min (by decide +kernel) (pa_cons (pe_fld (pv 0) rfl) (pa_cons (pv 2) pa_nil))) pa_nil)))))))), ?_⟩
    refine ⟨.ref p, rfl, p, dx, _, rfl, h1, fldC_no (by decide +kernel), v, rfl, p, pl, n, fl, fa, c, L, qs, v, o, rfl, B, hv, q1, fun hl => ?_⟩
    obtain ⟨x, rfl, hx⟩ := liveB_some hl
    have l1 : 1 ≤ L.length := List.length_pos_of_mem hx
    have ln := ok.len
    have n6 := ok.std.n60
    have n1 := ok.n2
    have few := ok.few
    have fn := ok.fn
    have a1 := ok.a1
    have an := ok.an
    refine ⟨.ref p, rfl, p, T.cClu, dx, _, _, rfl, h1, T.clClu, T.naClu_living, fldC_living, tl, _, rfl, .inr (SqT.of h2), ?_⟩
    dsimp only
    rw [setV_len]
    refine ⟨.ref p, rfl, p, T.cClu, dx, _, _, rfl, h1, T.clClu, T.naClu_n, fldC_n, .ref p, rfl, p, T.cClu, dx, _, _, rfl, h1, T.clClu, T.naClu_count, fldC_count, _, rfl, .ref p, rfl, p, T.cClu, dx, _, _, rfl, h1, T.clClu, T.naClu_factor, fldC_factor, _, rfl, _, _, rfl, ?_⟩
    have em : (if (L.length : Int) < (fa : Int) then (L.length : Int) else (fa : Int)) = ((min fa L.length : Nat) : Int) := by
      split <;> omega
    dsimp only
    rw [em]
    have sd : Std n (n - L.length + min fa L.length + 0) c := std_less ok.std (by omega) (least_le (by omega) n6 (by omega) (by omega))
    refine ⟨n, .int c, some (c : Int), L.length, min fa L.length, rfl, n6, ln, by omega, by omega, .inl ⟨_, rfl, rfl⟩, fun hp => ?_, fun c' e _ H2 s2 => ?_⟩
    · rw [std_poss sd] at hp
      cases hp
    · have e2 := Option.some.inj e
      obtain rfl : c = c' := by omega
      exact q2 hl H2 s2
end
/-! ### who holds a shard -/
def spCluOwn (K : PySem.W.Frag) (C CN : Addr) : Sp := fun vs H Q E => ∃ (p pl : Addr) (n fl fa c : Nat) (L : List Nat) (qs : List (Nat × Nat)) (v : V) (o : Option Int), vs = [.ref p, v] ∧ CluB C H p pl n fl fa c L qs ∧ CluOk n fl fa c L ∧ CountV K H v o ∧
  (numB c o = false → Raised "value" CN v H E) ∧ (∀ k : Nat, o = some (k : Int) → k < c → ∀ H' t, Same H H' → H t = none → H' t = some (.tup (setV (holdL L (path n (min n (fl + fa)) c k).1 fa))) → Q (.ref t) H')
section
variable {P : Program} {w : World} {K : PySem.W.Frag} {mg : Str → Option Value} {base : Heap}
theorem ok_cluowners (T : Txt K mg) {j : Nat} : FnOk P w K mg base (L2.CX P w) (j + 6) T.fCluOwners T.fdCluOwners ["self", "shard"] (spCluOwn K T.cClu T.cNoN) := by
  refine T.FCluOwners.okX scCluOwners (fun vs H Q E h => ?_) (fun cdv A outer s H vs Q E hr h => ?_)
  · obtain ⟨p, pl, n, fl, fa, c, L, qs, v, o, rfl, _⟩ := h
    rfl
  · obtain ⟨p, pl, n, fl, fa, c, L, qs, v, o, rfl, B, ok, hv, q1, q2⟩ := h
    obtain ⟨⟨dx, tl, h1, h2⟩, us, h3, h4⟩ := id B
    refine ⟨_, pss_one (ps_ret (pe_call (ok_hold T) hr (by rfl) T.gHold T.FHold.kp T.bHold .nil (passes_call (takes_of rfl rfl rfl rfl) (fun _ _ _ _ h => h)) (pa_cons (pe_meth (pv 0) T.clClu T.mtCluListOf (ok_clulistof T) hr T.bCluListOf .nil (passes_call (takes_of rfl rfl rfl rfl) (fun _ _ _ _ h => h)) (pa_cons (pv 1) pa_nil)) (pa_cons (pe_fld (pv 0) rfl) (pa_cons (pe_fld (pv 0) rfl) pa_nil))))), ?_⟩
    refine ⟨.ref p, rfl, p, dx, _, rfl, h1, fldC_no (by decide +kernel), v, rfl, p, pl, n, fl, fa, c, L, qs, v, o, rfl, B, ok, hv, q1, fun k eo hk H1 t s1 nt ht => ?_⟩
    have nd := path_nodup ok.std hk
    have lt := path_lt ok.std hk
    have en := in_enough nd lt ok.asc ok.lt
    rw [path_len] at en
    have few := ok.few
    have ll := asc_lenC ok.asc ok.lt
    have n6 := ok.std.n60
    have em : holdL L (path n (min n (fl + fa)) c k).1 (min fa L.length) = holdL L (path n (min n (fl + fa)) c k).1 fa := by
      unfold holdL
      have : (inL L (path n (min n (fl + fa)) c k).1).length ≤ L.length := subG_len (nd.filter _) fun y hy => (inL_mem hy).2
      rcases Nat.le_total fa L.length with h | h
      · rw [Nat.min_eq_left h]
      · rw [Nat.min_eq_right h, List.take_of_length_le (by omega), List.take_of_length_le (by omega)]
    refine ⟨.ref p, rfl, p, T.cClu, dx, _, _, rfl, s1 _ _ h1, T.clClu, T.naClu_living, fldC_living, .ref p, rfl, p, T.cClu, dx, _, _, rfl, s1 _ _ h1, T.clClu, T.naClu_factor, fldC_factor, t, tl, _, L, fa, rfl, SqT.of ht, SqT.of (s1 _ _ h2), by rw [path_len]; omega, by omega, fun _ H2 t2 s2 nt2 ht2 => ?_, fun hlt => ?_⟩
    · rw [em] at ht2
      exact q2 k eo hk H2 t2 (s1.trans s2) (s1.free nt2) ht2
    · exfalso
      have a1 := ok.a1
      omega
end
/-! ### lists of tuples of servers -/
def RowsL (K : PySem.W.Frag) (H : Hp) (ts : List V) (rows : List (List Nat)) : Prop := PySem.Paired (fun v ms => ∃ t, v = V.ref t ∧ SqT K H t (setV ms)) ts rows
theorem RowsL.same {K : PySem.W.Frag} {H H' : Hp} {ts : List V} {rows : List (List Nat)} (s : Same H H') (h : RowsL K H ts rows) : RowsL K H' ts rows := PySem.Paired.mono (fun v ms ⟨t, e, z⟩ => ⟨t, e, Same.seqT s z⟩) h
theorem RowsL.app {K : PySem.W.Frag} {H : Hp} {xs ys : List V} {L M : List (List Nat)} (h : RowsL K H xs L) (g : RowsL K H ys M) : RowsL K H (xs ++ ys) (L ++ M) := by
  unfold RowsL at *
  induction h with
  | nil => exact g
  | cons a _ ih => exact .cons a ih
theorem RowsL.len {K : PySem.W.Frag} {H : Hp} {ts : List V} {rows : List (List Nat)} (h : RowsL K H ts rows) : ts.length = rows.length := by
  unfold RowsL at h
  induction h with
  | nil => rfl
  | cons _ _ ih => exact congrArg (· + 1) ih
theorem RowsL.at {K : PySem.W.Frag} {H : Hp} {ts : List V} {rows : List (List Nat)} (h : RowsL K H ts rows) : ∀ {i : Nat} {v : V}, ts[i]? = some v → ∃ ms, rows[i]? = some ms ∧ ∃ t, v = V.ref t ∧ SqT K H t (setV ms) := by
  unfold RowsL at h
  induction h with
  | nil =>
    intro i v z
    cases z
  | cons a _ ih =>
    intro i v z
    cases i with
    | zero =>
      obtain rfl := Option.some.inj z
      exact ⟨_, rfl, a⟩
    | succ i => exact ih z
theorem RowsL.mem {K : PySem.W.Frag} {H : Hp} {ts : List V} {rows : List (List Nat)} (h : RowsL K H ts rows) {v : V} (hv : v ∈ ts) : ∃ ms, ms ∈ rows ∧ ∃ t, v = V.ref t ∧ SqT K H t (setV ms) := by
  obtain ⟨i, hi⟩ := List.getElem?_of_mem hv
  obtain ⟨ms, h1, h2⟩ := h.at hi
  exact ⟨ms, List.mem_of_getElem? h1, h2⟩
def tupD (ms : List Nat) : PyData := .tuple (natD ms)
theorem natD_ints (ms : List Nat) : natD ms = (intL ms).map PyData.int := by
  unfold natD
  rw [List.map_map]
  rfl
theorem dp_tup {K : PySem.W.Frag} {H : Hp} {t : Addr} {ms : List Nat} (h : SqT K H t (setV ms)) : Dp K H (.ref t) (tupD ms) := .tup h (dp_set ms)
theorem RowsL.dp {K : PySem.W.Frag} {H : Hp} {ts : List V} {rows : List (List Nat)} (h : RowsL K H ts rows) : DpAll K H ts (rows.map tupD) := by
  unfold RowsL at h
  induction h with
  | nil => exact .nil
  | cons a _ ih =>
    obtain ⟨t, rfl, ht⟩ := a
    exact .cons (dp_tup ht) ih
theorem RowsL.pairs {K : PySem.W.Frag} {H : Hp} {ts : List V} {rows : List (List Nat)} (h : RowsL K H ts rows) : ∃ bs : List (V × PyData), bs.map (·.1) = ts ∧ bs.map (·.2) = rows.map tupD ∧ ∀ b ∈ bs, Dp K H b.1 b.2 := by
  unfold RowsL at h
  induction h with
  | nil => exact ⟨[], rfl, rfl, fun _ hb => absurd hb List.not_mem_nil⟩
  | @cons v ms _ _ a _ ih =>
    obtain ⟨t, rfl, ht⟩ := a
    obtain ⟨bs, e1, e2, e3⟩ := ih
    refine ⟨(.ref t, tupD ms) :: bs, by rw [List.map_cons, e1], by rw [List.map_cons, e2]; rfl, fun b hb => ?_⟩
    rcases List.mem_cons.mp hb with rfl | hb
    · exact dp_tup ht
    · exact e3 b hb
theorem alike_tup (xs ys : List Nat) : PySem.W.alike (tupD xs) (tupD ys) = true := by
  unfold tupD
  rw [natD_ints, natD_ints]
  exact PySem.W.alike_ints _ _
theorem depth_tup (ms : List Nat) : (tupD ms).depth ≤ 20 := by
  unfold tupD
  rw [natD_ints]
  have : (PyData.tuple ((intL ms).map PyData.int)).depth = PyData.depthAll ((intL ms).map PyData.int) + 1 := rfl
  rw [this, PySem.W.depth_ints]
  decide
theorem dLe_tup {u v : V} {xs ys : List Nat} (h : LexLe xs ys) : dLe (u, tupD xs) (v, tupD ys) = true := by
  unfold tupD
  rw [natD_ints, natD_ints, dLe_ints, decide_eq_false h]
  rfl
theorem asc_pairs : ∀ {bs : List (V × PyData)} {rows : List (List Nat)}, bs.map (·.2) = rows.map tupD → rows.Pairwise LexLe → bs.Pairwise fun a b => dLe a b = true
  | [], _, _, _ => List.Pairwise.nil
  | _ :: _, [], e, _ => by cases e
  | (u, d) :: bs, ms :: rows, e, h => by
    obtain ⟨rfl, e2⟩ := List.cons.inj e
    obtain ⟨h1, h2⟩ := List.pairwise_cons.mp h
    refine List.pairwise_cons.mpr ⟨fun b hb => ?_, asc_pairs e2 h2⟩
    have hb2 : b.2 ∈ rows.map tupD := by
      rw [← e2]
      exact List.mem_map.mpr ⟨b, hb, rfl⟩
    obtain ⟨m2, hm2, eb⟩ := List.mem_map.mp hb2
    obtain ⟨bu, bd⟩ := b
    obtain rfl : tupD m2 = bd := eb
    exact dLe_tup (h1 m2 hm2)
/-- sorted of ascending rows -/
theorem sort_rows {K : PySem.W.Frag} {H : Hp} {a : Addr} {ts : List V} {rows : List (List Nat)} {Q : VK} (hL : SqL K H a ts) (r : RowsL K H ts rows) (asc : rows.Pairwise LexLe) (ne : ∀ ms ∈ rows, ms ≠ []) (q : ∀ p, H p = none → Q (.ref p) (upd H p (.lst ts))) : rSortD K [.ref a] H Q := by
  obtain ⟨bs, e1, e2, e3⟩ := r.pairs
  refine ⟨a, bs, rfl, by rw [e1]; exact hL, e3, ?_, ?_, fun b hb => ?_, fun p np => ?_⟩
  · rw [e2]
    intro d hd d' hd'
    obtain ⟨x, _, rfl⟩ := List.mem_map.mp hd
    obtain ⟨y, _, rfl⟩ := List.mem_map.mp hd'
    exact alike_tup x y
  · rw [e2]
    refine .inl fun d hd => ?_
    obtain ⟨ms, hm, rfl⟩ := List.mem_map.mp hd
    cases ms with
    | nil => exact absurd rfl (ne [] hm)
    | cons m r => exact ⟨_, _, rfl⟩
  · have hb2 : b.2 ∈ rows.map tupD := by
      rw [← e2]
      exact List.mem_map.mpr ⟨b, hb, rfl⟩
    obtain ⟨ms, _, e⟩ := List.mem_map.mp hb2
    rw [← e]
    exact depth_tup ms
  · rw [dsort_id (asc_pairs e2 asc), e1]
    exact q p np
theorem sh_rows {d : Nat} : ∀ {rows : List (List Nat)}, (∀ r ∈ rows, r.length ≤ d ∧ ∀ x ∈ r, x < 60) → ShAll 1 ((7 * d + 1) * rows.length) (rows.map tupD)
  | [], _ => ShAll.nil.mono (by decide) (Nat.zero_le _)
  | r :: rows, h => by
    obtain ⟨h1, h2⟩ := h r List.mem_cons_self
    have a := sh_nat (b := 6) (by decide) (by decide) (ms := r) fun x hx => by
      have := h2 x hx
      omega
    have b := Sh.tup a
    have m1 : (6 + 1) * r.length ≤ 7 * d := Nat.mul_le_mul_left 7 h1
    have c := ShAll.cons (b.mono (Nat.le_refl _) m1) (sh_rows fun r' hr => h r' (List.mem_cons_of_mem _ hr))
    refine c.mono (Nat.le_refl _) ?_
    show 7 * d + 1 + (7 * d + 1) * rows.length ≤ (7 * d + 1) * (rows.length + 1)
    rw [Nat.mul_succ]
    omega
theorem hide_upd {D : Addr} {H5 H6 : Hp} {o : HO} (s : Same H5 H6) : Same (hide D H5) (hide D (upd H6 D o)) := fun b x e => by
  by_cases h : b = D
  · unfold hide at e
    rw [if_pos h] at e
    cases e
  · rw [hide_ne h] at e ⊢
    rw [upd_ne h]
    exact s b x e
/-- one more row behind a list that is being made -/
theorem RowsL.grow {K : PySem.W.Frag} {D t : Addr} {H5 H6 : Hp} {ts : List V} {rows : List (List Nat)} {ms : List Nat} {o : HO} (s : Same H5 H6) (h : RowsL K (hide D H5) ts rows) (nt : t ≠ D) (ht : H6 t = some (.tup (setV ms))) : RowsL K (hide D (upd H6 D o)) (ts ++ [V.ref t]) (rows ++ [ms]) :=
  RowsL.app (h.same (hide_upd s)) (.cons ⟨t, rfl, SqT.of (by rw [hide_ne nt, upd_ne nt]; exact ht)⟩ .nil)
theorem RowsL.show {K : PySem.W.Frag} {D : Addr} {H : Hp} {ts : List V} {rows : List (List Nat)} (h : RowsL K (hide D H) ts rows) : RowsL K H ts rows := h.same (hide_same D H)
theorem range_rows {α : Type} (f : Nat → α) (z : Nat) : (List.range (z + 1)).map f = (List.range z).map f ++ [f z] := by
  rw [List.range_succ, List.map_append]
  rfl
/-! ### tables: tuples of tuples of servers -/
theorem paired_app {α β : Type} {R : α → β → Prop} {xs ys : List α} {L M : List β} (h : PySem.Paired R xs L) (g : PySem.Paired R ys M) : PySem.Paired R (xs ++ ys) (L ++ M) := by
  induction h with
  | nil => exact g
  | cons a _ ih => exact .cons a ih
/-- a tuple of tuples of servers -/
def TabAt (K : PySem.W.Frag) (H : Hp) (a : Addr) (rows : List (List Nat)) : Prop := ∃ ts : List V, SqT K H a ts ∧ PySem.Paired (fun v ms => ∃ t, v = V.ref t ∧ SqT K H t (setV ms)) ts rows
def stdRows (n d c : Nat) : List (List Nat) := (List.range c).map fun k => (path n d c k).1
theorem TabAt.same {K : PySem.W.Frag} {H H' : Hp} {a : Addr} {rows : List (List Nat)} (s : Same H H') (h : TabAt K H a rows) : TabAt K H' a rows := by
  obtain ⟨ts, h1, h2⟩ := h
  exact ⟨ts, Same.seqT s h1, PySem.Paired.mono (fun v ms ⟨t, e, z⟩ => ⟨t, e, Same.seqT s z⟩) h2⟩
/-! ### dicts from servers to counts -/
abbrev kI (s : Nat) : Key := Sum.inl (s : Int)
def mapD (f : Nat → Nat) (ls : List Nat) : List (Key × V) := ls.map fun s => (kI s, V.int (f s : Int))
theorem kI_inj {a b : Nat} : kI a = kI b ↔ a = b := ⟨fun h => by have := Sum.inl.inj h; omega, fun h => by rw [h]⟩
theorem mapD_val {f : Nat → Nat} {s : Nat} : ∀ {ls : List Nat}, s ∈ ls → valV (mapD f ls) (kI s) = some (.int (f s : Int))
  | x :: ls, h => by
    unfold valV mapD
    rw [List.map_cons, List.find?_cons]
    by_cases e : x = s
    · subst e
      rw [decide_eq_true rfl]
      rfl
    · rw [show decide ((kI x, V.int (f x : Int)).1 = kI s) = false from decide_eq_false fun z => e (kI_inj.mp z)]
      refine mapD_val (ls := ls) ?_
      rcases List.mem_cons.mp h with z | z
      · exact absurd z.symm e
      · exact z
theorem mapD_any {f : Nat → Nat} {s : Nat} (ls : List Nat) : ((mapD f ls).any fun kv => decide (kv.1 = kI s)) = decide (s ∈ ls) := by
  unfold mapD
  rw [List.any_map]
  induction ls with
  | nil => rfl
  | cons x r ih =>
    rw [List.any_cons, ih]
    by_cases e : x = s
    · subst e
      rw [decide_eq_true (List.mem_cons_self), show ((fun kv => decide (kv.1 = kI x)) ∘ fun s => (kI s, V.int (f s : Int))) x = true from decide_eq_true rfl]
      rfl
    · rw [show ((fun kv => decide (kv.1 = kI s)) ∘ fun s => (kI s, V.int (f s : Int))) x = false from decide_eq_false fun z => e (kI_inj.mp z), Bool.false_or]
      refine decide_eq_decide.mpr ⟨fun h => List.mem_cons_of_mem _ h, fun h => ?_⟩
      rcases List.mem_cons.mp h with z | z
      · exact absurd z.symm e
      · exact z
theorem mapD_put {f : Nat → Nat} {s v : Nat} {ls : List Nat} (h : s ∈ ls) : putK (mapD f ls) (kI s) (.int (v : Int)) = mapD (fun x => if x = s then v else f x) ls := by
  unfold putK
  rw [mapD_any, decide_eq_true h, if_pos rfl]
  unfold mapD
  rw [List.map_map]
  refine List.map_congr_left fun x _ => ?_
  show (if (kI x, V.int (f x : Int)).1 = kI s then _ else _) = (kI x, V.int ((if x = s then v else f x : Nat) : Int))
  by_cases e : x = s
  · subst e
    rw [if_pos rfl, if_pos rfl]
  · rw [if_neg (fun z => e (kI_inj.mp z)), if_neg e]
theorem mapD_new {f : Nat → Nat} {s : Nat} {ls : List Nat} (h : s ∉ ls) : putK (mapD f ls) (kI s) (.int (f s : Int)) = mapD f (ls ++ [s]) := by
  unfold putK
  rw [mapD_any, decide_eq_false h, if_neg (by decide)]
  unfold mapD
  rw [List.map_append]
  rfl
/-! ### tally -/
def optV : Option Nat → V
  | none => .non
  | some x => .int (x : Int)
def cntO (ps : List (Option Nat)) (y : Nat) : Nat := ps.countP fun o => decide (o = some y)
theorem cntO_some (ps : List (Option Nat)) (m : Nat) : cntO (ps ++ [some m]) = fun x => if x = m then cntO ps m + 1 else cntO ps x := by
  funext x
  unfold cntO
  rw [List.countP_append, List.countP_cons, List.countP_nil]
  by_cases e : x = m
  · subst e
    rw [if_pos rfl, if_pos (decide_eq_true rfl)]
  · rw [if_neg e, if_neg (fun z => e (Option.some.inj (of_decide_eq_true z)).symm)]
    rfl
theorem cntO_none (ps : List (Option Nat)) : cntO (ps ++ [none]) = cntO ps := by
  funext x
  unfold cntO
  rw [List.countP_append, List.countP_cons, List.countP_nil, if_neg (fun z => by have := of_decide_eq_true z; cases this)]
  rfl
/-- pairs of a server and its number -/
def PrT (H : Hp) (g : Nat → Nat) (us : List V) (ls : List Nat) : Prop := PySem.Paired (fun v (s : Nat) => ∃ u, v = V.ref u ∧ H u = some (.tup [V.int (s : Int), V.int (g s : Int)])) us ls
theorem PrT.same {H H' : Hp} {g : Nat → Nat} {us : List V} {ls : List Nat} (s : Same H H') (h : PrT H g us ls) : PrT H' g us ls := PySem.Paired.mono (fun v x ⟨u, e, z⟩ => ⟨u, e, s _ _ z⟩) h
theorem PrT.updL {H : Hp} {g : Nat → Nat} {us ys : List V} {ls : List Nat} {D : Addr} {o : HO} (h : PrT H g us ls) (hD : H D = some (.lst ys)) : PrT (upd H D o) g us ls := PySem.Paired.mono (fun v x ⟨u, e, z⟩ => ⟨u, e, by rw [upd_ne (fun c => by rw [c, hD] at z; cases z)]; exact z⟩) h
theorem PrT.app {H : Hp} {g : Nat → Nat} {us vs : List V} {ls ms : List Nat} (h : PrT H g us ls) (k : PrT H g vs ms) : PrT H g (us ++ vs) (ls ++ ms) := by
  unfold PrT at *
  induction h with
  | nil => exact k
  | cons a _ ih => exact .cons a ih
theorem PrT.len {H : Hp} {g : Nat → Nat} {us : List V} {ls : List Nat} (h : PrT H g us ls) : us.length = ls.length := PySem.Paired.length h
def prtD (g : Nat → Nat) (ls : List Nat) : List PyData := ls.map fun (s : Nat) => PyData.tuple [.int (s : Int), .int (g s : Int)]
theorem PrT.dp {K : PySem.W.Frag} {H : Hp} {g : Nat → Nat} {us : List V} {ls : List Nat} (h : PrT H g us ls) : DpAll K H us (prtD g ls) := by
  unfold PrT at h
  induction h with
  | nil => exact .nil
  | cons a _ ih =>
    obtain ⟨u, rfl, e⟩ := a
    exact .cons (.tup (SqT.of e) (.cons (.int _) (.cons (.int _) .nil))) ih
theorem sh_prt {g : Nat → Nat} : ∀ {ls : List Nat}, (∀ x ∈ ls, x < 60 ∧ g x < 2 ^ 30) → ShAll 1 (40 * ls.length) (prtD g ls)
  | [], _ => ShAll.nil.mono (by decide) (Nat.zero_le _)
  | x :: ls, h => by
    obtain ⟨h1, h2⟩ := h x List.mem_cons_self
    have b : Sh 0 6 (.int (x : Int)) := Sh.int (by decide) (by decide) (by rw [Int.natAbs_natCast]; omega)
    have d : Sh 0 30 (.int (g x : Int)) := Sh.int (by decide) (by decide) (by rw [Int.natAbs_natCast]; omega)
    have f := Sh.tup (ShAll.cons b (ShAll.cons d (ShAll.nil.mono (dp' := 0) (wt' := 0) (by decide) (by decide))))
    have g := ShAll.cons f (sh_prt fun y hy => h y (List.mem_cons_of_mem _ hy))
    refine g.mono (Nat.le_refl _) ?_
    show 6 + 1 + (30 + 1 + 0) + 1 + 40 * ls.length ≤ 40 * (ls.length + 1)
    omega
/-- a tuple of (server, many) -/
def TalAt (K : PySem.W.Frag) (H : Hp) (t : Addr) (ls : List Nat) (g : Nat → Nat) : Prop := ∃ us : List V, H t = some (.tup us) ∧ PrT H g us ls
theorem TalAt.same {K : PySem.W.Frag} {H H' : Hp} {t : Addr} {ls : List Nat} {g : Nat → Nat} (s : Same H H') (h : TalAt K H t ls g) : TalAt K H' t ls g := by
  obtain ⟨us, h1, h2⟩ := h
  exact ⟨us, s _ _ h1, h2.same s⟩
theorem TalAt.dp {K : PySem.W.Frag} {H : Hp} {t : Addr} {ls : List Nat} {g : Nat → Nat} (h : TalAt K H t ls g) : Dp K H (.ref t) (.tuple (prtD g ls)) := by
  obtain ⟨us, h1, h2⟩ := h
  exact .tup (SqT.of h1) h2.dp
/-! ### a cluster beside its table -/
theorem RowsL.upd45 {K : PySem.W.Frag} {H : Hp} {D : Addr} {xs : List V} {o : HO} {ts : List V} {rows : List (List Nat)} (h : RowsL K H ts rows) (hD : H D = some (.lst xs)) : RowsL K (upd H D o) ts rows :=
  PySem.Paired.mono (fun v ms ⟨t, e, z⟩ => ⟨t, e, SqT_updL z hD⟩) h
/-- the owners of all shards -/
def ownsL (L : List Nat) (fa : Nat) (rows : List (List Nat)) : List (List Nat) := rows.map fun r => holdL L r fa
theorem cnt_own {L : List Nat} {fa : Nat} {rows : List (List Nat)} (y : Nat) : ((ownsL L fa rows).filter fun o => decide (y ∈ o)).length = ldN L fa rows y := by
  unfold ownsL ldN
  rw [← List.countP_eq_length_filter, List.countP_map]
  rfl
theorem own_min {L : List Nat} {fa : Nat} {rows : List (List Nat)} (nd : ∀ r ∈ rows, r.Nodup) (y : Nat) : ldN L fa rows y = ldN L (min fa L.length) rows y := by
  unfold ldN
  refine List.countP_congr fun r hr => ?_
  have : (lvL L r).take fa = (lvL L r).take (min fa L.length) := by
    rw [List.take_eq_take_iff]
    have : (lvL L r).length ≤ L.length := subG_len ((nd r hr).filter _) fun y hy => (inL_mem (ls := L) (os := r) hy).2
    omega
  rw [this]
theorem std_row93 {n d c i : Nat} (st : Std n d c) {r : List Nat} (h : (stdRows n d c)[i]? = some r) : i < c ∧ r = (path n d c i).1 ∧ r.Nodup ∧ r.length = d ∧ ∀ x ∈ r, x < n := by
  unfold stdRows at h
  rw [List.getElem?_map] at h
  obtain ⟨k, hk, e⟩ := Option.map_eq_some_iff.mp h
  obtain ⟨hlt, ei⟩ := List.getElem?_eq_some_iff.mp hk
  rw [List.length_range] at hlt
  rw [List.getElem_range] at ei
  subst ei
  exact ⟨hlt, e.symm, by rw [← e]; exact path_nodup st hlt, by rw [← e]; exact path_len _ _ _ _, by rw [← e]; exact path_lt st hlt⟩
theorem std_len93 (n d c : Nat) : (stdRows n d c).length = c := by
  unfold stdRows
  rw [List.length_map, List.length_range]
theorem std_tab93 {n d c : Nat} (st : Std n d c) : Tab n d (stdRows n d c) := fun r hr => by
  obtain ⟨i, hi⟩ := List.getElem?_of_mem hr
  obtain ⟨_, _, h1, h2, h3⟩ := std_row93 st hi
  exact ⟨h2, h1, h3⟩
theorem std_live93 {n fl fa c : Nat} {L : List Nat} (okL : CluOk n fl fa c L) (l1 : 1 ≤ L.length) : Live n (min n (fl + fa)) (min fa L.length) L (stdRows n (min n (fl + fa)) c) := by
  have lln := asc_lenC okL.asc okL.lt
  have few := okL.few
  have fn := okL.fn
  have a1 := okL.a1
  exact ⟨std_tab93 okL.std, okL.asc, okL.lt, by omega, by omega, by omega, fun s hs => ⟨wd n c s, std_lev okL.std (s := s) (by omega)⟩⟩
theorem std_load93 {n fl fa c : Nat} {L : List Nat} (okL : CluOk n fl fa c L) (l1 : 1 ≤ L.length) {y : Nat} (hy : y ∈ L) : ldN L (min fa L.length) (stdRows n (min n (fl + fa)) c) y = loadC fa c L.length := by
  have h1 := (std_live93 okL l1).load y hy
  rw [std_len93] at h1
  unfold loadC
  rw [← h1]
  exact (Nat.mul_div_cancel _ (by omega)).symm
/-! ### the owners of all shards -/
theorem own_snoc88 {L r : List Nat} {fa z : Nat} {rows : List (List Nat)} (h : rows[z]? = some r) : ownsL L fa (rows.take (z + 1)) = ownsL L fa (rows.take z) ++ [holdL L r fa] := by
  unfold ownsL
  rw [take_snoc h, List.map_append]
  rfl
def spAll88 (K : PySem.W.Frag) (C : Addr) : Sp := fun vs H Q _ => ∃ (p pl : Addr) (n fl fa c : Nat) (L : List Nat) (qs : List (Nat × Nat)), vs = [.ref p, .int c] ∧ CluB C H p pl n fl fa c L qs ∧ CluOk n fl fa c L ∧ c ≤ 1000 ∧
  ∀ H' D ws, Same H H' → H D = none → H' D = some (.lst ws) → RowsL K H' ws (ownsL L fa (stdRows n (min n (fl + fa)) c)) → Q (.ref D) H'
section
variable {P : Program} {w : World} {K : PySem.W.Frag} {mg : Str → Option Value} {base : Heap}
theorem ok_all88 (T : Txt K mg) {j : Nat} : FnOk P w K mg base CX0 (j + 7) T.fAll88 T.fdAll88 ["_law_cluster", "_law_total"] (spAll88 K T.cClu) := by
  refine T.FAll88.ok scAll88 (fun vs H Q E h => ?_) (fun cdv A outer s H vs Q E hr h => ?_)
  · obtain ⟨p, pl, n, fl, fa, c, L, qs, rfl, _⟩ := h
    rfl
  · obtain ⟨p, pl, n, fl, fa, c, L, qs, rfl, B, okL, hc, q⟩ := h
    refine ⟨_, pss_one (ps_ret (pe_lc (own := [("_law_number", 2)]) (g := (gName 2)) (tt := tYes) rfl scAll88.nd (pi_range1 (by rfl) T.n_range (pa_cons (pv 1) pa_nil)) (blkOk_by (own := [("_law_number", 2)]) (N := NAll88) (sc := defScope sAll88) (by decide +kernel)) (fun _ _ _ _ _ => (pg_name (i := 2) scAll88.nd rfl (.inl rfl))) (fun _ _ _ _ _ => pts_nil) (fun _ _ _ _ _ => (pe_meth (pv 0) T.clClu T.mtCluOwners (ok_cluowners T) hr T.bCluOwners .nil passF (pa_cons (pv 2) pa_nil))))), ?_⟩
    have c0 := okL.std.c0
    have rlen := std_len93 n (min n (fl + fa)) c
    have good : ∀ {i : Nat} {r : List Nat}, (stdRows n (min n (fl + fa)) c)[i]? = some r → i < c ∧ r = (path n (min n (fl + fa)) c i).1 ∧ r.Nodup ∧ r.length = min n (fl + fa) ∧ ∀ x ∈ r, x < n := fun {i r} h => std_row93 okL.std h
    generalize hrows : stdRows n (min n (fl + fa)) c = rows at good rlen q
    refine ⟨_, rfl, (c : Int), rfl, by omega, by omega, fun D nD => ?_⟩
    refine lc_range (lo := 0) (n := (c : Int).toNat) (fun z H2 => ∃ ws, Same H H2 ∧ H2 D = some (.lst ws) ∧ RowsL K H2 ws (ownsL L fa (rows.take z))) ⟨[], same_new nD, upd_same, .nil⟩ ?_ ?_
    · rintro z H2 hz ⟨ws, s2, hD2, r2⟩
      have zc : z < c := by omega
      obtain ⟨r, hr⟩ : ∃ r, rows[z]? = some r := ⟨rows[z]'(by omega), List.getElem?_eq_getElem (by omega)⟩
      obtain ⟨_, rp, _⟩ := good hr
      have B2 := B.same s2
      obtain ⟨⟨dx2, tl2, g1, g2⟩, us2, g3, g4⟩ := id B2
      refine ⟨rfl, .ref p, rfl, p, dx2, _, rfl, g1, fldC_no (by decide +kernel), _, rfl, p, pl, n, fl, fa, c, L, qs, _, some (z : Int), rfl, B2, okL, .inl ⟨_, by rw [Int.zero_add], rfl⟩, fun w => ?_, fun k' e hk' H6 t6 s6 nt6 ht6 => ?_⟩
      · rw [numB_some c (z : Int), decide_eq_true (show (0 : Int) ≤ (z : Int) by omega), decide_eq_true (show (z : Int) < (c : Int) by omega)] at w
        cases w
      have e2 := Option.some.inj e
      obtain rfl : z = k' := by omega
      rw [← rp] at ht6
      have hD6 := s6 _ _ hD2
      have wl := r2.len
      unfold ownsL at wl
      rw [List.length_map, List.length_take] at wl
      refine ⟨ws, hD6, by rw [sizeLine_eq]; omega, ws ++ [.ref t6], keep_upd (s2.trans s6) nD, upd_same, ?_⟩
      rw [own_snoc88 hr]
      exact RowsL.app ((r2.same s6).upd45 hD6) (.cons ⟨t6, rfl, SqT_updL (SqT.of ht6) hD6⟩ .nil)
    rintro H2 ⟨ws, s2, hD2, r2⟩
    rw [show (c : Int).toNat = c by omega, ← rlen, List.take_length] at r2
    exact q H2 D ws s2 nD hD2 r2
end
/-! ### each other live server receives equally many copies -/
theorem inL_lv92 (L r : List Nat) : inL L r = lvL L r := rfl
/-- who receives, if any -/
def recO (L : List Nat) (f x : Nat) (r : List Nat) : Option Nat := if x ∈ (inL L r).take f then some ((inL L r).getD f 0) else none
def cntR (ps : List (Option Nat)) (y : Nat) : Nat := ps.countP fun o => decide (o = some y)
theorem rec_cp (L : List Nat) (f x : Nat) (rows : List (List Nat)) (y : Nat) : cntR (rows.map (recO L f x)) y = cpN L f x rows y := by
  unfold cntR cpN
  rw [List.countP_map]
  rfl
theorem cntR_some (ps : List (Option Nat)) (m y : Nat) : cntR (ps ++ [some m]) y = if y = m then cntR ps m + 1 else cntR ps y := by
  unfold cntR
  rw [List.countP_append, List.countP_cons, List.countP_nil]
  by_cases e : y = m
  · subst e
    rw [if_pos rfl, if_pos (decide_eq_true rfl)]
  · rw [if_neg e, if_neg (fun z => e (Option.some.inj (of_decide_eq_true z)).symm)]
    rfl
theorem cntR_none (ps : List (Option Nat)) : cntR (ps ++ [none]) = cntR ps := by
  funext x
  unfold cntR
  rw [List.countP_append, List.countP_cons, List.countP_nil, if_neg (fun z => by have := of_decide_eq_true z; cases this)]
  rfl
theorem cntR_zero {ps : List (Option Nat)} {m : Nat} (h : some m ∉ ps) : cntR ps m = 0 := by
  unfold cntR
  refine List.countP_eq_zero.mpr fun o ho => ?_
  intro z
  rw [of_decide_eq_true z] at ho
  exact h ho
/-- the dict of those who received: in the order of their first copy -/
def RecD (ps : List (Option Nat)) (kvs : List (Key × V)) : Prop := ∃ ks : List Nat, ks.Nodup ∧ (∀ y, y ∈ ks ↔ some y ∈ ps) ∧ kvs = mapD (cntR ps) ks
theorem mapD_congr {f g : Nat → Nat} {ks : List Nat} (h : ∀ y ∈ ks, f y = g y) : mapD f ks = mapD g ks := by
  unfold mapD
  exact List.map_congr_left fun y hy => by rw [h y hy]
theorem mapD_none {f : Nat → Nat} {m : Nat} {ks : List Nat} (h : m ∉ ks) : valV (mapD f ks) (kI m) = none := by
  cases e : valV (mapD f ks) (kI m) with
  | none => rfl
  | some v =>
    exfalso
    have h1 : kI m ∈ (mapD f ks).map (·.1) := valV_some.mp (by rw [e]; rfl)
    unfold mapD at h1
    rw [List.map_map] at h1
    obtain ⟨y, hy, ey⟩ := List.mem_map.mp h1
    have : y = m := by
      have z : kI y = kI m := ey
      unfold kI at z
      injection z with z
      omega
    rw [this] at hy
    exact h hy
theorem RecD.skip {ps : List (Option Nat)} {kvs : List (Key × V)} (h : RecD ps kvs) : RecD (ps ++ [none]) kvs := by
  obtain ⟨ks, h1, h2, rfl⟩ := h
  refine ⟨ks, h1, fun y => ?_, by rw [cntR_none]⟩
  rw [h2 y, List.mem_append]
  constructor
  · exact .inl
  · rintro (h | h)
    · exact h
    · cases List.mem_singleton.mp h
theorem RecD.step {ps : List (Option Nat)} {kvs : List (Key × V)} (h : RecD ps kvs) (m : Nat) : (valV kvs (kI m)).getD (.int 0) = .int ((cntR ps m : Nat) : Int) ∧ RecD (ps ++ [some m]) (putK kvs (kI m) (.int ((cntR ps m + 1 : Nat) : Int))) := by
  obtain ⟨ks, h1, h2, rfl⟩ := h
  by_cases c : m ∈ ks
  · refine ⟨by rw [mapD_val c]; rfl, ks, h1, fun y => ?_, ?_⟩
    · rw [List.mem_append, ← h2 y]
      constructor
      · exact .inl
      · rintro (h | h)
        · exact h
        · rw [Option.some.inj (List.mem_singleton.mp h)]
          exact c
    · rw [mapD_put c]
      exact mapD_congr fun y _ => (cntR_some ps m y).symm
  · have z : cntR ps m = 0 := cntR_zero fun h => c ((h2 m).mpr h)
    refine ⟨by rw [mapD_none c, z]; rfl, ks ++ [m], ?_, fun y => ?_, ?_⟩
    · exact List.nodup_append.mpr ⟨h1, List.nodup_cons.mpr ⟨List.not_mem_nil, List.nodup_nil⟩, fun a ha b hb e => c (by rw [← List.mem_singleton.mp hb, ← e]; exact ha)⟩
    · rw [List.mem_append, List.mem_append, List.mem_singleton, List.mem_singleton, h2 y]
      constructor
      · rintro (h | h)
        · exact .inl h
        · exact .inr (by rw [h])
      · rintro (h | h)
        · exact .inl h
        · exact .inr (Option.some.inj h)
    · have e1 : mapD (cntR ps) ks = mapD (cntR (ps ++ [some m])) ks := mapD_congr fun y hy => by
        rw [cntR_some, if_neg (fun e => c (by rw [← e]; exact hy))]
      have e2 : cntR ps m + 1 = cntR (ps ++ [some m]) m := by rw [cntR_some, if_pos rfl]
      rw [e1, e2]
      exact mapD_new c
theorem RecD.len {ps : List (Option Nat)} {kvs : List (Key × V)} (h : RecD ps kvs) : kvs.length ≤ ps.length := by
  obtain ⟨ks, h1, h2, rfl⟩ := h
  unfold mapD
  rw [List.length_map, ← List.length_map (f := some) (as := ks)]
  refine subG_len (List.pairwise_map.mpr (List.Pairwise.imp (fun {a b} h e => h (Option.some.inj e)) h1)) fun o ho => ?_
  obtain ⟨y, hy, rfl⟩ := List.mem_map.mp ho
  exact (h2 y).mp hy
def PrR (H : Hp) (g : Nat → Nat) (us : List V) (ls : List Nat) : Prop := PySem.Paired (fun v (s : Nat) => ∃ u, v = V.ref u ∧ H u = some (.tup [V.int (s : Int), V.int (g s : Int)])) us ls
theorem PrR.same {H H' : Hp} {g : Nat → Nat} {us : List V} {ls : List Nat} (s : Same H H') (h : PrR H g us ls) : PrR H' g us ls := PySem.Paired.mono (fun v x ⟨u, e, z⟩ => ⟨u, e, s _ _ z⟩) h
theorem PrR.updL {H : Hp} {g : Nat → Nat} {us ys : List V} {ls : List Nat} {D : Addr} {o : HO} (h : PrR H g us ls) (hD : H D = some (.lst ys)) : PrR (upd H D o) g us ls := PySem.Paired.mono (fun v x ⟨u, e, z⟩ => ⟨u, e, by rw [upd_ne (fun c => by rw [c, hD] at z; cases z)]; exact z⟩) h
theorem PrR.app {H : Hp} {g : Nat → Nat} {us vs : List V} {ls ms : List Nat} (h : PrR H g us ls) (k : PrR H g vs ms) : PrR H g (us ++ vs) (ls ++ ms) := by
  unfold PrR at *
  induction h with
  | nil => exact k
  | cons a _ ih => exact .cons a ih
theorem PrR.len {H : Hp} {g : Nat → Nat} {us : List V} {ls : List Nat} (h : PrR H g us ls) : us.length = ls.length := PySem.Paired.length h
theorem PrR.addrs {K : PySem.W.Frag} {H : Hp} {g : Nat → Nat} {us : List V} {ls : List Nat} (h : PrR H g us ls) : ∃ ps : List Addr, us = ps.map V.ref ∧ PySem.Paired (fun p (kv : Key × V) => SqT K H p [kV kv.1, kv.2]) ps (mapD g ls) := by
  unfold PrR at h
  induction h with
  | nil => exact ⟨[], rfl, .nil⟩
  | cons a _ ih =>
    obtain ⟨u, rfl, e⟩ := a
    obtain ⟨ps, rfl, h2⟩ := ih
    exact ⟨u :: ps, rfl, .cons (SqT.of e) h2⟩
theorem merge_mapR {f : Nat → Nat} : ∀ (post pre : List Nat), (pre ++ post).Nodup → mergeK (mapD f pre) (mapD f post) = mapD f (pre ++ post)
  | [], pre, _ => by rw [List.append_nil]; rfl
  | s :: post, pre, h => by
    have hs : s ∉ pre := fun hx => (List.nodup_append.mp h).2.2 s hx s List.mem_cons_self rfl
    show mergeK (putK (mapD f pre) (kI s) (.int (f s : Int))) (mapD f post) = _
    rw [mapD_new hs]
    have e : pre ++ s :: post = (pre ++ [s]) ++ post := by rw [List.append_assoc]; rfl
    rw [e] at h ⊢
    exact merge_mapR post (pre ++ [s]) h
theorem oth_step92 {ls : List Nat} {x i m : Nat} (h : ls[i]? = some m) : (ls.take (i + 1)).filter (fun y => !decide (y = x)) = (ls.take i).filter (fun y => !decide (y = x)) ++ if (!decide (m = x)) = true then [m] else [] := by
  rw [take_snoc h, List.filter_append]
  congr 1
  by_cases c : (!decide (m = x)) = true
  · rw [if_pos c, List.filter_cons_of_pos (p := fun y => !decide (y = x)) (a := m) c]
    rfl
  · rw [if_neg c, List.filter_cons_of_neg (p := fun y => !decide (y = x)) (a := m) c]
    rfl
/-- the dict of those who received is the dict that is due -/
theorem rec_due {ps : List (Option Nat)} {kvs : List (Key × V)} {O : List Nat} {F : Nat} (h : RecD ps kvs) (nd : O.Nodup) (hF : 0 < F) (hin : ∀ y, some y ∈ ps → y ∈ O) (hc : ∀ y ∈ O, cntR ps y = F) : kvs.length = (mapD (fun _ => F) O).length ∧ ∀ p ∈ kvs, valV (mapD (fun _ => F) O) p.1 = some p.2 ∧ flatB p.2 = true := by
  obtain ⟨ks, h1, h2, rfl⟩ := h
  have hk : ∀ y, y ∈ ks ↔ y ∈ O := fun y => by
    rw [h2 y]
    refine ⟨hin y, fun hy => Classical.byContradiction fun z => ?_⟩
    have := hc y hy
    rw [cntR_zero z] at this
    omega
  constructor
  · unfold mapD
    rw [List.length_map, List.length_map]
    exact ((List.perm_ext_iff_of_nodup h1 nd).mpr hk).length_eq
  · intro p hp
    unfold mapD at hp
    obtain ⟨y, hy, rfl⟩ := List.mem_map.mp hp
    have hyO := (hk y).mp hy
    refine ⟨?_, rfl⟩
    show valV (mapD (fun _ => F) O) (kI y) = some (V.int ((cntR ps y : Nat) : Int))
    rw [mapD_val hyO, hc y hyO]
/-! ### who received how much -/
/-- one copy for each holder that is new -/
def recdR (r1 r2 : List Nat) : List (Option Nat) := r2.map fun y => if y ∈ r1 then none else some y
def recdO : List (List Nat) → List (List Nat) → List (Option Nat)
  | r1 :: a, r2 :: b => recdR r1 r2 ++ recdO a b
  | _, _ => []
theorem recdO_snoc : ∀ {a b : List (List Nat)} {i : Nat} {r1 r2 : List Nat}, a[i]? = some r1 → b[i]? = some r2 → recdO (a.take (i + 1)) (b.take (i + 1)) = recdO (a.take i) (b.take i) ++ recdR r1 r2
  | [], _, _, _, _, h, _ => by cases h
  | _ :: _, [], _, _, _, _, h => by cases h
  | x :: a, y :: b, 0, r1, r2, h1, h2 => by
    cases h1
    cases h2
    show recdR x y ++ [] = [] ++ recdR x y
    simp
  | x :: a, y :: b, i + 1, r1, r2, h1, h2 => by
    show recdR x y ++ recdO (a.take (i + 1)) (b.take (i + 1)) = (recdR x y ++ recdO (a.take i) (b.take i)) ++ recdR r1 r2
    rw [recdO_snoc (a := a) (b := b) h1 h2, List.append_assoc]
theorem recdR_snoc {r1 r2 : List Nat} {i m : Nat} (h : r2[i]? = some m) : recdR r1 (r2.take (i + 1)) = recdR r1 (r2.take i) ++ [if m ∈ r1 then none else some m] := by
  unfold recdR
  rw [take_snoc h, List.map_append]
  rfl
theorem recdO_len : ∀ {a b : List (List Nat)} {w : Nat}, (∀ r ∈ b, r.length ≤ w) → (recdO a b).length ≤ a.length * w
  | [], b, w, _ => by cases b <;> exact Nat.zero_le _
  | x :: a, [], w, _ => Nat.zero_le _
  | x :: a, y :: b, w, h => by
    have h1 := h y List.mem_cons_self
    have h2 := recdO_len (a := a) (b := b) fun r hr => h r (List.mem_cons_of_mem _ hr)
    show (recdR x y ++ recdO a b).length ≤ (a.length + 1) * w
    unfold recdR
    rw [List.length_append, List.length_map, Nat.succ_mul]
    omega
def spRecd88 (K : PySem.W.Frag) : Sp := fun vs H Q _ => ∃ (a b : Addr) (xs ys : List V) (rs1 rs2 : List (List Nat)), vs = [.ref a, .ref b] ∧ SqL K H a xs ∧ RowsL K H xs rs1 ∧ SqL K H b ys ∧ RowsL K H ys rs2 ∧ rs1.length = rs2.length ∧ rs1.length ≤ 1000 ∧ (∀ r ∈ rs1, r.length ≤ 60) ∧ (∀ r ∈ rs2, r.length ≤ 60) ∧
  ∀ H' D kvs, Same H H' → H D = none → H' D = some (.dK kvs) → RecD (recdO rs1 rs2) kvs → Q (.ref D) H'
section
variable {P : Program} {w : World} {K : PySem.W.Frag} {mg : Str → Option Value} {base : Heap}
theorem ok_recd88 (T : Txt K mg) {j : Nat} : FnOk P w K mg base CX0 (j + 3) T.fRecd88 T.fdRecd88 ["_law_before", "_law_after"] (spRecd88 K) := by
  refine T.FRecd88.ok scRecd88 (fun vs H Q E h => ?_) (fun cdv A outer s H vs Q E hr h => ?_)
  · obtain ⟨a, b, xs, ys, rs1, rs2, rfl, _⟩ := h
    rfl
  · obtain ⟨a, b, xs, ys, rs1, rs2, rfl, hA, R1, hB, R2, hl, hc, w1, w2, q⟩ := h
    refine ⟨_, pss_cons (ps_set (i := 2) scRecd88.nd rfl (.inl rfl) pe_dnewK) (pss_cons (ps_for PassesOwn.never rfl (pi_zip (by rfl) T.n_zip (pa_cons (pv 0) (pa_cons (pv 1) pa_nil))) (pg_tup rfl (pgs_cons (pg_name (i := 3) scRecd88.nd rfl (.inl rfl)) (pgs_cons (pg_name (i := 4) scRecd88.nd rfl (.inl rfl)) pgs_nil))) (pss_one (ps_for PassesOwn.never rfl (pi_tup (pv 4)) (pg_name (i := 5) scRecd88.nd rfl (.inl rfl)) (pss_one (ps_if (pt_cmpR (op_notInK K) (pv 5) (pv 3) (by rfl)) (pss_one (ps_dput (hu_of hr) (pv 2) (pv 5) (pe_op op_add (pe_dget2 (hu_of hr) (pv 2) (pv 5) pe_int ⟨rfl, rfl, rfl, rfl⟩) pe_int) rfl)) pss_nil))))) (pss_one (ps_ret (pv 2)))), ?_⟩
    intro D nD
    have l1 := R1.len
    have l2 := R2.len
    refine ⟨.ref a, rfl, .ref b, rfl, a, b, _, _, rfl, (same_new nD).seq hA, (same_new nD).seq hB, ?_⟩
    refine RZ.for_zipL (by rw [l1, l2, hl]) (fun i σ H3 => ∃ v3 v4 v5 kvs, σ = [some (.ref a), some (.ref b), some (.ref D), v3, v4, v5] ∧ Same H H3 ∧ H3 D = some (.dK kvs) ∧ RecD (recdO (rs1.take i) (rs2.take i)) kvs) ⟨none, none, none, [], rfl, same_new nD, upd_same, ⟨[], List.nodup_nil, fun y => by simp [recdO], rfl⟩⟩ (fun i σ H3 ⟨_, _, _, _, _, s3, _⟩ => ⟨s3.seq hA, s3.seq hB⟩) ?_ ?_
    · rintro i x y TU σ H3 hx hy ⟨v3, v4, v5, kvs, rfl, s3, hD3, rd⟩ nT
      obtain ⟨r1, hr1, t1, rfl, hT1⟩ := R1.at hx
      obtain ⟨r2, hr2, t2, rfl, hT2⟩ := R2.at hy
      have s4 := same_new (o := .tup [V.ref t1, V.ref t2]) nT
      refine ⟨TU, _, rfl, SqT.of upd_same, rfl, _, _, rfl, _, _, rfl, rfl, ?_⟩
      have hD4 := s4 _ _ hD3
      have s34 := s3.trans s4
      generalize upd H3 TU (.tup [V.ref t1, V.ref t2]) = H4 at s4 hD4 s34 ⊢
      have e60 := w2 r2 (List.mem_of_getElem? hr2)
      have il : i < rs2.length := (List.getElem?_eq_some_iff.mp hr2).1
      refine ⟨.ref t2, rfl, t2, rfl, ⟨_, Same.seqT s34 hT2⟩, for_tup (K := K) (a := t2) (xs := setV r2) (fun z σ H5 => ∃ v5 kvs, σ = [some (.ref a), some (.ref b), some (.ref D), some (.ref t1), some (.ref t2), v5] ∧ Same H H5 ∧ H5 D = some (.dK kvs) ∧ RecD (recdO (rs1.take i) (rs2.take i) ++ recdR r1 (r2.take z)) kvs) ⟨v5, kvs, rfl, s34, hD4, by simpa [recdR] using rd⟩ (fun z σ H5 _ ⟨_, _, _, s5, _⟩ => Same.seqT s5 hT2) ?_ ?_⟩
      · rintro z v σ H5 hz ⟨v5, kvs, rfl, s5, hD5, rd⟩
        obtain ⟨m, hm, rfl⟩ := setV_get hz
        have zl := (List.getElem?_eq_some_iff.mp hm).1
        have rl := rd.len
        have rw1 := recdO_len (a := rs1.take i) (b := rs2.take i) (w := 60) fun r hr => w2 r (List.mem_of_mem_take hr)
        rw [List.length_take] at rw1
        have rw2 : (recdR r1 (r2.take z)).length ≤ 60 := by
          unfold recdR
          rw [List.length_map, List.length_take]
          omega
        rw [List.length_append] at rl
        have hm1 : min i rs1.length * 60 ≤ 1000 * 60 := Nat.mul_le_mul_right _ (by omega)
        refine ⟨_, rfl, .ref t1, rfl, t1, _, rfl, .inr (Same.seqT s5 hT1), rfl, setV_flat _, _, rfl, ?_⟩
        rw [inV_setV]
        refine ite2 (fun h => ?_) (fun h => ?_)
        · have hn : m ∉ r1 := by simpa using h
          obtain ⟨g1, g2⟩ := rd.step m
          refine ⟨.ref D, rfl, D, rfl, .inl ⟨_, .inl hD5⟩, _, rfl, _, DGet.k (k := kI m) hD5, ?_⟩
          rw [g1]
          refine ⟨_, _, rfl, rfl, .ref D, rfl, _, rfl, D, _, rfl, DPut.k (k := kI m) hD5 (by rw [sizeLine_eq]; omega), ?_⟩
          refine ⟨_, _, rfl, keep_upd s5 nD, upd_same, ?_⟩
          rw [recdR_snoc hm, if_neg hn, ← List.append_assoc]
          exact g2
        · have hn : m ∈ r1 := by simpa using h
          refine ⟨_, kvs, rfl, s5, hD5, ?_⟩
          rw [recdR_snoc hm, if_pos hn, ← List.append_assoc]
          exact rd.skip
      · rintro σ H5 ⟨v5, kvs, rfl, s5, hD5, rd⟩
        rw [setV_len, List.take_length] at rd
        exact ⟨_, _, _, kvs, rfl, s5, hD5, by rw [recdO_snoc hr1 hr2]; exact rd⟩
    · rintro σ H3 ⟨v3, v4, v5, kvs, rfl, s3, hD3, rd⟩
      rw [l1, List.take_length, hl, List.take_length] at rd
      exact ⟨.ref D, rfl, q H3 D kvs s3 nD hD3 rd⟩
end
/-! ### who receives when a server goes or comes -/
theorem cntR_app (a b : List (Option Nat)) (y : Nat) : cntR (a ++ b) y = cntR a y + cntR b y := List.countP_append
theorem recdR_cnt {r1 r2 : List Nat} (nd : r2.Nodup) (y : Nat) : cntR (recdR r1 r2) y = if y ∈ r2 ∧ y ∉ r1 then 1 else 0 := by
  induction r2 with
  | nil => rw [if_neg (fun z => by cases z.1)]; rfl
  | cons m r ih =>
    obtain ⟨n1, n2⟩ := List.nodup_cons.mp nd
    have h1 : cntR (recdR r1 (m :: r)) y = cntR [if m ∈ r1 then none else some m] y + cntR (recdR r1 r) y := cntR_app [_] _ y
    rw [h1, ih n2]
    have h2 : cntR [if m ∈ r1 then none else some m] y = if y = m ∧ m ∉ r1 then 1 else 0 := by
      unfold cntR
      rw [List.countP_cons, List.countP_nil, Nat.zero_add]
      by_cases c : m ∈ r1
      · rw [if_pos c, if_neg (fun z => by have := of_decide_eq_true z; cases this), if_neg (fun z => z.2 c)]
      · rw [if_neg c]
        by_cases e : y = m
        · rw [if_pos (decide_eq_true (by rw [e])), if_pos ⟨e, c⟩]
        · rw [if_neg (fun z => e (Option.some.inj (of_decide_eq_true z)).symm), if_neg (fun z => e z.1)]
    rw [h2]
    by_cases e : y = m
    · subst e
      by_cases c : y ∈ r1
      · rw [if_neg (fun z => z.2 c), if_neg (fun z => z.2 c), if_neg (fun z => z.2 c)]
      · rw [if_pos ⟨rfl, c⟩, if_neg (fun z => n1 z.1), if_pos ⟨List.mem_cons_self, c⟩]
    · rw [if_neg (fun z => e z.1), Nat.zero_add]
      by_cases c : y ∈ r ∧ y ∉ r1
      · rw [if_pos c, if_pos ⟨List.mem_cons_of_mem _ c.1, c.2⟩]
      · rw [if_neg c, if_neg (fun z => c ⟨(List.mem_cons.mp z.1).resolve_left e, z.2⟩)]
theorem recdO_cnt {A B : List Nat} {f : Nat} : ∀ {rows : List (List Nat)} (_ : ∀ r ∈ rows, r.Nodup) (y : Nat), cntR (recdO (ownsL A f rows) (ownsL B f rows)) y = rows.countP fun r => decide (y ∈ holdL B r f ∧ y ∉ holdL A r f)
  | [], _, y => rfl
  | r :: rows, nd, y => by
    have h1 : cntR (recdO (ownsL A f (r :: rows)) (ownsL B f (r :: rows))) y = cntR (recdR (holdL A r f) (holdL B r f)) y + cntR (recdO (ownsL A f rows) (ownsL B f rows)) y := cntR_app _ _ y
    have hn : (holdL B r f).Nodup := ((nd r List.mem_cons_self).filter _).sublist (List.take_sublist _ _)
    rw [h1, recdR_cnt hn, recdO_cnt (rows := rows) (fun r hr => nd r (List.mem_cons_of_mem _ hr)) y, List.countP_cons, Nat.add_comm]
    congr 1
    by_cases c : y ∈ holdL B r f ∧ y ∉ holdL A r f
    · rw [if_pos c, if_pos (decide_eq_true c)]
    · rw [if_neg c, if_neg (fun z => c (of_decide_eq_true z))]
theorem recdO_mem {A B : List Nat} {f y : Nat} {rows : List (List Nat)} : some y ∈ recdO (ownsL A f rows) (ownsL B f rows) → ∃ r ∈ rows, y ∈ holdL B r f ∧ y ∉ holdL A r f := by
  induction rows with
  | nil => exact fun h => by cases h
  | cons r rows ih =>
    intro h
    have h : some y ∈ recdR (holdL A r f) (holdL B r f) ++ recdO (ownsL A f rows) (ownsL B f rows) := h
    rcases List.mem_append.mp h with h | h
    · obtain ⟨m, hm, e⟩ := List.mem_map.mp h
      by_cases c : m ∈ holdL A r f
      · rw [if_pos c] at e
        cases e
      · rw [if_neg c] at e
        cases e
        exact ⟨r, List.mem_cons_self, hm, c⟩
    · obtain ⟨r', h1, h2⟩ := ih h
      exact ⟨r', List.mem_cons_of_mem _ h1, h2⟩
/-- a server goes: who is new -/
theorem go_new {l : List Nat} {x f y : Nat} (nd : l.Nodup) (hf : f + 1 ≤ l.length) : (y ∈ (l.filter fun y => !decide (y = x)).take f ∧ y ∉ l.take f) ↔ (x ∈ l.take f ∧ y = l.getD f 0) := by
  by_cases c : x ∈ l.take f
  · obtain ⟨a, m, z, e2, e3, e4, e5⟩ := first_swap nd hf c
    have ez : l.getD f 0 = z := by
      rw [List.getD_eq_getElem?_getD, e3]
      rfl
    rw [e4, ez]
    have hz : z ∉ l.take f := fun h => by
      obtain ⟨i, hi⟩ := List.getElem?_of_mem h
      rw [List.getElem?_take] at hi
      split at hi
      · rename_i hlt
        have := nodup_inj nd hi e3
        omega
      · cases hi
    constructor
    · rintro ⟨h1, h2⟩
      refine ⟨c, ?_⟩
      rw [e2] at h2
      simp only [List.mem_append, List.mem_cons, List.not_mem_nil, or_false, not_or] at h1 h2
      grind
    · rintro ⟨_, rfl⟩
      exact ⟨by simp, hz⟩
  · rw [first_keep (by omega) c]
    exact ⟨fun z => absurd z.1 z.2, fun z => absurd z.1 c⟩
/-- a server comes: who is new -/
theorem come_new {l : List Nat} {x f y : Nat} (nd : l.Nodup) (hf : f + 1 ≤ l.length) : (y ∈ l.take f ∧ y ∉ (l.filter fun y => !decide (y = x)).take f) ↔ (x ∈ l.take f ∧ y = x) := by
  by_cases c : x ∈ l.take f
  · obtain ⟨a, m, z, e2, e3, e4, e5⟩ := first_swap nd hf c
    rw [e4]
    constructor
    · rintro ⟨h1, h2⟩
      refine ⟨c, ?_⟩
      rw [e2] at h1
      simp only [List.mem_append, List.mem_cons, List.not_mem_nil, or_false, not_or] at h1 h2
      grind
    · rintro ⟨_, rfl⟩
      refine ⟨c, fun h => ?_⟩
      rw [← e4] at h
      have := (List.mem_filter.mp (List.mem_of_mem_take h)).2
      simp at this
  · rw [first_keep (by omega) c]
    exact ⟨fun z => absurd z.1 z.2, fun z => absurd z.1 c⟩
/-! ### the shares of a failure and of a recovery -/
theorem hold_out88 (L os : List Nat) (f x : Nat) : holdL (L.filter fun y => !decide (y = x)) os f = ((inL L os).filter fun y => !decide (y = x)).take f := by
  have e : inL (L.filter fun y => !decide (y = x)) os = (inL L os).filter fun y => !decide (y = x) := lv_without L os x
  unfold holdL
  rw [e]
/-- a failure: who receives, and how often -/
theorem go_cnt {L : List Nat} {f x : Nat} {rows : List (List Nat)} (h : ∀ r ∈ rows, r.Nodup ∧ f + 1 ≤ (inL L r).length) (y : Nat) : cntR (recdO (ownsL L f rows) (ownsL (L.filter fun y => !decide (y = x)) f rows)) y = cpN L f x rows y := by
  rw [recdO_cnt fun r hr => (h r hr).1]
  unfold cpN
  refine List.countP_congr fun r hr => ?_
  obtain ⟨h1, h2⟩ := h r hr
  have g := go_new (x := x) (y := y) (f := f) (h1.filter fun z => decide (z ∈ L)) h2
  rw [decide_eq_true_eq, decide_eq_true_eq, hold_out88]
  show (y ∈ ((lvL L r).filter fun y => !decide (y = x)).take f ∧ y ∉ (lvL L r).take f) ↔ _
  refine g.trans ?_
  show (x ∈ (lvL L r).take f ∧ y = (lvL L r).getD f 0) ↔ _
  by_cases c : x ∈ (lvL L r).take f
  · rw [if_pos c]
    exact ⟨fun z => by rw [z.2], fun z => ⟨c, (Option.some.inj z).symm⟩⟩
  · rw [if_neg c]
    exact ⟨fun z => absurd z.1 c, fun z => by cases z⟩
/-- a recovery: who receives, and how often -/
theorem come_cnt {L : List Nat} {f x : Nat} {rows : List (List Nat)} (h : ∀ r ∈ rows, r.Nodup ∧ f + 1 ≤ (inL L r).length) : cntR (recdO (ownsL (L.filter fun y => !decide (y = x)) f rows) (ownsL L f rows)) x = ldN L f rows x := by
  rw [recdO_cnt fun r hr => (h r hr).1]
  unfold ldN
  refine List.countP_congr fun r hr => ?_
  obtain ⟨h1, h2⟩ := h r hr
  have g := come_new (x := x) (y := x) (f := f) (h1.filter fun z => decide (z ∈ L)) h2
  rw [decide_eq_true_eq, decide_eq_true_eq, hold_out88]
  exact g.trans ⟨fun z => z.1, fun z => ⟨z, rfl⟩⟩
theorem come_only {L : List Nat} {f x y : Nat} {rows : List (List Nat)} (h : ∀ r ∈ rows, r.Nodup ∧ f + 1 ≤ (inL L r).length) (hy : some y ∈ recdO (ownsL (L.filter fun y => !decide (y = x)) f rows) (ownsL L f rows)) : y = x := by
  obtain ⟨r, hr, z⟩ := recdO_mem hy
  obtain ⟨h1, h2⟩ := h r hr
  rw [hold_out88] at z
  exact ((come_new (x := x) (y := y) (f := f) (h1.filter fun z => decide (z ∈ L)) h2).mp z).2
theorem go_only {L : List Nat} {f x y : Nat} {rows : List (List Nat)} (h : ∀ r ∈ rows, r.Nodup ∧ f + 1 ≤ (inL L r).length) (hy : some y ∈ recdO (ownsL L f rows) (ownsL (L.filter fun y => !decide (y = x)) f rows)) : y ∈ L.filter fun y => !decide (y = x) := by
  obtain ⟨r, hr, z, _⟩ := recdO_mem hy
  exact (inL_mem (ls := L.filter fun y => !decide (y = x)) (os := r) (List.mem_of_mem_take z)).2
/-- with no server to spare nobody receives -/
theorem go_none {L : List Nat} {f x : Nat} {rows : List (List Nat)} (h : ∀ r ∈ rows, (inL L r).length ≤ f) (y : Nat) : some y ∉ recdO (ownsL L f rows) (ownsL (L.filter fun y => !decide (y = x)) f rows) := fun hy => by
  obtain ⟨r, hr, z1, z2⟩ := recdO_mem hy
  rw [hold_out88] at z1
  refine z2 ?_
  unfold holdL
  rw [List.take_of_length_le (h r hr)]
  exact (List.mem_filter.mp (List.mem_of_mem_take z1)).1
theorem recd_nil {ps : List (Option Nat)} {kvs : List (Key × V)} (h : RecD ps kvs) (hn : ∀ y, some y ∉ ps) : kvs = [] := by
  obtain ⟨ks, _, h2, rfl⟩ := h
  cases ks with
  | nil => rfl
  | cons k ks => exact absurd ((h2 k).mp List.mem_cons_self) (hn k)
/-! ### the holders of one list, before and after -/
/-- the holders of a list before and after -/
theorem hold_fail {L os : List Nat} {fa x : Nat} (nd : os.Nodup) (hf : fa + 1 ≤ (inL L os).length) : holdL (L.filter fun y => !decide (y = x)) os fa = if x ∈ holdL L os fa then (holdL L os fa).filter (fun y => !decide (y = x)) ++ [(inL L os).getD fa 0] else holdL L os fa := by
  have e : inL (L.filter fun y => !decide (y = x)) os = (inL L os).filter fun y => !decide (y = x) := lv_without L os x
  have ndi : (inL L os).Nodup := nd.filter _
  unfold holdL
  rw [e]
  by_cases c : x ∈ (inL L os).take fa
  · rw [if_pos c]
    obtain ⟨a, m, z, e2, e3, e4, e5⟩ := first_swap ndi hf c
    rw [e4, e2]
    have na : (a ++ x :: m).Nodup := by rw [← e2]; exact ndi.sublist (List.take_sublist _ _)
    have ez : (inL L os).getD fa 0 = z := by
      rw [List.getD_eq_getElem?_getD, e3]
      rfl
    rw [ez]
    congr 1
    have n2 := List.nodup_append.mp na
    have xa : x ∉ a := fun h => n2.2.2 x h x List.mem_cons_self rfl
    have xm : x ∉ m := (List.nodup_cons.mp n2.2.1).1
    rw [List.filter_append, filter_out xa, List.filter_cons_of_neg (p := fun y => !decide (y = x)) (by simp), filter_out xm]
  · rw [if_neg c]
    exact first_keep (by omega) c
/-- who stays, and who is new -/
theorem row_stay88 {L os : List Nat} {f x : Nat} (nd : os.Nodup) (h : f + 1 ≤ (inL L os).length ∨ (inL L os).length ≤ f) : (holdL (L.filter fun y => !decide (y = x)) os f).filter (fun y => decide (y ∈ (holdL L os f).filter fun y => !decide (y = x))) = (holdL L os f).filter fun y => !decide (y = x) := by
  have ndA : (holdL L os f).Nodup := (nd.filter _).sublist (List.take_sublist _ _)
  rcases h with h | h
  · rw [hold_fail nd h]
    by_cases c : x ∈ holdL L os f
    · rw [if_pos c, List.filter_append]
      have g := (go_new (x := x) (y := (inL L os).getD f 0) (f := f) (nd.filter fun z => decide (z ∈ L)) h).mpr ⟨c, rfl⟩
      rw [List.filter_eq_self.mpr fun y hy => decide_eq_true hy, List.filter_cons_of_neg, List.filter_nil, List.append_nil]
      intro z
      exact g.2 (List.mem_filter.mp (of_decide_eq_true z)).1
    · rw [if_neg c]
      have e : (holdL L os f).filter (fun y => !decide (y = x)) = holdL L os f := filter_out c
      rw [e]
      exact List.filter_eq_self.mpr fun y hy => decide_eq_true hy
  · rw [hold_out88]
    have e : holdL L os f = inL L os := List.take_of_length_le h
    have fl := List.length_filter_le (fun y => !decide (y = x)) (inL L os)
    rw [e, List.take_of_length_le (by omega)]
    exact List.filter_eq_self.mpr fun y hy => decide_eq_true hy
theorem row_new88 {L os : List Nat} {f x y : Nat} (nd : os.Nodup) (h : f + 1 ≤ (inL L os).length) : (y ∈ holdL (L.filter fun y => !decide (y = x)) os f ∧ y ∉ (holdL L os f).filter fun y => !decide (y = x)) ↔ (x ∈ holdL L os f ∧ y = (inL L os).getD f 0) := by
  have g := go_new (x := x) (y := y) (f := f) (nd.filter fun z => decide (z ∈ L)) h
  rw [hold_out88]
  refine Iff.trans ⟨fun z => ⟨z.1, fun z2 => z.2 (List.mem_filter.mpr ⟨z2, ?_⟩)⟩, fun z => ⟨z.1, fun z2 => z.2 (List.mem_filter.mp z2).1⟩⟩ g
  exact (List.mem_filter.mp (List.mem_of_mem_take z.1)).2
theorem row_none88 {L os : List Nat} {f x y : Nat} (h : (inL L os).length ≤ f) : ¬ (y ∈ holdL (L.filter fun y => !decide (y = x)) os f ∧ y ∉ (holdL L os f).filter fun y => !decide (y = x)) := by
  rintro ⟨z1, z2⟩
  rw [hold_out88] at z1
  have e : holdL L os f = inL L os := List.take_of_length_le h
  rw [e] at z2
  exact z2 (List.mem_of_mem_take z1)
theorem size88 {A B : List Nat} {o : Option Int} (h : ∀ y : Nat, (y ∈ B ∧ y ∉ A) ↔ o = some (y : Int)) (nd : B.Nodup) : B.length ≤ A.length + 1 := by
  by_cases g : ∃ y, y ∈ B ∧ y ∉ A
  · obtain ⟨y, hy⟩ := g
    have e := (h y).mp hy
    have := subG_len (ks := B) (ns := A ++ [y]) nd fun k hk => by
      by_cases c : k ∈ A
      · exact List.mem_append.mpr (.inl c)
      · have e2 := (h k).mp ⟨hk, c⟩
        rw [e] at e2
        have := Option.some.inj e2
        exact List.mem_append.mpr (.inr (List.mem_singleton.mpr (by omega)))
    rw [List.length_append] at this
    exact this
  · have := subG_len (ks := B) (ns := A) nd fun k hk => Classical.byContradiction fun c => g ⟨k, hk, c⟩
    omega
def intsL (A : List Nat) : List Int := A.map fun (m : Nat) => (m : Int)
theorem ints_mem {A : List Nat} {k : Int} : k ∈ intsL A ↔ ∃ m ∈ A, (m : Int) = k := List.mem_map
theorem ints_nd {A : List Nat} (h : A.Nodup) : (intsL A).Nodup := List.pairwise_map.mpr (List.Pairwise.imp (fun {a b} h e => h (by omega)) h)
theorem ints_setV (A : List Nat) : (intsL A).map V.int = setV A := by
  unfold setV intsL
  rw [List.map_map]
  rfl
theorem ne_row88 {A B : List Nat} {o : Option Int} {ks : List Int} (h : ∀ y : Nat, (y ∈ B ∧ y ∉ A) ↔ o = some (y : Int)) (pos : ∀ i, o = some i → 0 ≤ i) (nd : ks.Nodup) (hk : ∀ k, k ∈ ks ↔ (decide (k ∈ intsL B) && !decide (k ∈ intsL A)) = true) : ks.length = len1 o ∧ ∀ k, (decide (k ∈ intsL B) && !decide (k ∈ intsL A)) = true → kept1 o k = true := by
  have h2 : ∀ k, k ∈ ks ↔ o = some k := fun k => by
    rw [hk k]
    simp only [Bool.and_eq_true, decide_eq_true_eq, Bool.not_eq_true', decide_eq_false_iff_not]
    constructor
    · rintro ⟨z1, z2⟩
      obtain ⟨m, hm, rfl⟩ := ints_mem.mp z1
      exact (h m).mp ⟨hm, fun z => z2 (ints_mem.mpr ⟨m, z, rfl⟩)⟩
    · intro e
      have p := pos k e
      obtain ⟨m, rfl⟩ : ∃ m : Nat, k = (m : Int) := ⟨k.toNat, by omega⟩
      obtain ⟨z1, z2⟩ := (h m).mpr e
      refine ⟨ints_mem.mpr ⟨m, z1, rfl⟩, fun z => ?_⟩
      obtain ⟨m', hm', e'⟩ := ints_mem.mp z
      exact z2 (by rw [show m = m' by omega]; exact hm')
  refine ⟨?_, fun k hS => ?_⟩
  · cases o with
    | none =>
      cases ks with
      | nil => rfl
      | cons k ks => exact nomatch (h2 k).mp List.mem_cons_self
    | some i =>
      have : ks.Perm [i] := (List.perm_ext_iff_of_nodup nd (by simp)).mpr fun k => (h2 k).trans ⟨fun e => List.mem_singleton.mpr (Option.some.inj e).symm, fun e => by rw [List.mem_singleton.mp e]⟩
      exact this.length_eq
  · have e := (h2 k).mp ((hk k).mpr hS)
    rw [e]
    simp [kept1]
theorem turn_filter88 {L : List Nat} {x : Nat} (h : x ∈ L) : turnL L x = L.filter (fun y => !decide (y = x)) := turn_in h
/-! ### what is received, as a dict -/
theorem C_one88 : ∀ n < 61, C n 1 = n := by decide +kernel
theorem cp_sum88 {L : List Nat} {f x : Nat} {rows : List (List Nat)} (nL : L.Nodup) (h : ∀ r ∈ rows, r.Nodup ∧ f + 1 ≤ (lvL L r).length) : ((L.filter fun y => !decide (y = x)).map (cpN L f x rows)).sum = ldN L f rows x := by
  have e1 : ((L.filter fun y => !decide (y = x)).map (cpN L f x rows)).sum = ((L.filter fun y => !decide (y = x)).map fun a => rows.countP ((fun (a : Nat) (r : List Nat) => decide ((if x ∈ (lvL L r).take f then some ((lvL L r).getD f 0) else none) = some a)) a)).sum := rfl
  rw [e1, swap_sum (fun (a : Nat) (r : List Nat) => decide ((if x ∈ (lvL L r).take f then some ((lvL L r).getD f 0) else none) = some a))]
  unfold ldN
  rw [← sum_ind]
  congr 1
  refine List.map_congr_left fun r hr => ?_
  obtain ⟨nd, hf⟩ := h r hr
  by_cases c : x ∈ (lvL L r).take f
  · rw [if_pos (decide_eq_true c)]
    obtain ⟨a, m, z, e2, e3, e4, e5⟩ := first_swap (l := lvL L r) (nd.filter _) hf c
    have ez : (lvL L r).getD f 0 = z := by
      rw [List.getD_eq_getElem?_getD, e3]
      rfl
    have zL : z ∈ L := by
      have := (List.mem_filter.mp (List.mem_of_getElem? e3)).2
      exact of_decide_eq_true this
    have zx : z ≠ x := fun e => e5 (e ▸ c)
    refine countP_one (a := z) (nL.filter _) (List.mem_filter.mpr ⟨zL, by simpa using zx⟩) fun b _ => ?_
    rw [if_pos c, ez]
    exact ⟨fun z => (Option.some.inj (of_decide_eq_true z)).symm, fun z => decide_eq_true (by rw [z])⟩
  · rw [if_neg (fun z => c (of_decide_eq_true z))]
    refine List.countP_eq_zero.mpr fun a _ z => ?_
    rw [if_neg c] at z
    cases of_decide_eq_true z
section
variable {n fl fa c : Nat} {L : List Nat} {x : Nat}
theorem en88 (ok : CluOk n fl fa c L) (few : n + 1 ≤ L.length + fl) (hf : fa < L.length) : ∀ r ∈ stdRows n (min n (fl + fa)) c, r.Nodup ∧ fa + 1 ≤ (inL L r).length := fun r hr => by
  have ll := ok.len
  have G := std_tab93 ok.std
  exact ⟨(G r hr).2.1, enough G ok.asc ok.lt (q := fa + 1) (by omega) r hr⟩
/-- each other server's share of a failure -/
theorem share88 (ok : CluOk n fl fa c L) (hx : x ∈ L) (few : n + 1 ≤ L.length + fl) (hf : fa < L.length) :
    (∀ y ∈ L, y ≠ x → cpN L fa x (stdRows n (min n (fl + fa)) c) y = c * fa / (L.length * (L.length - 1))) ∧ loadC fa c L.length = c * fa / (L.length * (L.length - 1)) * (L.length - 1) ∧ 0 < c * fa / (L.length * (L.length - 1)) := by
  have ll := ok.len
  have a1 := ok.a1
  have f1 := ok.f1
  have n6 := ok.std.n60
  have rl := std_len93 n (min n (fl + fa)) c
  have G := std_tab93 ok.std
  have e1 := copies_even (f := fa) G ok.asc ok.lt a1 (by omega) (by omega) (fun s hs => ⟨wd n c s, std_lev ok.std (s := s) (by omega)⟩) hx
  have e2 := cp_sum88 (x := x) (asc_nodup ok.asc) (en88 ok few hf)
  have e3 := std_load93 ok (by omega) hx
  rw [Nat.min_eq_left (by omega)] at e3
  rw [rl] at e1
  have e4 : ((L.filter fun y => !decide (y = x)).map (cpN L fa x (stdRows n (min n (fl + fa)) c))) = (L.filter fun y => !decide (y = x)).map fun _ => c * fa / (L.length * (L.length - 1)) := List.map_congr_left fun y hy => by
    have := List.mem_filter.mp hy
    exact e1 y this.1 (by simpa using this.2)
  rw [e4, sum_const] at e2
  have ol : (L.filter fun y => !decide (y = x)).length = L.length - 1 := by
    have := out_len (asc_nodup ok.asc) hx
    omega
  rw [ol] at e2
  refine ⟨e1, by rw [← e3, ← e2, Nat.mul_comm], ?_⟩
  refine Nat.div_pos ?_ (Nat.mul_pos (by omega) (by omega))
  have d1 := Nat.le_of_dvd ok.std.c0 (ok.std.dvd 1 (by omega))
  rw [C_one88 (n - 1) (by omega)] at d1
  have d2 : L.length * (L.length - 1) ≤ n * (n - 1) := Nat.mul_le_mul ll (by omega)
  have d3 : c ≤ c * fa := Nat.le_mul_of_pos_right _ a1
  omega
theorem fail_dict88 (ok : CluOk n fl fa c L) (hx : x ∈ L) (few : n + 1 ≤ L.length + fl) (hf : fa < L.length) {kvs : List (Key × V)} (rd : RecD (recdO (ownsL L fa (stdRows n (min n (fl + fa)) c)) (ownsL (L.filter fun y => !decide (y = x)) fa (stdRows n (min n (fl + fa)) c))) kvs) :
    kvs.length = (mapD (fun _ => c * fa / (L.length * (L.length - 1))) (L.filter fun y => !decide (y = x))).length ∧ ∀ p ∈ kvs, valV (mapD (fun _ => c * fa / (L.length * (L.length - 1))) (L.filter fun y => !decide (y = x))) p.1 = some p.2 ∧ flatB p.2 = true := by
  obtain ⟨e1, _, pos⟩ := share88 ok hx few hf
  have en := en88 ok few hf
  refine rec_due rd ((asc_nodup ok.asc).filter _) pos (fun y hy => go_only en hy) fun y hy => ?_
  rw [go_cnt en]
  have := List.mem_filter.mp hy
  exact e1 y this.1 (by simpa using this.2)
theorem fail_nil88 (ok : CluOk n fl fa c L) (hf : L.length ≤ fa) {kvs : List (Key × V)} (rd : RecD (recdO (ownsL L fa (stdRows n (min n (fl + fa)) c)) (ownsL (L.filter fun y => !decide (y = x)) fa (stdRows n (min n (fl + fa)) c))) kvs) : kvs = [] :=
  recd_nil rd (go_none fun r hr => by
    have h1 : (inL L r).length ≤ L.length := subG_len ((std_tab93 ok.std r hr).2.1.filter _) fun y hy => (inL_mem (ls := L) (os := r) hy).2
    omega)
theorem come_new88 {l : List Nat} {x f y : Nat} (nd : l.Nodup) : (y ∈ l.take f ∧ y ∉ (l.filter fun y => !decide (y = x)).take f) ↔ (x ∈ l.take f ∧ y = x) := by
  rcases Nat.lt_or_ge f l.length with h | h
  · exact come_new nd h
  · have fl := List.length_filter_le (fun y => !decide (y = x)) l
    rw [List.take_of_length_le h, List.take_of_length_le (by omega)]
    constructor
    · rintro ⟨h1, h2⟩
      have e : y = x := Classical.byContradiction fun e => h2 (List.mem_filter.mpr ⟨h1, by simpa using e⟩)
      exact ⟨e ▸ h1, e⟩
    · rintro ⟨h1, rfl⟩
      refine ⟨h1, fun z => ?_⟩
      have := (List.mem_filter.mp z).2
      simp at this
theorem load_pos88 (ok : CluOk n fl fa c L) (l1 : 1 ≤ L.length) : 0 < loadC fa c L.length := by
  have ll := ok.len
  have a1 := ok.a1
  have f1 := ok.f1
  unfold loadC
  refine Nat.div_pos ?_ l1
  have d1 := Nat.le_of_dvd ok.std.c0 (ok.std.dvd 0 (by have := ok.n2; omega))
  rw [C_zero, Nat.mul_one] at d1
  have d3 : c ≤ c * min fa L.length := Nat.le_mul_of_pos_right _ (by omega)
  omega
/-- a recovery: the server that comes receives its load, and nobody else a thing -/
theorem come_dict88 (ok : CluOk n fl fa c L) (hx : x ∈ L) {kvs : List (Key × V)} (rd : RecD (recdO (ownsL (L.filter fun y => !decide (y = x)) fa (stdRows n (min n (fl + fa)) c)) (ownsL L fa (stdRows n (min n (fl + fa)) c))) kvs) : kvs = mapD (fun _ => loadC fa c L.length) [x] := by
  have G := std_tab93 ok.std
  have nd : ∀ r ∈ stdRows n (min n (fl + fa)) c, r.Nodup := fun r hr => (G r hr).2.1
  have l1 : 1 ≤ L.length := List.length_pos_of_mem hx
  have cnt : cntR (recdO (ownsL (L.filter fun y => !decide (y = x)) fa (stdRows n (min n (fl + fa)) c)) (ownsL L fa (stdRows n (min n (fl + fa)) c))) x = loadC fa c L.length := by
    rw [recdO_cnt nd, ← std_load93 ok l1 hx, ← own_min nd]
    unfold ldN
    refine List.countP_congr fun r hr => ?_
    have g := come_new88 (x := x) (y := x) (f := fa) ((nd r hr).filter fun z => decide (z ∈ L))
    rw [decide_eq_true_eq, decide_eq_true_eq, hold_out88]
    exact g.trans ⟨fun z => z.1, fun z => ⟨z, rfl⟩⟩
  have only : ∀ y, some y ∈ recdO (ownsL (L.filter fun y => !decide (y = x)) fa (stdRows n (min n (fl + fa)) c)) (ownsL L fa (stdRows n (min n (fl + fa)) c)) → y = x := fun y hy => by
    obtain ⟨r, hr, z⟩ := recdO_mem hy
    rw [hold_out88] at z
    exact ((come_new88 (x := x) (y := y) (f := fa) ((nd r hr).filter fun z => decide (z ∈ L))).mp z).2
  have pos := load_pos88 ok l1
  generalize recdO (ownsL (L.filter fun y => !decide (y = x)) fa (stdRows n (min n (fl + fa)) c)) (ownsL L fa (stdRows n (min n (fl + fa)) c)) = ps at rd cnt only
  obtain ⟨ks, h1, h2, rfl⟩ := rd
  have hxk : x ∈ ks := (h2 x).mpr (Classical.byContradiction fun z => by
    rw [cntR_zero z] at cnt
    omega)
  have ek : ks = [x] := List.perm_singleton.mp ((List.perm_ext_iff_of_nodup h1 (by simp)).mpr fun y => ⟨fun hy => List.mem_singleton.mpr (only y ((h2 y).mp hy)), fun hy => by rw [List.mem_singleton.mp hy]; exact hxk⟩)
  rw [ek]
  refine mapD_congr fun y hy => ?_
  rw [List.mem_singleton.mp hy, cnt]
end
/-! ### NotDead's __init__ -/
section
variable {P : Program} {w : World} {K : PySem.W.Frag} {mg : Str → Option Value} {base : Heap}
theorem ok_notd (T : Txt K mg) {j : Nat} : FnOk P w K mg base CX0 (j + 1) T.fNotD T.fdNotD ["self", "value"] (spErr K T.cNotD "value") := by
  refine T.FNotD.ok scNotD (fun vs H Q E h => ?_) (fun cdv A outer s H vs Q E hr h => ?_)
  · obtain ⟨a, v, rfl, _⟩ := h
    rfl
  · obtain ⟨a, v, rfl, ha, q⟩ := h
    refine ⟨_, pss_cons (ps_expr (pe_baseInit (by rfl) T.gcBase T.btBase.sp T.btBase.ty T.btBase.rd T.btBase.fc (pa_cons (pv 0) (pa_cons pe_str pa_nil)))) (pss_one (ps_ost (pv 0) (pv 1))), ?_⟩
    refine ⟨.ref a, rfl, a, T.cNotD, _, rfl, (by show 1 ≤ 1000; decide), T.eNotD.ox, ha, ?_⟩
    refine ⟨v, rfl, .ref a, rfl, a, T.cNotD, rfl, T.eNotD.ox, T.eNotD.no, .inl ⟨ha, fun dx nd ne => q dx nd ne⟩⟩
end
/-! ### failures and recoveries -/
/-- what a failure copies -/
def failC (fa c u : Nat) : Nat := if fa < u then loadC fa c u else 0
def deadB (n : Nat) (L : List Nat) : Option Int → Bool
  | some c => decide (0 ≤ c) && decide (c < (n : Int)) && !decide (c ∈ L.map fun (m : Nat) => (m : Int))
  | none => false
theorem deadB_some {n : Nat} {L : List Nat} {o : Option Int} (h : deadB n L o = true) : ∃ x : Nat, o = some (x : Int) ∧ x < n ∧ x ∉ L := by
  cases o with
  | none => cases h
  | some c =>
    have h2 : (decide (0 ≤ c) && decide (c < (n : Int)) && !decide (c ∈ L.map fun (m : Nat) => (m : Int))) = true := h
    simp only [Bool.and_eq_true, decide_eq_true_eq, Bool.not_eq_true', decide_eq_false_iff_not] at h2
    obtain ⟨⟨a, b⟩, d⟩ := h2
    obtain ⟨x, rfl⟩ := Int.eq_ofNat_of_zero_le a
    exact ⟨x, rfl, by omega, fun z => d (List.mem_map.mpr ⟨x, z, rfl⟩)⟩
theorem deadB_nat {n : Nat} {L : List Nat} {x : Nat} (h : x < n) (h2 : x ∉ L) : deadB n L (some (x : Int)) = true := by
  show (decide (0 ≤ (x : Int)) && decide ((x : Int) < (n : Int)) && !decide ((x : Int) ∈ L.map fun (m : Nat) => (m : Int))) = true
  rw [decide_eq_true (show 0 ≤ (x : Int) by omega), decide_eq_true (show (x : Int) < (n : Int) by omega), decide_eq_false (fun z => ?_)]
  · rfl
  · obtain ⟨m, hm, e⟩ := List.mem_map.mp z
    obtain rfl : m = x := by omega
    exact h2 hm
def spCluFail (K : PySem.W.Frag) (C CL CF : Addr) : Sp := fun vs H Q E => ∃ (p pl : Addr) (n fl fa c : Nat) (L : List Nat) (qs : List (Nat × Nat)) (v : V) (o : Option Int), vs = [.ref p, v] ∧ CluB C H p pl n fl fa c L qs ∧ CluOk n fl fa c L ∧ CountV K H v o ∧ qs.length ≤ 100000 ∧
  (liveB L o = false → Raised "value" CL v H E) ∧ (liveB L o = true → L.length + fl < n + 1 → Raised "alive" CF (.int (L.length : Nat)) H E) ∧
  (∀ x : Nat, o = some (x : Int) → x ∈ L → n + 1 ≤ L.length + fl → ∀ H', But2 p pl H H' → CluB C H' p pl n fl fa c (turnL L x) (qs ++ [(x, lastC qs + failC fa c L.length)]) → Q (.int (failC fa c L.length : Nat)) H')
def spCluRec (K : PySem.W.Frag) (C CD : Addr) : Sp := fun vs H Q E => ∃ (p pl : Addr) (n fl fa c : Nat) (L : List Nat) (qs : List (Nat × Nat)) (v : V) (o : Option Int), vs = [.ref p, v] ∧ CluB C H p pl n fl fa c L qs ∧ CluOk n fl fa c L ∧ CountV K H v o ∧ qs.length ≤ 100000 ∧
  (deadB n L o = false → Raised "value" CD v H E) ∧
  (∀ x : Nat, o = some (x : Int) → x < n → x ∉ L → ∀ H', But2 p pl H H' → CluB C H' p pl n fl fa c (turnL L x) (qs ++ [(x, lastC qs + loadC fa c (L.length + 1))]) → Q (.int (loadC fa c (L.length + 1) : Nat)) H')
section
variable {P : Program} {w : World} {K : PySem.W.Frag} {mg : Str → Option Value} {base : Heap}
theorem ok_clufail (T : Txt K mg) {j : Nat} : FnOk P w K mg base (L2.CX P w) (j + 8) T.fCluFail T.fdCluFail ["self", "server"] (spCluFail K T.cClu T.cNotL T.cTooF) := by
  refine T.FCluFail.okX scCluFail (fun vs H Q E h => ?_) (fun cdv A outer s H vs Q E hr h => ?_)
  · obtain ⟨p, pl, n, fl, fa, c, L, qs, v, o, rfl, _⟩ := h
    rfl
  · obtain ⟨p, pl, n, fl, fa, c, L, qs, v, o, rfl, B, ok, hv, hq, q1, q2, q3⟩ := h
    obtain ⟨⟨dx, tl, h1, h2⟩, us, h3, h4⟩ := id B
    refine ⟨_, pss_cons (ps_expr (pe_meth (pv 0) T.clClu T.mtCluCheckCanFail (ok_clucheckcanfail T) hr T.bCluCheckCanFail .nil (passes_call (takes_of rfl rfl rfl rfl) (fun _ _ _ _ h => h)) (pa_cons (pv 1) pa_nil))) (C8.pss_cut (ps_set (i := 2) scCluFail.nd rfl (.inl rfl) (pe_ifExp (pt_cmpR op_gt (pe_callB (call_lenK K) (by rfl) T.n_len PySem.boot_len (pa_cons (pe_fld (pv 0) rfl) pa_nil)) (pe_fld (pv 0) rfl) (nomark _)) (pe_meth (pv 0) T.clClu T.mtCluLoad (ok_cluload T) hr T.bCluLoad .nil (passes_call (takes_of rfl rfl rfl rfl) (fun _ _ _ _ h => h)) (pa_cons (pv 1) pa_nil)) pe_int)) (pss_cons (ps_expr (pe_meth (pv 0) T.clClu T.mtCluTurn (ok_cluturn T) hr T.bCluTurn .nil pass0 (pa_cons (pv 1) pa_nil))) (pss_cons (ps_expr (pe_bm PySem.F.plainAttrs_list PySem.F.slot_list_append PySem.F.type_list_append mt_append (pe_fld (pv 0) rfl) (pa_cons (pe_tup (pa_cons (pv 1) (pa_cons (pe_op op_add (pe_meth0 (pv 0) T.clClu T.mtCluCopied (ok_clucopied T) hr T.bCluCopied .nil pass0) (pv 2)) pa_nil))) pa_nil))) (pss_one (ps_ret (pv 2)))))), ?_⟩
    refine ⟨.ref p, rfl, p, dx, _, rfl, h1, fldC_no (by decide +kernel), v, rfl, p, pl, n, fl, fa, c, L, qs, v, o, rfl, B, ok, hv, q1, q2, fun hl few => ?_⟩
    obtain ⟨x, rfl, hx⟩ := liveB_some hl
    obtain rfl := hv.isInt
    have q4 := q3 x rfl hx few
    refine ⟨fun σ H1 => σ = [some (.ref p), some (.int (x : Int)), some (.int (failC fa c L.length : Nat))] ∧ Same H H1, ?_, ?_⟩
    · refine ⟨.ref p, rfl, p, T.cClu, dx, _, _, rfl, h1, T.clClu, T.naClu_living, fldC_living, tl, _, rfl, .inr (SqT.of h2), .ref p, rfl, p, T.cClu, dx, _, _, rfl, h1, T.clClu, T.naClu_factor, fldC_factor, _, _, rfl, rfl, _, rfl, ?_⟩
      rw [setV_len]
      unfold failC
      refine ite2 (fun hb => ?_) (fun hb => ?_)
      · have hf : (fa : Int) < (L.length : Int) := of_decide_eq_true hb
        rw [if_pos (show fa < L.length by omega)]
        exact ⟨.ref p, rfl, p, dx, _, rfl, h1, fldC_no (by decide +kernel), _, rfl, p, pl, n, fl, fa, c, L, qs, .int x, some (x : Int), rfl, B, ok, .inl ⟨_, rfl, rfl⟩, fun z => absurd ((liveB_nat hx).symm.trans z) (by decide), fun _ H1 s1 => ⟨rfl, s1⟩⟩
      · have hf : ¬ (fa : Int) < (L.length : Int) := fun z => hb (decide_eq_true z)
        rw [if_neg (show ¬ fa < L.length by omega)]
        exact ⟨rfl, Same.refl _⟩
    · rintro σ H1 ⟨rfl, s1⟩
      have B1 := B.same s1
      refine ⟨.ref p, rfl, p, dx, _, rfl, s1 _ _ h1, fldC_no (by decide +kernel), _, rfl, p, pl, n, fl, fa, c, L, qs, x, rfl, B1, ok.sixty, fun H2 b2 B2 => ?_⟩
      obtain ⟨⟨dx2, tl2, g1, g2⟩, us2, g3, g4⟩ := id B2
      have ul := g4.len
      refine ⟨.ref p, rfl, p, T.cClu, dx2, _, _, rfl, g1, T.clClu, T.naClu_past, fldC_past, .inl ⟨rfl, _, SqL.of g3⟩, _, rfl, .ref p, rfl, p, dx2, _, rfl, g1, fldC_no (by decide +kernel), p, pl, n, fl, fa, c, turnL L x, qs, rfl, B2, _, rfl, _, _, rfl, rfl, (by show 2 ≤ sizeLine; decide), fun t nt => ?_⟩
      dsimp only
      rw [show ((lastC qs : Nat) : Int) + ((failC fa c L.length : Nat) : Int) = ((lastC qs + failC fa c L.length : Nat) : Int) from rfl]
      have s3 := same_new (o := .tup [V.int (x : Int), V.int ((lastC qs + failC fa c L.length : Nat) : Int)]) nt
      obtain ⟨B3, b3⟩ := B2.push s3 nt upd_same (s3 _ _ g3) g4
      exact ⟨pl, _, _, rfl, rfl, s3 _ _ g3, by rw [ul, sizeLine_eq]; omega, _, rfl, q4 _ (((But2.ofS s1).trans (But2.of b2)).trans (But2.of' b3)) B3⟩
theorem ok_clurecover (T : Txt K mg) {j : Nat} : FnOk P w K mg base (L2.CX P w) (j + 8) T.fCluRecover T.fdCluRecover ["self", "server"] (spCluRec K T.cClu T.cNotD) := by
  refine T.FCluRecover.okX scCluRecover (fun vs H Q E h => ?_) (fun cdv A outer s H vs Q E hr h => ?_)
  · obtain ⟨p, pl, n, fl, fa, c, L, qs, v, o, rfl, _⟩ := h
    rfl
  · obtain ⟨p, pl, n, fl, fa, c, L, qs, v, o, rfl, B, ok, hv, hq, q1, q2⟩ := h
    obtain ⟨⟨dx, tl, h1, h2⟩, us, h3, h4⟩ := id B
    refine ⟨_, pss_cons (ps_if (PW.pt (pw_or (pt_not (pt_val (pe_call (ok_plain T) hr (by rfl) T.gPlain T.FPlain.kp T.bPlain .nil pass0 (pa_cons (pv 1) pa_nil)))) (pw_or (pt_cmpR op_lt (pv 1) pe_int (nomark _)) (pw_or (pt_cmpR op_ge (pv 1) (pe_fld (pv 0) rfl) (nomark _)) (pw_or1 (pt_cmpR (op_inK K) (pv 1) (pe_fld (pv 0) rfl) (by rfl))))))) (pss_one (ps_raise rfl (takes_of rfl rfl rfl rfl) (pmk_oex T.eNotD.ox T.eNotD.iC T.eNotD.tI (ok_notd T) hr T.bNotD .nil pass0 (by rfl) T.gcNotD (pa_cons (pv 1) pa_nil)))) pss_nil) (pss_cons (ps_expr (pe_meth (pv 0) T.clClu T.mtCluTurn (ok_cluturn T) hr T.bCluTurn .nil pass0 (pa_cons (pv 1) pa_nil))) (pss_cons (ps_set (i := 2) scCluRecover.nd rfl (.inl rfl) (pe_meth (pv 0) T.clClu T.mtCluLoad (ok_cluload T) hr T.bCluLoad .nil (passes_call (takes_of rfl rfl rfl rfl) (fun _ _ _ _ h => h)) (pa_cons (pv 1) pa_nil))) (pss_cons (ps_expr (pe_bm PySem.F.plainAttrs_list PySem.F.slot_list_append PySem.F.type_list_append mt_append (pe_fld (pv 0) rfl) (pa_cons (pe_tup (pa_cons (pv 1) (pa_cons (pe_op op_add (pe_meth0 (pv 0) T.clClu T.mtCluCopied (ok_clucopied T) hr T.bCluCopied .nil pass0) (pv 2)) pa_nil))) pa_nil))) (pss_one (ps_ret (pv 2)))))), ?_⟩
    have raise : deadB n L o = false → (tMkO T.cNotD (spErr K T.cNotD "value") [] (tCons (tVar 1) tNil)) [some (.ref p), some v, none] H (fun cls d H' => E cls d H') := fun ho => by
      refine ⟨v, rfl, (by show 1 ≤ 1000; decide), fun a na => ⟨a, v, rfl, upd_same, fun dx nd ne => ?_⟩⟩
      obtain ⟨e1, e2, e3, e4, e5⟩ := err_end (f := "value") (v := v) na nd ne
      exact ⟨rfl, dx, _, e1, e2, e3, q1 ho _ dx e4 e5 e3⟩
    obtain ⟨t, ht, e, ty⟩ := hv.ty
    refine ⟨v, rfl, v, t, rfl, ty, ht, _, rfl, ?_⟩
    rw [e]
    rcases hv with ⟨z, rfl, rfl⟩ | ⟨rfl, _⟩
    · refine iteF ?_
      refine ⟨_, rfl, _, _, rfl, rfl, _, rfl, ite2 (fun hb => ?_) (fun hb => ?_)⟩
      · have hz : z < 0 := of_decide_eq_true hb
        refine raise ?_
        show (decide (0 ≤ z) && decide (z < (n : Int)) && !decide (z ∈ L.map fun (m : Nat) => (m : Int))) = false
        rw [decide_eq_false (show ¬ 0 ≤ z by omega)]
        rfl
      have hz : ¬ z < 0 := fun y => hb (decide_eq_true y)
      refine ⟨_, rfl, .ref p, rfl, p, T.cClu, dx, _, _, rfl, h1, T.clClu, T.naClu_n, fldC_n, _, _, rfl, rfl, _, rfl, ite2 (fun hb => ?_) (fun hb => ?_)⟩
      · have hz2 : (n : Int) ≤ z := of_decide_eq_true hb
        refine raise ?_
        show (decide (0 ≤ z) && decide (z < (n : Int)) && !decide (z ∈ L.map fun (m : Nat) => (m : Int))) = false
        rw [decide_eq_false (show ¬ z < (n : Int) by omega), Bool.and_false]
        rfl
      have hz2 : ¬ (n : Int) ≤ z := fun y => hb (decide_eq_true y)
      obtain ⟨x, rfl⟩ := Int.eq_ofNat_of_zero_le (show 0 ≤ z by omega)
      refine ⟨_, rfl, .ref p, rfl, p, T.cClu, dx, _, _, rfl, h1, T.clClu, T.naClu_living, fldC_living, tl, _, rfl, .inr (SqT.of h2), rfl, setV_flat _, _, rfl, ?_⟩
      rw [inV_setV]
      refine ite2 (fun hb => ?_) (fun hb => ?_)
      · have hx : x ∈ L := by simpa using hb
        refine raise ?_
        show (decide (0 ≤ (x : Int)) && decide ((x : Int) < (n : Int)) && !decide ((x : Int) ∈ L.map fun (m : Nat) => (m : Int))) = false
        rw [decide_eq_true (p := (x : Int) ∈ L.map fun (m : Nat) => (m : Int)) (List.mem_map.mpr ⟨x, hx, rfl⟩), Bool.not_true, Bool.and_false]
      have hx : x ∉ L := by simpa using hb
      have q4 := q2 x rfl (by omega) hx
      refine ⟨.ref p, rfl, p, dx, _, rfl, h1, fldC_no (by decide +kernel), _, rfl, p, pl, n, fl, fa, c, L, qs, x, rfl, B, ok.sixty, fun H2 b2 B2 => ?_⟩
      obtain ⟨⟨dx2, tl2, g1, g2⟩, us2, g3, g4⟩ := id B2
      have ul := g4.len
      have ok2 := ok.back hx (by omega)
      have hx2 : x ∈ turnL L x := turn_mem.mpr (.inr ⟨rfl, hx⟩)
      rw [← turn_len_out hx] at q4
      refine ⟨.ref p, rfl, p, dx2, _, rfl, g1, fldC_no (by decide +kernel), _, rfl, p, pl, n, fl, fa, c, turnL L x, qs, .int x, some (x : Int), rfl, B2, ok2, .inl ⟨_, rfl, rfl⟩, fun z => absurd ((liveB_nat hx2).symm.trans z) (by decide), fun _ H3 s3 => ?_⟩
      have B3 := B2.same s3
      refine ⟨.ref p, rfl, p, T.cClu, dx2, _, _, rfl, s3 _ _ g1, T.clClu, T.naClu_past, fldC_past, .inl ⟨rfl, _, SqL.of (s3 _ _ g3)⟩, _, rfl, .ref p, rfl, p, dx2, _, rfl, s3 _ _ g1, fldC_no (by decide +kernel), p, pl, n, fl, fa, c, turnL L x, qs, rfl, B3, _, rfl, _, _, rfl, rfl, (by show 2 ≤ sizeLine; decide), fun t nt => ?_⟩
      dsimp only
      rw [show ((lastC qs : Nat) : Int) + ((loadC fa c (turnL L x).length : Nat) : Int) = ((lastC qs + loadC fa c (turnL L x).length : Nat) : Int) from rfl]
      have s4 := same_new (o := .tup [V.int (x : Int), V.int ((lastC qs + loadC fa c (turnL L x).length : Nat) : Int)]) nt
      obtain ⟨B4, b4⟩ := B3.push s4 nt upd_same (s4 _ _ (s3 _ _ g3)) (g4.same fun u xs e => s3 _ _ e)
      exact ⟨pl, _, _, rfl, rfl, s4 _ _ (s3 _ _ g3), by rw [ul, sizeLine_eq]; omega, _, rfl, q4 _ (((But2.of b2).trans (But2.ofS s3)).trans (But2.of' b4)) B4⟩
    · refine iteT ?_
      exact raise rfl
end
/-! ### successors in a cluster -/
def spCluSuc (K : PySem.W.Frag) (C CN CL CF : Addr) : Sp := fun vs H Q E => ∃ (p pl : Addr) (n fl fa c : Nat) (L : List Nat) (qs : List (Nat × Nat)) (v : V) (o : Option Int) (v2 : V) (o2 : Option Int), vs = [.ref p, v, v2] ∧ CluB C H p pl n fl fa c L qs ∧ CluOk n fl fa c L ∧ CountV K H v o ∧ CountV K H v2 o2 ∧
  (numB c o = false → Raised "value" CN v H E) ∧ (∀ k : Nat, o = some (k : Int) → k < c → (liveB L o2 = false → Raised "value" CL v2 H E) ∧ (liveB L o2 = true → L.length + fl < n + 1 → Raised "alive" CF (.int (L.length : Nat)) H E) ∧
    (∀ x : Nat, o2 = some (x : Int) → x ∈ L → n + 1 ≤ L.length + fl → ∀ H', Same H H' → Q (if L.length ≤ fa then .non else sucV L (path n (min n (fl + fa)) c k).1 fa x) H'))
section
variable {P : Program} {w : World} {K : PySem.W.Frag} {mg : Str → Option Value} {base : Heap}
theorem ok_clusuccessor (T : Txt K mg) {j : Nat} : FnOk P w K mg base (L2.CX P w) (j + 6) T.fCluSuccessor T.fdCluSuccessor ["self", "shard", "server"] (spCluSuc K T.cClu T.cNoN T.cNotL T.cTooF) := by
  refine T.FCluSuccessor.okX scCluSuccessor (fun vs H Q E h => ?_) (fun cdv A outer s H vs Q E hr h => ?_)
  · obtain ⟨p, pl, n, fl, fa, c, L, qs, v, o, v2, o2, rfl, _⟩ := h
    rfl
  · obtain ⟨p, pl, n, fl, fa, c, L, qs, v, o, v2, o2, rfl, B, ok, hv, hv2, q1, q2⟩ := h
    obtain ⟨⟨dx, tl, h1, h2⟩, us, h3, h4⟩ := id B
    refine ⟨_, pss_cons (ps_set (i := 3) scCluSuccessor.nd rfl (.inl rfl) (pe_meth (pv 0) T.clClu T.mtCluListOf (ok_clulistof T) hr T.bCluListOf .nil (passes_call (takes_of rfl rfl rfl rfl) (fun _ _ _ _ h => h)) (pa_cons (pv 1) pa_nil))) (pss_cons (ps_expr (pe_meth (pv 0) T.clClu T.mtCluCheckCanFail (ok_clucheckcanfail T) hr T.bCluCheckCanFail .nil (passes_call (takes_of rfl rfl rfl rfl) (fun _ _ _ _ h => h)) (pa_cons (pv 2) pa_nil))) (pss_cons (ps_if (pt_cmpR op_le (pe_callB (call_lenK K) (by rfl) T.n_len PySem.boot_len (pa_cons (pe_fld (pv 0) rfl) pa_nil)) (pe_fld (pv 0) rfl) (nomark _)) (pss_one (ps_ret pe_non)) pss_nil) (pss_one (ps_ret (pe_call (ok_succ T) hr (by rfl) T.ga_successor_failures T.FSucc.kp T.bSucc .nil (passes_call (takes_of rfl rfl rfl rfl) (fun _ _ _ _ h => h)) (pa_cons (pv 3) (pa_cons (pe_fld (pv 0) rfl) (pa_cons (pe_fld (pv 0) rfl) (pa_cons (pv 2) pa_nil))))))))), ?_⟩
    refine ⟨.ref p, rfl, p, dx, _, rfl, h1, fldC_no (by decide +kernel), v, rfl, p, pl, n, fl, fa, c, L, qs, v, o, rfl, B, ok, hv, q1, fun k eo hk H1 t s1 nt ht => ?_⟩
    obtain ⟨q3, q4, q5⟩ := q2 k eo hk
    have g1 := s1 _ _ h1
    have g2 := s1 _ _ h2
    refine ⟨.ref p, rfl, p, dx, _, rfl, g1, fldC_no (by decide +kernel), v2, rfl, p, pl, n, fl, fa, c, L, qs, v2, o2, rfl, B.same s1, ok, hv2.same s1, fun h => (q3 h).on s1, fun h h' => (q4 h h').on s1, fun hl few => ?_⟩
    obtain ⟨x, rfl, hx⟩ := liveB_some hl
    obtain rfl := hv2.isInt
    have q6 := q5 x rfl hx few
    refine ⟨.ref p, rfl, p, T.cClu, dx, _, _, rfl, g1, T.clClu, T.naClu_living, fldC_living, tl, _, rfl, .inr (SqT.of g2), .ref p, rfl, p, T.cClu, dx, _, _, rfl, g1, T.clClu, T.naClu_factor, fldC_factor, _, _, rfl, rfl, _, rfl, ?_⟩
    rw [setV_len]
    refine ite2 (fun hb => ?_) (fun hb => ?_)
    · have hf : (L.length : Int) ≤ (fa : Int) := of_decide_eq_true hb
      rw [if_pos (show L.length ≤ fa by omega)] at q6
      exact q6 H1 s1
    · have hf : ¬ (L.length : Int) ≤ (fa : Int) := fun z => hb (decide_eq_true z)
      rw [if_neg (show ¬ L.length ≤ fa by omega)] at q6
      have nd := path_nodup ok.std hk
      have lt := path_lt ok.std hk
      have en := in_enough nd lt ok.asc ok.lt
      rw [path_len] at en
      have ll := ok.len
      have n6 := ok.std.n60
      refine ⟨.ref t, rfl, .ref p, rfl, p, T.cClu, dx, _, _, rfl, g1, T.clClu, T.naClu_living, fldC_living, .ref p, rfl, p, T.cClu, dx, _, _, rfl, g1, T.clClu, T.naClu_factor, fldC_factor, _, rfl, t, tl, _, L, fa, x, rfl, SqT.of ht, SqT.of g2, by rw [path_len]; omega, by omega, nd, fun _ H2 s2 => q6 H2 (s1.trans s2), fun z => ?_⟩
      exfalso
      omega
end
/-! ### a failure -/
theorem tup_but2 {C : Addr} {H H' : Hp} {p pl t : Addr} {n fl fa c : Nat} {L : List Nat} {qs : List (Nat × Nat)} {xs : List V} (z : H t = some (.tup xs)) (B : CluB C H p pl n fl fa c L qs) (b : But2 p pl H H') : H' t = some (.tup xs) := by
  obtain ⟨⟨dx, tl, h1, h2⟩, us, h3, h4⟩ := B
  exact b _ _ (fun w => by rw [w, h1] at z; cases z) (fun w => by rw [w, h3] at z; cases z) z
theorem suc_opt88 {n fl fa c : Nat} {L r : List Nat} {x : Nat} (ok : CluOk n fl fa c L) (few : n + 1 ≤ L.length + fl) (rG : r.length = min n (fl + fa) ∧ r.Nodup ∧ ∀ y ∈ r, y < n) :
    ∃ o : Option Int, (if L.length ≤ fa then V.non else sucV L r fa x) = optLv o ∧ (∀ i, o = some i → 0 ≤ i) ∧ ∀ y : Nat, (y ∈ holdL (L.filter fun y => !decide (y = x)) r fa ∧ y ∉ (holdL L r fa).filter fun y => !decide (y = x)) ↔ o = some (y : Int) := by
  have ndL := asc_nodup ok.asc
  have lln := asc_lenC ok.asc ok.lt
  by_cases h : L.length ≤ fa
  · rw [if_pos h]
    have hle : (inL L r).length ≤ fa := Nat.le_trans (subG_len (rG.2.1.filter _) fun y hy => (inL_mem (ls := L) (os := r) hy).2) h
    exact ⟨none, rfl, (fun i z => nomatch z), fun y => ⟨fun z => absurd z (row_none88 hle), (fun z => nomatch z)⟩⟩
  · rw [if_neg h]
    have en : fa + 1 ≤ (inL L r).length := by
      have := in_enough rG.2.1 rG.2.2 ok.asc ok.lt
      have := rG.1
      omega
    unfold sucV
    by_cases c : x ∈ holdL L r fa
    · rw [if_pos c]
      exact ⟨some (((inL L r).getD fa 0 : Nat) : Int), rfl, fun i z => by have := Option.some.inj z; omega, fun y => (row_new88 rG.2.1 en).trans ⟨fun z => by rw [z.2], fun z => ⟨c, by have := Option.some.inj z; omega⟩⟩⟩
    · rw [if_neg c]
      exact ⟨none, rfl, (fun i z => nomatch z), fun y => (row_new88 rG.2.1 en).trans ⟨fun z => absurd z.1 c, (fun z => nomatch z)⟩⟩
theorem step_p88 {ls : List Nat} {p : Nat → Bool} {i m : Nat} (h : ls[i]? = some m) : (ls.take (i + 1)).filter p = (ls.take i).filter p ++ if p m = true then [m] else [] := by
  rw [take_snoc h, List.filter_append]
  congr 1
  by_cases c : p m = true
  · rw [if_pos c, List.filter_cons_of_pos c]
    rfl
  · rw [if_neg c, List.filter_cons_of_neg c]
    rfl
def spFails88 (K : PySem.W.Frag) (C : Addr) : Sp := fun vs H Q _ => ∃ (p pl ts : Addr) (n fl fa c : Nat) (L : List Nat) (qs : List (Nat × Nat)) (x : Nat), vs = [.ref p, .ref ts, .int x] ∧ CluB C H p pl n fl fa c L qs ∧ CluOk n fl fa c L ∧ SqT K H ts [.int n, .int fl, .int fa, .int c] ∧ x ∈ L ∧ n + 1 ≤ L.length + fl ∧ c ≤ 1000 ∧ n ≤ 10 ∧ qs.length ≤ 1000 ∧
  ∀ H' qs', But2 p pl H H' → CluB C H' p pl n fl fa c (turnL L x) qs' → qs'.length = qs.length + 1 → Q (.bl true) H'
section
variable {P : Program} {w : World} {K : PySem.W.Frag} {mg : Str → Option Value} {base : Heap}
theorem ok_fails88 (T : Txt K mg) {j : Nat} : FnOk P w K mg base CX0 (j + 9) T.fFails88 T.fdFails88 ["_law_cluster", "_law_sizes", "_law_server"] (spFails88 K T.cClu) := by
  refine T.FFails88.ok scFails88 (fun vs H Q E h => ?_) (fun cdv A outer s H vs Q E hr h => ?_)
  · obtain ⟨p, pl, ts, n, fl, fa, c, L, qs, x, rfl, _⟩ := h
    rfl
  · obtain ⟨p, pl, ts, n, fl, fa, c, L, qs, x, rfl, B, ok, hT, hx, few, hc, n10, ql, q⟩ := h
    have hu64 : (A.deeper (envOfC "_law_fails" (defScope sFails88) s.heap.objs.size T.fFails88 cdv)).units + 64 < cLine := by
      have := hr.un
      omega
    have hu0 : (A.deeper (envOfC "_law_fails" (defScope sFails88) s.heap.objs.size T.fFails88 cdv)).units < cLine := by omega
    refine ⟨_, pss_cons (ps_asg (pv 1) (pg_tup rfl (pgs_cons (pg_name (i := 3) scFails88.nd rfl (.inl rfl)) (pgs_cons (pg_name (i := 4) scFails88.nd rfl (.inl rfl)) (pgs_cons (pg_name (i := 5) scFails88.nd rfl (.inl rfl)) (pgs_cons (pg_name (i := 6) scFails88.nd rfl (.inl rfl)) pgs_nil)))))) (pss_cons (ps_par (i := 7) (j := 8) rfl scFails88.nd rfl rfl (by decide) rfl rfl (pa_cons (pe_meth0 (pv 0) T.clClu T.mtCluLive (ok_clulive T) hr T.bCluLive .nil pass0) (pa_cons (pe_call (ok_all88 T) hr (by rfl) T.gAll88 T.FAll88.kp T.bAll88 .nil pass0 (pa_cons (pv 0) (pa_cons (pv 6) pa_nil))) pa_nil)) (by rfl)) (pss_cons (ps_setLc (i := 9) (own := [("_law_number", 10)]) (g := (gName 10)) (tt := tYes) rfl scFails88.nd rfl rfl (sw_true rfl rfl rfl (by decide +kernel)) (pi_range1 (by rfl) T.n_range (pa_cons (pv 6) pa_nil)) (blkOk_by (own := [("_law_number", 10)]) (N := NFails88) (sc := defScope sFails88) (by decide +kernel)) (fun _ _ _ _ _ => (pg_name (i := 10) scFails88.nd rfl (.inl rfl))) (fun _ _ _ _ _ => pts_nil) (fun _ _ _ _ _ => (pe_meth (pv 0) T.clClu T.mtCluSuccessor (ok_clusuccessor T) hr T.bCluSuccessor .nil passF (pa_cons (pv 10) (pa_cons (pv 2) pa_nil))))) (pss_cons (ps_par (i := 11) (j := 12) rfl scFails88.nd rfl rfl (by decide) rfl rfl (pa_cons (pe_meth (pv 0) T.clClu T.mtCluFail (ok_clufail T) hr T.bCluFail .nil passF (pa_cons (pv 2) pa_nil)) (pa_cons (pe_call (ok_all88 T) hr (by rfl) T.gAll88 T.FAll88.kp T.bAll88 .nil pass0 (pa_cons (pv 0) (pa_cons (pv 6) pa_nil))) pa_nil)) (by rfl)) (pss_cons (ps_for PassesOwn.never rfl (pi_zip3 (by rfl) T.n_zip (pa_cons (pv 8) (pa_cons (pv 12) (pa_cons (pv 9) pa_nil)))) (pg_tup rfl (pgs_cons (pg_name (i := 13) scFails88.nd rfl (.inl rfl)) (pgs_cons (pg_name (i := 14) scFails88.nd rfl (.inl rfl)) (pgs_cons (pg_name (i := 15) scFails88.nd rfl (.inl rfl)) pgs_nil)))) (pss_cons (ps_set (i := 16) scFails88.nd rfl (.inr rfl) (pe_lc (own := [("_law_holder", 17)]) (g := (gName 17)) rfl scFails88.nd (pi_tup (pv 13)) (blkOk_by (own := [("_law_holder", 17)]) (N := NFails88) (sc := defScope sFails88) (by decide +kernel)) (fun _ _ _ _ _ => (pg_name (i := 17) scFails88.nd rfl (.inl rfl))) (fun _ _ _ _ _ => pts_one (pt_cmpR op_ne (pv 17) (pv 2) (nomark _))) (fun _ _ _ _ _ => (pv 17)))) (pss_one (ps_if (PW.pt (pw_or (pt_cmpR (op_neDK K hu64) (pe_lc (own := [("_law_holder", 17)]) (g := (gName 17)) rfl scFails88.nd (pi_tup (pv 14)) (blkOk_by (own := [("_law_holder", 17)]) (N := NFails88) (sc := defScope sFails88) (by decide +kernel)) (fun _ _ _ _ _ => (pg_name (i := 17) scFails88.nd rfl (.inl rfl))) (fun _ _ _ _ _ => pts_one (pt_cmpR (op_inK K) (pv 17) (pv 16) (by rfl))) (fun _ _ _ _ _ => (pv 17))) (pv 16) (nomark _)) (pw_or1 (pt_cmpR (op_setNe hu0) (pe_op op_setSub (pe_callTy (cr_setTn rfl) (by rfl) T.n_set (by decide +kernel) (pa_cons (pv 14) pa_nil)) (pe_callTy (cr_setLn K w rfl) (by rfl) T.n_set (by decide +kernel) (pa_cons (pv 16) pa_nil))) (pe_op op_setSub1 (pe_callTy (cr_set1o K rfl) (by rfl) T.n_set (by decide +kernel) (pa_cons (pe_lst (pa_cons (pv 15) pa_nil)) pa_nil)) (pe_callTy (cr_set1o K rfl) (by rfl) T.n_set (by decide +kernel) (pa_cons (pe_lst (pa_cons pe_non pa_nil)) pa_nil))) (nomark _))))) (pss_one (ps_ret pe_bl)) pss_nil)))) (pss_cons (ps_set (i := 18) scFails88.nd rfl (.inl rfl) (pe_call (ok_recd88 T) hr (by rfl) T.gRecd88 T.FRecd88.kp T.bRecd88 .nil pass0 (pa_cons (pv 8) (pa_cons (pv 12) pa_nil)))) (pss_cons (ps_if (pt_cmpR op_le (pe_callB (call_lenK K) (by rfl) T.n_len PySem.boot_len (pa_cons (pv 7) pa_nil)) (pv 5) (nomark _)) (pss_one (ps_ret (pe_and (pe_cmpR op_eq (pv 11) pe_int (nomark _)) (pe_one (pe_cmpR (op_eq_dictA hu0) (pv 18) pe_dnewK (nomark _)))))) pss_nil) (pss_cons (ps_set (i := 19) scFails88.nd rfl (.inr rfl) (pe_op op_fdiv (pe_op op_mul (pv 6) (pv 5)) (pe_op op_mul (pe_callB (call_lenK K) (by rfl) T.n_len PySem.boot_len (pa_cons (pv 7) pa_nil)) (pe_op op_sub (pe_callB (call_lenK K) (by rfl) T.n_len PySem.boot_len (pa_cons (pv 7) pa_nil)) pe_int)))) (pss_cons (ps_setLc (i := 20) (own := [("_law_holder", 17)]) (g := (gName 17)) rfl scFails88.nd rfl rfl (sw_true rfl rfl rfl (by decide +kernel)) (pi_tup (pv 7)) (blkOk_by (own := [("_law_holder", 17)]) (N := NFails88) (sc := defScope sFails88) (by decide +kernel)) (fun _ _ _ _ _ => (pg_name (i := 17) scFails88.nd rfl (.inl rfl))) (fun _ _ _ _ _ => pts_one (pt_cmpR op_ne (pv 17) (pv 2) (nomark _))) (fun _ _ _ _ _ => (pv 17))) (pss_one (ps_ret (pe_and (pe_cmpR (op_eq_dictA hu0) (pv 18) (pe_callTy (call_dictPK (K := K) rfl) (by rfl) T.n_dict (by decide +kernel) (pa_cons (pe_lc (own := [("_law_holder", 17)]) (g := (gName 17)) (tt := tYes) rfl scFails88.nd (pi_list (pv 20)) (blkOk_by (own := [("_law_holder", 17)]) (N := NFails88) (sc := defScope sFails88) (by decide +kernel)) (fun _ _ _ _ _ => (pg_name (i := 17) scFails88.nd rfl (.inl rfl))) (fun _ _ _ _ _ => pts_nil) (fun _ _ _ _ _ => (pe_tup (pa_cons (pv 17) (pa_cons (pv 19) pa_nil))))) pa_nil)) (nomark _)) (pe_one (pe_cmpR op_eq (pv 11) (pe_op op_mul (pv 19) (pe_callB (call_lenK K) (by rfl) T.n_len PySem.boot_len (pa_cons (pv 20) pa_nil))) (nomark _)))))))))))))), ?_⟩
    refine ⟨.ref ts, rfl, ts, _, rfl, hT, rfl, _, _, rfl, _, _, rfl, _, _, rfl, _, _, rfl, rfl, ?_⟩
    obtain ⟨⟨dx, t0, h1, h2⟩, us, h3, h4⟩ := id B
    have n6 := ok.std.n60
    have c0 := ok.std.c0
    have lln := asc_lenC ok.asc ok.lt
    have rlen := std_len93 n (min n (fl + fa)) c
    have tabR := std_tab93 ok.std
    refine ⟨.ref p, rfl, p, dx, _, rfl, h1, fldC_no (by decide +kernel), p, pl, n, fl, fa, c, L, qs, rfl, B, fun u hu => ⟨.ref p, rfl, _, rfl, p, pl, n, fl, fa, c, L, qs, rfl, B, ok, hc, fun H1 D1 ws1 s1 nD1 hD1 r1 => ?_⟩⟩
    refine ⟨_, _, rfl, ?_⟩
    refine ⟨_, rfl, (c : Int), rfl, by omega, by omega, fun D2 nD2 => ?_⟩
    refine lc_range (lo := 0) (n := (c : Int).toNat) (fun z H2 => Same H1 H2 ∧ H2 D2 = some (.lst (((stdRows n (min n (fl + fa)) c).take z).map fun r => if L.length ≤ fa then V.non else sucV L r fa x))) ⟨same_new nD2, upd_same⟩ ?_ ?_
    · rintro z H2 hz ⟨s2, hD2⟩
      have zc : z < c := by omega
      obtain ⟨r, hr⟩ : ∃ r, (stdRows n (min n (fl + fa)) c)[z]? = some r := ⟨(stdRows n (min n (fl + fa)) c)[z]'(by omega), List.getElem?_eq_getElem (by omega)⟩
      obtain ⟨_, rp, _⟩ := std_row93 ok.std hr
      have B2 := B.same (s1.trans s2)
      obtain ⟨⟨dx2, tl2, g1, g2⟩, us2, g3, g4⟩ := id B2
      refine ⟨rfl, .ref p, rfl, p, dx2, _, rfl, g1, fldC_no (by decide +kernel), _, rfl, _, rfl, p, pl, n, fl, fa, c, L, qs, _, some (z : Int), _, some (x : Int), rfl, B2, ok, .inl ⟨_, by rw [Int.zero_add], rfl⟩, .inl ⟨_, rfl, rfl⟩, fun w => ?_, fun k' e hk' => ⟨fun w => ?_, fun _ w => ?_, fun x' e' hx' few' H3 s3 => ?_⟩⟩
      · rw [numB_some c (z : Int), decide_eq_true (show (0 : Int) ≤ (z : Int) by omega), decide_eq_true (show (z : Int) < (c : Int) by omega)] at w
        cases w
      · rw [liveB_nat hx] at w
        cases w
      · omega
      have e2 := Option.some.inj e
      obtain rfl : z = k' := by omega
      have e3 := Option.some.inj e'
      obtain rfl : x = x' := by omega
      rw [← rp]
      have hD3 := s3 _ _ hD2
      refine ⟨_, hD3, by rw [List.length_map, List.length_take, sizeLine_eq]; omega, keep_upd (s2.trans s3) nD2, ?_⟩
      rw [upd_same, take_snoc hr, List.map_append]
      rfl
    rintro H2 ⟨s2, hD2⟩
    rw [show (c : Int).toNat = c by omega, List.take_of_length_le (by omega)] at hD2
    dsimp only [gName]
    have s02 := s1.trans s2
    have B2 := B.same s02
    obtain ⟨⟨dx2, tl2, g1, g2⟩, us2, g3, g4⟩ := id B2
    refine ⟨.ref p, rfl, p, dx2, _, rfl, g1, fldC_no (by decide +kernel), _, rfl, p, pl, n, fl, fa, c, L, qs, .int x, some (x : Int), rfl, B2, ok, .inl ⟨_, rfl, rfl⟩, by omega, fun w => ?_, fun _ w => ?_, fun x' e' hx' few' H3 b3 B3 => ?_⟩
    · rw [liveB_nat hx] at w
      cases w
    · omega
    have e3 := Option.some.inj e'
    obtain rfl : x = x' := by omega
    have okM := ok.out hx few
    refine ⟨.ref p, rfl, _, rfl, p, pl, n, fl, fa, c, turnL L x, _, rfl, B3, okM, hc, fun H4 D4 ws4 s4 nD4 hD4 r4 => ?_⟩
    refine ⟨_, _, rfl, ?_⟩
    have nins : ∀ {b : Addr} {ys : List V}, H2 b = some (.lst ys) → b ≠ p := fun {b ys} e z => by
      rw [z, g1] at e
      cases e
    have D1pl : D1 ≠ pl := (ne_of_none h3 nD1).symm
    have D2pl : D2 ≠ pl := (ne_of_none (s1 _ _ h3) nD2).symm
    have hD14 := s4 _ _ (b3 _ _ (nins (s2 _ _ hD1)) D1pl (s2 _ _ hD1))
    have hD24 := s4 _ _ (b3 _ _ (nins hD2) D2pl hD2)
    have r14 : RowsL K H4 ws1 (ownsL L fa (stdRows n (min n (fl + fa)) c)) := (show RowsL K H3 ws1 _ from PySem.Paired.mono (fun v ms ⟨t, e, z⟩ => ⟨t, e, by
      rcases z with (h | ⟨o, h⟩) | h
      · exact .inl (.inl (b3 _ _ (fun z => by rw [z, g1] at h; cases h) (fun z => by rw [z, g3] at h; cases h) h))
      · exact .inl (.inr ⟨o, b3 _ _ (fun z => by rw [z, g1] at h; cases h) (fun z => by rw [z, g3] at h; cases h) h⟩)
      · exact .inr h⟩) (r1.same s2)).same s4
    rw [turn_in hx] at r4
    have wl1 := r14.len
    have wl4 := r4.len
    have ol : ∀ L, (ownsL L fa (stdRows n (min n (fl + fa)) c)).length = c := fun L => by
      unfold ownsL
      rw [List.length_map, rlen]
    rw [ol] at wl1 wl4
    refine ⟨.ref D1, rfl, .ref D4, rfl, .ref D2, rfl, D1, D4, D2, ws1, ws4, _, rfl, SqL.of hD14, SqL.of hD4, SqL.of hD24, ?_⟩
    have own60 : ∀ L, ∀ o ∈ ownsL L fa (stdRows n (min n (fl + fa)) c), o.length ≤ 60 := fun L o ho => by
      obtain ⟨r, hr, rfl⟩ := List.mem_map.mp ho
      obtain ⟨i, hi⟩ := List.getElem?_of_mem hr
      obtain ⟨_, _, _, rl, _⟩ := std_row93 ok.std hi
      have h1 := List.length_filter_le (fun x => decide (x ∈ L)) r
      have h3 : (inL L r).length ≤ r.length := h1
      show (holdL L r fa).length ≤ 60
      rw [hold_len]
      omega
    refine for_zip3 (by rw [wl1, wl4]) (by rw [wl1, List.length_map, rlen]) (fun i σ H5 => ∃ v13 v14 v15 v16, σ = [some (.ref p), some (.ref ts), some (.int (x : Int)), some (.int (n : Int)), some (.int (fl : Int)), some (.int (fa : Int)), some (.int (c : Int)), some (.ref u), some (.ref D1), some (.ref D2), none, some (.int (failC fa c L.length : Nat)), some (.ref D4), v13, v14, v15, v16, none, none, none, none] ∧ Same H4 H5) ⟨_, _, _, _, rfl, Same.refl _⟩ (fun i σ H5 ⟨_, _, _, _, _, s⟩ => ⟨SqL.of (s _ _ hD14), SqL.of (s _ _ hD4), SqL.of (s _ _ hD24)⟩) ?_ ?_
    · rintro i v1 v2 v3 T0 σ H5 hi1 hi2 hi3 ⟨v13, v14, v15, v16, rfl, s5⟩ nT
      obtain ⟨A, hA, t1, rfl, hT1⟩ := (r14.same s5).at hi1
      obtain ⟨A2, hB, t2, rfl, hT2⟩ := (r4.same s5).at hi2
      have ic : i < c := by
        have := (List.getElem?_eq_some_iff.mp hi1).1
        omega
      obtain ⟨r, hr⟩ : ∃ r, (stdRows n (min n (fl + fa)) c)[i]? = some r := ⟨(stdRows n (min n (fl + fa)) c)[i]'(by omega), List.getElem?_eq_getElem (by omega)⟩
      unfold ownsL at hA hB
      rw [List.getElem?_map, hr] at hA hB hi3
      obtain rfl := Option.some.inj hA
      obtain rfl := Option.some.inj hB
      have e3 : (if L.length ≤ fa then V.non else sucV L r fa x) = v3 := Option.some.inj hi3
      have hT1 : SqT K H5 t1 (setV (holdL L r fa)) := hT1
      have hT2 : SqT K H5 t2 (setV (holdL (L.filter fun y => !decide (y = x)) r fa)) := hT2
      have rG := tabR r (List.mem_of_getElem? hr)
      have rnd : r.Nodup := rG.2.1
      obtain ⟨o, ho1, ho3, ho2⟩ := suc_opt88 (x := x) ok few rG
      rw [ho1] at e3
      subst e3
      have ebig := own60 L _ (List.mem_map.mpr ⟨r, List.mem_of_getElem? hr, rfl⟩)
      have ebig2 := own60 (L.filter fun y => !decide (y = x)) _ (List.mem_map.mpr ⟨r, List.mem_of_getElem? hr, rfl⟩)
      have stay := row_stay88 (x := x) rnd (Nat.lt_or_ge fa (inL L r).length)
      have Bnd : (holdL (L.filter fun y => !decide (y = x)) r fa).Nodup := (rnd.filter _).sublist (List.take_sublist _ _)
      have And_ : (holdL L r fa).Nodup := (rnd.filter _).sublist (List.take_sublist _ _)
      have Alt : ∀ y ∈ holdL L r fa, y < 60 := fun y hy => by
        have := rG.2.2 y (hold_mem hy).1
        omega
      generalize holdL L r fa = A at *
      generalize holdL (L.filter fun y => !decide (y = x)) r fa = B at *
      have sN := same_new (o := .tup [V.ref t1, V.ref t2, optLv o]) nT
      have s6 := s5.trans sN
      have hT16 := Same.seqT sN hT1
      have hT26 := Same.seqT sN hT2
      refine ⟨T0, _, rfl, SqT.of upd_same, rfl, _, _, rfl, _, _, rfl, _, _, rfl, rfl, ?_⟩
      generalize upd H5 T0 (.tup [V.ref t1, V.ref t2, optLv o]) = H6 at s6 hT16 hT26 ⊢
      dsimp only [gName]
      refine ⟨.ref t1, rfl, t1, rfl, ⟨_, hT16⟩, fun D5 nD5 => ?_⟩
      refine lc_tup (K := K) (a := t1) (xs := setV A) (fun z H7 => Same H6 H7 ∧ H7 D5 = some (.lst (setV ((A.take z).filter fun y => !decide (y = x))))) ⟨same_new nD5, upd_same⟩ (fun _ H7 _ h => Same.seqT h.1 hT16) ?_ ?_
      · rintro z v H7 hz ⟨s7, hD7⟩
        obtain ⟨m, hm, rfl⟩ := setV_get hz
        have st := oth_step92 (x := x) hm
        have flt := List.length_filter_le (fun y => !decide (y = x)) (A.take z)
        rw [List.length_take] at flt
        refine ⟨rfl, _, rfl, _, rfl, rfl, _, rfl, ?_⟩
        have ev : decide (V.int (m : Int) = V.int (x : Int)) = decide (m = x) := decide_eq_decide.mpr ⟨fun e => by injection e with e; omega, fun e => by rw [e]⟩
        rw [ev]
        refine ite2 (fun hb => ?_) (fun hb => ?_)
        · refine ⟨_, rfl, _, hD7, by rw [setV_len]; exact small1000 (by omega), keep_upd s7 nD5, ?_⟩
          rw [upd_same, st, if_pos hb, setV_app]
          rfl
        · exact ⟨s7, by rw [st, if_neg hb, List.append_nil]; exact hD7⟩
      rintro H7 ⟨s7, hD7⟩
      rw [setV_len, List.take_length] at hD7
      have klen := List.length_filter_le (fun y => !decide (y = x)) A
      have hB1 := size88 ho2 Bnd
      have knd : (A.filter fun y => !decide (y = x)).Nodup := And_.filter _
      have klt : ∀ y ∈ A.filter (fun y => !decide (y = x)), y < 60 := fun y hy => Alt y (List.mem_filter.mp hy).1
      generalize (A.filter fun y => !decide (y = x)) = kept at hD7 stay ho2 klen hB1 knd klt
      dsimp only [gName]
      refine ⟨.ref t2, rfl, t2, rfl, ⟨_, Same.seqT s7 hT26⟩, fun D8 nD8 => ?_⟩
      refine lc_tup (K := K) (a := t2) (xs := setV B) (fun z H8 => Same H7 H8 ∧ H8 D8 = some (.lst (setV ((B.take z).filter fun y => decide (y ∈ kept))))) ⟨same_new nD8, upd_same⟩ (fun _ H8 _ h => Same.seqT (s7.trans h.1) hT26) ?_ ?_
      · rintro z v H8 hz ⟨s8, hD8⟩
        obtain ⟨m, hm, rfl⟩ := setV_get hz
        have st := step_p88 (p := fun y => decide (y ∈ kept)) hm
        have flt := List.length_filter_le (fun y => decide (y ∈ kept)) (B.take z)
        rw [List.length_take] at flt
        refine ⟨rfl, _, rfl, .ref D5, rfl, D5, _, rfl, .inl (SqL.of (s8 _ _ hD7)), rfl, setV_flat _, _, rfl, ?_⟩
        rw [inV_setV]
        refine ite2 (fun hb => ?_) (fun hb => ?_)
        · have hb : decide (m ∈ kept) = true := hb
          refine ⟨_, rfl, _, hD8, by rw [setV_len]; exact small1000 (by omega), keep_upd s8 nD8, ?_⟩
          rw [upd_same, st, if_pos hb, setV_app]
          rfl
        · have hb : ¬ decide (m ∈ kept) = true := hb
          exact ⟨s8, by rw [st, if_neg hb, List.append_nil]; exact hD8⟩
      rintro H8 ⟨s8, hD8⟩
      rw [setV_len, List.take_length, stay] at hD8
      have hD78 := s8 _ _ hD7
      have hT28 := Same.seqT (s7.trans s8) hT26
      have shK : Sh 60 80000 (.list (natD kept)) := (Sh.lst ((sh_nat (b := 6) (by decide) (by decide) (ms := kept) fun x hx => by have := klt x hx; omega).mono (dp' := 1) (wt' := 500) (by decide) (by omega))).mono (by decide) (by decide)
      refine ⟨_, rfl, neD_same (.lst (SqL.of hD8) (dp_set _)) (.lst (SqL.of hD78) (dp_set _)) shK ⟨_, rfl, iteF ?_⟩⟩
      have k1000 : kept.length ≤ 60 := by omega
      refine ⟨.ref t2, rfl, t2, intsL B, rfl, by rw [ints_setV]; exact hT28, by show (List.map _ _).length ≤ _; rw [List.length_map]; omega, fun p1 c1 np1 df1 => ?_⟩
      have sp1 := same_new (o := SetO w p1 (fun j => decide (j ∈ intsL B)) c1) np1
      refine ⟨.ref D5, rfl, D5, intsL kept, rfl, by rw [ints_setV]; exact SqL.of (sp1 _ _ hD78), by show (List.map _ _).length ≤ _; rw [List.length_map]; omega, fun p2 c2 np2 df2 => ?_⟩
      have sp2 := same_new (o := SetO w p2 (fun j => decide (j ∈ intsL kept)) c2) np2
      have ec1 := df1.nodup (ints_nd Bnd)
      have ec2 := df2.nodup (ints_nd knd)
      have ec1 : c1 = B.length := ec1.trans (List.length_map ..)
      have ec2 : c2 = kept.length := ec2.trans (List.length_map ..)
      refine ⟨p1, p2, _, _, c1, c2, rfl, rfl, sp2 _ _ upd_same, upd_same, by omega, by omega, fun p3 c3 np3 ⟨ks, ks1, ks2, ks3⟩ => ?_⟩
      obtain ⟨m1, m2⟩ := ne_row88 ho2 ho3 ks1 ks2
      have sp3 := same_new (o := SetO w p3 (fun k => decide (k ∈ intsL B) && !decide (k ∈ intsL kept)) c3) np3
      have h3 : (upd (upd (upd H8 p1 (SetO w p1 (fun j => decide (j ∈ intsL B)) c1)) p2 (SetO w p2 (fun j => decide (j ∈ intsL kept)) c2)) p3 (SetO w p3 (fun k => decide (k ∈ intsL B) && !decide (k ∈ intsL kept)) c3)) p3 = some (SetO w p3 (fun k => decide (k ∈ intsL B) && !decide (k ∈ intsL kept)) c3) := upd_same
      have s9 := ((s7.trans s8).trans sp1).trans (sp2.trans sp3)
      clear ks2
      refine ⟨_, rfl, by show 1 ≤ sizeLine; decide, fun l1 nl1 => ?_⟩
      have sl1 := same_new (o := .lst [optLv o]) nl1
      refine ⟨l1, o, rfl, SqL.of upd_same, fun p4 np4 => ?_⟩
      have sp4 := same_new (o := Set1 P w p4 o) np4
      refine ⟨by show 1 ≤ sizeLine; decide, fun l2 nl2 => ?_⟩
      have sl2 := same_new (o := .lst [V.non]) nl2
      refine ⟨l2, none, rfl, SqL.of upd_same, fun p5 np5 => ?_⟩
      have sp5 := same_new (o := Set1 P w p5 none) np5
      refine ⟨p4, p5, o, rfl, rfl, (sl2.trans sp5) _ _ upd_same, upd_same, fun p6 np6 => ?_⟩
      have sp6 := same_new (o := SetO w p6 (kept1 o) (len1 o)) np6
      refine ⟨p3, p6, _, _, c3, len1 o, rfl, rfl, ((sl1.trans sp4).trans (sl2.trans sp5)).trans sp6 _ _ h3, upd_same, fun b hb => ?_⟩
      obtain rfl : b = false := hb.mpr ⟨by rw [← ks3]; exact m1, m2⟩
      refine ⟨_, rfl, iteF ?_⟩
      exact ⟨_, _, _, _, rfl, (s6.trans s9).trans (((sl1.trans sp4).trans (sl2.trans sp5)).trans sp6)⟩
    · rintro σ H5 ⟨v13, v14, v15, v16, rfl, s5⟩
      refine ⟨_, rfl, _, rfl, D1, D4, ws1, ws4, _, _, rfl, SqL.of (s5 _ _ hD14), r14.same s5, SqL.of (s5 _ _ hD4), r4.same s5, by rw [ol, ol], by rw [ol]; omega, own60 _, own60 _, fun H6 D6 kvs s6 nD6 hD6 rd => ?_⟩
      dsimp only [gName]
      have hu6 : H6 u = some (.tup (setV L)) := s6 _ _ (s5 _ _ (s4 _ _ (tup_but2 (s02 _ _ hu) B2 b3)))
      refine ⟨.ref u, rfl, u, _, rfl, .inr (SqT.of hu6), _, rfl, _, _, rfl, rfl, _, rfl, ?_⟩
      rw [setV_len]
      refine ite2 (fun hb => ?_) (fun hb => ?_)
      · have hle : L.length ≤ fa := by
          have := of_decide_eq_true hb
          omega
        have hf0 : failC fa c L.length = 0 := if_neg (by omega)
        obtain rfl : kvs = [] := recd_nil rd (go_none fun r hr => by
          have h1 : (inL L r).length ≤ L.length := subG_len ((tabR r hr).2.1.filter _) fun y hy => (inL_mem (ls := L) (os := r) hy).2
          omega)
        rw [hf0]
        refine ⟨_, rfl, rfl, true, rfl, ?_⟩
        refine iteT ?_
        refine ⟨_, rfl, fun e ne => ?_⟩
        have hD6e := (same_new (o := .dK []) ne) _ _ hD6
        refine ⟨D6, e, [], [], rfl, rfl, hD6e, upd_same, rfl, fun kv hkv => (by cases hkv), ?_⟩
        exact q _ _ (((But2.ofS s02).trans b3).trans (But2.ofS (((s4.trans s5).trans s6).trans (same_new ne)))) (B3.same (((s4.trans s5).trans s6).trans (same_new ne))) (by rw [List.length_append]; rfl)
      · have hf : fa < L.length := by
          have : ¬ ((L.length : Int) ≤ (fa : Int)) := fun z => hb (decide_eq_true z)
          omega
        have a1 := ok.a1
        obtain ⟨_, eLd, pos⟩ := share88 ok hx few hf
        obtain ⟨k1, k2⟩ := fail_dict88 ok hx few hf rd
        have ef : failC fa c L.length = loadC fa c L.length := if_pos hf
        rw [ef]
        have sp : 0 < L.length * (L.length - 1) := Nat.mul_pos (by omega) (by omega)
        have sb : L.length * (L.length - 1) ≤ 100 := Nat.mul_le_mul (show L.length ≤ 10 by omega) (show L.length - 1 ≤ 10 by omega)
        have eI : (L.length : Int) * ((L.length : Int) - 1) = ((L.length * (L.length - 1) : Nat) : Int) := by
          rw [show ((L.length : Int) - 1) = ((L.length - 1 : Nat) : Int) by omega, ← Int.natCast_mul]
        have eD : (c : Int) * (fa : Int) / ((L.length : Int) * ((L.length : Int) - 1)) = ((c * fa / (L.length * (L.length - 1)) : Nat) : Int) := by
          rw [eI, ← Int.natCast_mul, Int.natCast_ediv]
        have ol : (L.filter fun y => !decide (y = x)).length = L.length - 1 := by
          have := out_len (asc_nodup ok.asc) hx
          omega
        refine ⟨_, rfl, _, rfl, _, _, rfl, rfl, .inr ⟨by omega, by omega⟩, .ref u, rfl, u, _, rfl, .inr (SqT.of hu6), .ref u, rfl, u, _, rfl, .inr (SqT.of hu6), _, _, rfl, rfl, _, _, rfl, rfl, .inr ⟨by rw [setV_len]; omega, by rw [setV_len]; omega⟩, _, _, rfl, rfl, ?_, ?_⟩
        · rw [setV_len, eI]
          exact ⟨by omega, by omega⟩
        dsimp only [gName]
        rw [setV_len, eD]
        generalize c * fa / (L.length * (L.length - 1)) = sh at k1 k2 pos eLd ⊢
        have lsz : L.length ≤ 10 := by omega
        refine ⟨.ref u, rfl, u, rfl, ⟨_, SqT.of hu6⟩, fun D7 nD7 => ?_⟩
        refine lc_tup (K := K) (a := u) (xs := setV L) (fun z H7 => Same H6 H7 ∧ H7 D7 = some (.lst (setV ((L.take z).filter fun y => !decide (y = x))))) ⟨same_new nD7, upd_same⟩ (fun _ H7 _ h => SqT.of (h.1 _ _ hu6)) ?_ ?_
        · rintro z v H7 hz ⟨s7, hD7⟩
          obtain ⟨m, hm, rfl⟩ := setV_get hz
          have st := oth_step92 (x := x) hm
          have flt := List.length_filter_le (fun y => !decide (y = x)) (L.take z)
          rw [List.length_take] at flt
          refine ⟨rfl, _, rfl, _, rfl, rfl, _, rfl, ?_⟩
          have ev : decide (V.int (m : Int) = V.int (x : Int)) = decide (m = x) := decide_eq_decide.mpr ⟨fun e => by injection e with e; omega, fun e => by rw [e]⟩
          rw [ev]
          refine ite2 (fun hb => ?_) (fun hb => ?_)
          · refine ⟨_, rfl, _, hD7, by rw [setV_len]; exact small1000 (by omega), keep_upd s7 nD7, ?_⟩
            rw [upd_same, st, if_pos hb, setV_app]
            rfl
          · exact ⟨s7, by rw [st, if_neg hb, List.append_nil]; exact hD7⟩
        rintro H7 ⟨s7, hD7⟩
        rw [setV_len, List.take_length] at hD7
        dsimp only [gName]
        have hD67 := s7 _ _ hD6
        have Ond : (L.filter fun y => !decide (y = x)).Nodup := (asc_nodup ok.asc).filter _
        generalize (L.filter fun y => !decide (y = x)) = O at hD7 k1 k2 ol Ond ⊢
        refine ⟨.ref D6, rfl, .ref D7, rfl, D7, rfl, ⟨_, SqL.of hD7⟩, fun D8 nD8 => ?_⟩
        refine lc_list (K := K) (a := D7) (xs := setV O) (fun z H9 => ∃ us, Same H7 H9 ∧ H9 D8 = some (.lst us) ∧ PrR H9 (fun _ => sh) us (O.take z)) ⟨[], same_new nD8, upd_same, .nil⟩ (fun _ H9 _ ⟨_, h, _⟩ => SqL.of (h _ _ hD7)) ?_ ?_
        · rintro z v H9 hz ⟨us, s9, hD9, pr⟩
          obtain ⟨m, hm, rfl⟩ := setV_get hz
          have zl := (List.getElem?_eq_some_iff.mp hm).1
          have pl := pr.len
          rw [List.length_take] at pl
          refine ⟨rfl, _, rfl, _, rfl, by show 2 ≤ sizeLine; decide, fun u9 nu => ?_⟩
          have s10 := same_new (o := .tup [V.int (m : Int), V.int (sh : Int)]) nu
          have hD10 := s10 _ _ hD9
          have nuD : u9 ≠ D8 := fun e => by
            rw [e, hD9] at nu
            cases nu
          refine ⟨us, hD10, small1000 (by omega), us ++ [.ref u9], keep_upd (s9.trans s10) nD8, upd_same, ?_⟩
          rw [take_snoc hm]
          exact PrR.app ((pr.same s10).updL hD10) (.cons ⟨u9, rfl, by rw [upd_ne nuD, upd_same]⟩ .nil)
        rintro H9 ⟨us, s9, hD9, pr⟩
        rw [setV_len, List.take_length] at pr
        obtain ⟨ps, rfl, pp⟩ := pr.addrs (K := K)
        refine ⟨D8, ps, _, rfl, SqL.of hD9, pp, fun pd npd => ?_⟩
        rw [show mergeK [] (mapD (fun _ => sh) O) = mapD (fun _ => sh) O from merge_mapR _ [] Ond]
        have s10 := same_new (o := .dK (mapD (fun _ => sh) O)) npd
        refine ⟨D6, pd, _, _, rfl, rfl, (s9.trans s10) _ _ hD67, upd_same, k1, k2, ?_⟩
        refine ⟨true, rfl, iteT ?_⟩
        refine ⟨_, rfl, _, rfl, .ref D7, rfl, D7, _, rfl, .inl (SqL.of ((s9.trans s10) _ _ hD7)), _, _, rfl, rfl, .inr ⟨by rw [setV_len]; omega, by rw [setV_len]; omega⟩, rfl, ?_⟩
        have ev : decide (V.int ((loadC fa c L.length : Nat) : Int) = V.int ((sh : Int) * ((setV O).length : Int))) = true := decide_eq_true (by rw [setV_len, ol, eLd, Int.natCast_mul])
        rw [ev]
        exact q _ _ (((But2.ofS s02).trans b3).trans (But2.ofS ((((s4.trans s5).trans s6).trans s7).trans (s9.trans s10)))) (B3.same ((((s4.trans s5).trans s6).trans s7).trans (s9.trans s10))) (by rw [List.length_append]; rfl)
end
/-! ### a recovery -/
theorem asc_ext88 {a b : List Nat} (ha : Asc a) (hb : Asc b) (h : ∀ x, x ∈ a ↔ x ∈ b) : a = b := asc_unique ha hb ((List.perm_ext_iff_of_nodup (asc_nodup ha) (asc_nodup hb)).mpr h)
theorem oth_turn88 {L : List Nat} {x : Nat} (aL : Asc L) (h : x ∉ L) : (turnL L x).filter (fun y => !decide (y = x)) = L := by
  refine asc_ext88 ((turn_asc aL).filter _) aL fun y => ?_
  rw [List.mem_filter, turn_mem]
  constructor
  · rintro ⟨⟨a, _⟩ | ⟨rfl, _⟩, b⟩
    · exact a
    · simp at b
  · intro hy
    have ne : y ≠ x := fun e => h (e ▸ hy)
    exact ⟨.inl ⟨hy, ne⟩, by simpa using ne⟩
theorem rows_mv88 {K : PySem.W.Frag} {C : Addr} {H H' : Hp} {p pl : Addr} {n fl fa c : Nat} {L : List Nat} {qs : List (Nat × Nat)} {ws : List V} {rows : List (List Nat)} (r : RowsL K H ws rows) (B : CluB C H p pl n fl fa c L qs) (b : But2 p pl H H') : RowsL K H' ws rows := by
  obtain ⟨⟨dx, tl, g1, g2⟩, us, g3, g4⟩ := B
  exact PySem.Paired.mono (fun v ms ⟨t, e, z⟩ => ⟨t, e, by
    rcases z with (h | ⟨o, h⟩) | h
    · exact .inl (.inl (b _ _ (fun z => by rw [z, g1] at h; cases h) (fun z => by rw [z, g3] at h; cases h) h))
    · exact .inl (.inr ⟨o, b _ _ (fun z => by rw [z, g1] at h; cases h) (fun z => by rw [z, g3] at h; cases h) h⟩)
    · exact .inr h⟩) r
def spRecov88 (K : PySem.W.Frag) (C : Addr) : Sp := fun vs H Q _ => ∃ (p pl ts : Addr) (n fl fa c : Nat) (L : List Nat) (qs : List (Nat × Nat)) (x : Nat), vs = [.ref p, .ref ts, .int x] ∧ CluB C H p pl n fl fa c L qs ∧ CluOk n fl fa c L ∧ SqT K H ts [.int n, .int fl, .int fa, .int c] ∧ x ∉ L ∧ x < n ∧ c ≤ 1000 ∧ n ≤ 10 ∧ qs.length ≤ 1000 ∧
  ∀ H' qs', But2 p pl H H' → CluB C H' p pl n fl fa c (turnL L x) qs' → qs'.length = qs.length + 1 → Q (.bl true) H'
section
variable {P : Program} {w : World} {K : PySem.W.Frag} {mg : Str → Option Value} {base : Heap}
theorem ok_recov88 (T : Txt K mg) {j : Nat} : FnOk P w K mg base CX0 (j + 9) T.fRecov88 T.fdRecov88 ["_law_cluster", "_law_sizes", "_law_server"] (spRecov88 K T.cClu) := by
  refine T.FRecov88.ok scRecov88 (fun vs H Q E h => ?_) (fun cdv A outer s H vs Q E hr h => ?_)
  · obtain ⟨p, pl, ts, n, fl, fa, c, L, qs, x, rfl, _⟩ := h
    rfl
  · obtain ⟨p, pl, ts, n, fl, fa, c, L, qs, x, rfl, B, ok, hT, hx, xn, hc, n10, ql, q⟩ := h
    have hu64 : (A.deeper (envOfC "_law_recovers" (defScope sRecov88) s.heap.objs.size T.fRecov88 cdv)).units + 64 < cLine := by
      have := hr.un
      omega
    have hu0 : (A.deeper (envOfC "_law_recovers" (defScope sRecov88) s.heap.objs.size T.fRecov88 cdv)).units < cLine := by omega
    refine ⟨_, pss_cons (ps_asg (pv 1) (pg_tup rfl (pgs_cons (pg_name (i := 3) scRecov88.nd rfl (.inl rfl)) (pgs_cons (pg_name (i := 4) scRecov88.nd rfl (.inl rfl)) (pgs_cons (pg_name (i := 5) scRecov88.nd rfl (.inl rfl)) (pgs_cons (pg_name (i := 6) scRecov88.nd rfl (.inl rfl)) pgs_nil)))))) (pss_cons (ps_par (i := 7) (j := 8) rfl scRecov88.nd rfl rfl (by decide) rfl rfl (pa_cons (pe_call (ok_all88 T) hr (by rfl) T.gAll88 T.FAll88.kp T.bAll88 .nil pass0 (pa_cons (pv 0) (pa_cons (pv 6) pa_nil))) (pa_cons (pe_meth (pv 0) T.clClu T.mtCluRecover (ok_clurecover T) hr T.bCluRecover .nil passF (pa_cons (pv 2) pa_nil)) pa_nil)) (by rfl)) (pss_cons (ps_par (i := 9) (j := 10) rfl scRecov88.nd rfl rfl (by decide) rfl rfl (pa_cons (pe_call (ok_all88 T) hr (by rfl) T.gAll88 T.FAll88.kp T.bAll88 .nil pass0 (pa_cons (pv 0) (pa_cons (pv 6) pa_nil))) (pa_cons (pe_meth0 (pv 0) T.clClu T.mtCluLive (ok_clulive T) hr T.bCluLive .nil pass0) pa_nil)) (by rfl)) (pss_cons (ps_if (PW.pt (pw_or (pt_cmpR (op_ne_dictA hu0) (pe_call (ok_recd88 T) hr (by rfl) T.gRecd88 T.FRecd88.kp T.bRecd88 .nil pass0 (pa_cons (pv 7) (pa_cons (pv 9) pa_nil))) (pe_disp (pps_cons (pv 2) (pv 8) pps_nil) rfl rfl (List.cons_ne_nil _ _) (by show 1 ≤ 15; decide)) (nomark _)) (pw_or1 (pt_cmpR op_ne (pv 8) (pe_meth (pv 0) T.clClu T.mtCluLoad (ok_cluload T) hr T.bCluLoad .nil passF (pa_cons (pv 2) pa_nil)) (nomark _))))) (pss_one (ps_ret pe_bl)) pss_nil) (pss_cons (ps_asg (pe_tup (pa_cons (pe_call (ok_recd88 T) hr (by rfl) T.gRecd88 T.FRecd88.kp T.bRecd88 .nil pass0 (pa_cons (pv 9) (pa_cons (pv 7) pa_nil))) (pa_cons (pe_op op_fdiv (pe_op op_mul (pv 6) (pv 5)) (pe_op op_mul (pe_callB (call_lenK K) (by rfl) T.n_len PySem.boot_len (pa_cons (pv 10) pa_nil)) (pe_op op_sub (pe_callB (call_lenK K) (by rfl) T.n_len PySem.boot_len (pa_cons (pv 10) pa_nil)) pe_int))) pa_nil))) (pg_tup rfl (pgs_cons (pg_name (i := 11) scRecov88.nd rfl (.inl rfl)) (pgs_cons (pg_name (i := 12) scRecov88.nd rfl (.inr rfl)) pgs_nil)))) (pss_cons (ps_if (pt_cmpR op_le (pe_callB (call_lenK K) (by rfl) T.n_len PySem.boot_len (pa_cons (pv 10) pa_nil)) (pv 5) (nomark _)) (pss_one (ps_ret (pe_cmpR (op_eq_dictA hu0) (pv 11) pe_dnewK (nomark _)))) pss_nil) (pss_one (ps_ret (pe_cmpR (op_eq_dictA hu0) (pv 11) (pe_callTy (call_dictPK (K := K) rfl) (by rfl) T.n_dict (by decide +kernel) (pa_cons (pe_lc (own := [("_law_holder", 13)]) (g := (gName 13)) rfl scRecov88.nd (pi_tup (pv 10)) (blkOk_by (own := [("_law_holder", 13)]) (N := NRecov88) (sc := defScope sRecov88) (by decide +kernel)) (fun _ _ _ _ _ => (pg_name (i := 13) scRecov88.nd rfl (.inl rfl))) (fun _ _ _ _ _ => pts_one (pt_cmpR op_ne (pv 13) (pv 2) (nomark _))) (fun _ _ _ _ _ => (pe_tup (pa_cons (pv 13) (pa_cons (pv 12) pa_nil))))) pa_nil)) (nomark _))))))))), ?_⟩
    refine ⟨.ref ts, rfl, ts, _, rfl, hT, rfl, _, _, rfl, _, _, rfl, _, _, rfl, _, _, rfl, rfl, ?_⟩
    obtain ⟨⟨dx, t0, h1, h2⟩, us, h3, h4⟩ := id B
    have n6 := ok.std.n60
    have c0 := ok.std.c0
    have a1 := ok.a1
    have an := ok.an
    have fn := ok.fn
    have few := ok.few
    have lln := asc_lenC ok.asc ok.lt
    have rlen := std_len93 n (min n (fl + fa)) c
    have tabR := std_tab93 ok.std
    have okM := ok.back hx xn
    have hxM : x ∈ turnL L x := turn_mem.mpr (.inr ⟨rfl, hx⟩)
    have lM : (turnL L x).length = L.length + 1 := turn_len_out hx
    have eM := oth_turn88 ok.asc hx
    have llM := asc_lenC okM.asc okM.lt
    obtain ⟨M, hM⟩ : ∃ M, M = turnL L x := ⟨_, rfl⟩
    rw [← hM] at okM hxM lM eM llM q
    refine ⟨.ref p, rfl, _, rfl, p, pl, n, fl, fa, c, L, qs, rfl, B, ok, hc, fun H1 D1 ws1 s1 nD1 hD1 r1 => ?_⟩
    have B1 := B.same s1
    obtain ⟨⟨dx1, tl1, g1, g2⟩, us1, g3, g4⟩ := id B1
    refine ⟨.ref p, rfl, p, dx1, _, rfl, g1, fldC_no (by decide +kernel), _, rfl, p, pl, n, fl, fa, c, L, qs, .int x, some (x : Int), rfl, B1, ok, .inl ⟨_, rfl, rfl⟩, by omega, fun w => ?_, fun x' e' hx' hn' H2 b2 B2 => ?_⟩
    · rw [deadB_nat xn hx] at w
      cases w
    have e3 := Option.some.inj e'
    obtain rfl : x = x' := by omega
    rw [← hM] at B2
    refine ⟨_, _, rfl, ?_⟩
    refine ⟨.ref p, rfl, _, rfl, p, pl, n, fl, fa, c, M, _, rfl, B2, okM, hc, fun H3 D3 ws3 s3 nD3 hD3 r3 => ?_⟩
    have B3 := B2.same s3
    obtain ⟨⟨dx3, tl3, k1, k2⟩, us3, k3, k4⟩ := id B3
    refine ⟨.ref p, rfl, p, dx3, _, rfl, k1, fldC_no (by decide +kernel), p, pl, n, fl, fa, c, _, _, rfl, B3, fun u hu => ?_⟩
    refine ⟨_, _, rfl, ?_⟩
    have hD13 := s3 _ _ (b2 _ _ (fun z => by rw [z, g1] at hD1; cases hD1) (ne_of_none h3 nD1).symm hD1)
    have r13 := (rows_mv88 r1 B1 b2).same s3
    have wl1 := r13.len
    have wl3 := r3.len
    have ol : ∀ L, (ownsL L fa (stdRows n (min n (fl + fa)) c)).length = c := fun L => by
      unfold ownsL
      rw [List.length_map, rlen]
    rw [ol] at wl1 wl3
    have own60 : ∀ L, ∀ o ∈ ownsL L fa (stdRows n (min n (fl + fa)) c), o.length ≤ 60 := fun L o ho => by
      obtain ⟨r, hr, rfl⟩ := List.mem_map.mp ho
      have rl := (tabR r hr).1
      have h1 := List.length_filter_le (fun x => decide (x ∈ L)) r
      have h3 : (inL L r).length ≤ r.length := h1
      show (holdL L r fa).length ≤ 60
      rw [hold_len]
      omega
    refine ⟨.ref D1, rfl, .ref D3, rfl, D1, D3, ws1, ws3, _, _, rfl, SqL.of hD13, r13, SqL.of hD3, r3, by rw [ol, ol], by rw [ol]; omega, own60 _, own60 _, fun H6 D6 kvs s6 nD6 hD6 rd => ?_⟩
    rw [← eM] at rd
    have ek := come_dict88 okM hxM rd
    rw [lM] at ek
    refine fun D7 nD7 => ?_
    have s7 := same_new (o := .dK []) nD7
    refine ⟨_, rfl, _, rfl, upd_same, [(kI x, .int ((loadC fa c (L.length + 1) : Nat) : Int))], rfl, by show 1 ≤ 15; decide, ?_⟩
    have s8 : Same H6 (upd (upd H6 D7 (.dK [])) D7 (.dK (mergeK [] [(kI x, V.int ((loadC fa c (L.length + 1) : Nat) : Int))]))) := fun b o e => by
      rw [upd_ne (ne_of_none e nD7), upd_ne (ne_of_none e nD7)]
      exact e
    have hD7 : (upd (upd H6 D7 (.dK [])) D7 (.dK (mergeK [] [(kI x, V.int ((loadC fa c (L.length + 1) : Nat) : Int))]))) D7 = some (.dK (mergeK [] [(kI x, V.int ((loadC fa c (L.length + 1) : Nat) : Int))])) := upd_same
    generalize upd (upd H6 D7 (.dK [])) D7 (.dK (mergeK [] [(kI x, V.int ((loadC fa c (L.length + 1) : Nat) : Int))])) = H8 at s8 hD7 ⊢
    have s38 := s6.trans s8
    refine ⟨D6, D7, kvs, _, rfl, rfl, s8 _ _ hD6, hD7, by rw [ek]; rfl, fun kv hkv => ?_, ?_⟩
    · rw [ek] at hkv
      obtain rfl := List.mem_singleton.mp hkv
      exact ⟨mapD_val (f := fun _ => loadC fa c (L.length + 1)) (List.mem_singleton.mpr rfl), rfl⟩
    have B8 := B3.same s38
    obtain ⟨⟨dx8, tl8, m1, m2⟩, us8, m3, m4⟩ := id B8
    refine ⟨_, rfl, iteF ?_⟩
    refine ⟨_, rfl, .ref p, rfl, p, dx8, _, rfl, m1, fldC_no (by decide +kernel), _, rfl, p, pl, n, fl, fa, c, M, _, .int x, some (x : Int), rfl, B8, okM, .inl ⟨_, rfl, rfl⟩, fun w => ?_, fun _ H9 s9 => ⟨rfl, _, rfl, iteNS ?_ ?_⟩⟩
    · rw [liveB_nat hxM] at w
      cases w
    · rw [lM]
    have s39 := s38.trans s9
    have hD19 := s39 _ _ hD13
    have hD39 := s39 _ _ hD3
    have r19 := r13.same s39
    have r39 := r3.same s39
    refine ⟨.ref D3, rfl, .ref D1, rfl, D3, D1, ws3, ws1, _, _, rfl, SqL.of hD39, r39, SqL.of hD19, r19, by rw [ol, ol], by rw [ol]; omega, own60 _, own60 _, fun H10 D10 kvs2 s10 nD10 hD10 rd2 => ?_⟩
    rw [← eM] at rd2
    have hu10 : H10 u = some (.tup (setV M)) := s10 _ _ (s39 _ _ hu)
    have sp : 0 < M.length * (M.length - 1) := Nat.mul_pos (by omega) (by omega)
    have sb : M.length * (M.length - 1) ≤ 100 := Nat.mul_le_mul (show M.length ≤ 10 by omega) (show M.length - 1 ≤ 10 by omega)
    have eI : (M.length : Int) * ((M.length : Int) - 1) = ((M.length * (M.length - 1) : Nat) : Int) := by
      rw [show ((M.length : Int) - 1) = ((M.length - 1 : Nat) : Int) by omega, ← Int.natCast_mul]
    have eD : (c : Int) * (fa : Int) / ((M.length : Int) * ((M.length : Int) - 1)) = ((c * fa / (M.length * (M.length - 1)) : Nat) : Int) := by
      rw [eI, ← Int.natCast_mul, Int.natCast_ediv]
    refine ⟨_, rfl, _, rfl, _, _, rfl, rfl, .inr ⟨by omega, by omega⟩, .ref u, rfl, u, _, rfl, .inr (SqT.of hu10), .ref u, rfl, u, _, rfl, .inr (SqT.of hu10), _, _, rfl, rfl, _, _, rfl, rfl, .inr ⟨by rw [setV_len]; omega, by rw [setV_len]; omega⟩, _, _, rfl, rfl, ?_, ?_⟩
    · rw [setV_len, eI]
      exact ⟨by omega, by omega⟩
    dsimp only
    rw [setV_len, eD]
    refine ⟨by show 2 ≤ sizeLine; decide, fun TT nTT => ?_⟩
    have s11 := same_new (o := .tup [V.ref D10, V.int ((c * fa / (M.length * (M.length - 1)) : Nat) : Int)]) nTT
    refine ⟨TT, _, rfl, SqT.of upd_same, rfl, _, _, rfl, _, _, rfl, rfl, ?_⟩
    generalize upd H10 TT (.tup [V.ref D10, V.int ((c * fa / (M.length * (M.length - 1)) : Nat) : Int)]) = H11 at s11 ⊢
    have hu11 := s11 _ _ hu10
    have hD11 := s11 _ _ hD10
    have s311 := (s39.trans s10).trans s11
    have fin : ∀ H', Same H11 H' → Q (.bl true) H' := fun H' s' => q H' _ (((But2.ofS s1).trans b2).trans (But2.ofS ((s3.trans s311).trans s'))) (B2.same ((s3.trans s311).trans s')) (by rw [List.length_append]; rfl)
    refine ⟨.ref u, rfl, u, _, rfl, .inr (SqT.of hu11), _, rfl, _, _, rfl, rfl, _, rfl, ?_⟩
    rw [setV_len]
    refine ite2 (fun hb => ?_) (fun hb => ?_)
    · have hle : M.length ≤ fa := by
        have := of_decide_eq_true hb
        omega
      obtain rfl : kvs2 = [] := fail_nil88 okM hle rd2
      refine ⟨_, rfl, fun e ne => ?_⟩
      have s12 := same_new (o := .dK []) ne
      exact ⟨D10, e, [], [], rfl, rfl, s12 _ _ hD11, upd_same, rfl, fun kv hkv => (by cases hkv), fin _ s12⟩
    · have hf : fa < M.length := by
        have : ¬ ((M.length : Int) ≤ (fa : Int)) := fun z => hb (decide_eq_true z)
        omega
      obtain ⟨k1, k2⟩ := fail_dict88 okM hxM (by omega) hf rd2
      generalize c * fa / (M.length * (M.length - 1)) = sh at k1 k2 ⊢
      have lsz : M.length ≤ 10 := by omega
      have Ond : (M.filter fun y => !decide (y = x)).Nodup := (asc_nodup okM.asc).filter _
      refine ⟨_, rfl, .ref u, rfl, u, rfl, ⟨_, SqT.of hu11⟩, fun D12 nD12 => ?_⟩
      refine lc_tup (K := K) (a := u) (xs := setV M) (fun z H7 => ∃ us, Same H11 H7 ∧ H7 D12 = some (.lst us) ∧ PrR H7 (fun _ => sh) us ((M.take z).filter fun y => !decide (y = x))) ⟨[], same_new nD12, upd_same, .nil⟩ (fun _ H7 _ ⟨_, h, _⟩ => SqT.of (h _ _ hu11)) ?_ ?_
      · rintro z v H7 hz ⟨us, s7, hD7, pr⟩
        obtain ⟨m, hm, rfl⟩ := setV_get hz
        have stp := oth_step92 (x := x) hm
        have fl := List.length_filter_le (fun y => !decide (y = x)) (M.take z)
        rw [List.length_take] at fl
        have pl := pr.len
        refine ⟨rfl, _, rfl, _, rfl, rfl, _, rfl, ?_⟩
        have evd : decide (V.int (m : Int) = V.int (x : Int)) = decide (m = x) := decide_eq_decide.mpr ⟨fun e => by injection e with e; omega, fun e => by rw [e]⟩
        rw [evd]
        refine ite2 (fun hb => ?_) (fun hb => ?_)
        · refine ⟨_, rfl, _, rfl, by show 2 ≤ sizeLine; decide, fun u9 nu => ?_⟩
          have s8 := same_new (o := .tup [V.int (m : Int), V.int (sh : Int)]) nu
          have hD8 := s8 _ _ hD7
          have nuD : u9 ≠ D12 := fun e => by
            rw [e, hD7] at nu
            cases nu
          refine ⟨us, hD8, small1000 (by omega), us ++ [.ref u9], keep_upd (s7.trans s8) nD12, upd_same, ?_⟩
          rw [stp, if_pos hb]
          exact PrR.app ((pr.same s8).updL hD8) (.cons ⟨u9, rfl, by rw [upd_ne nuD, upd_same]⟩ .nil)
        · refine ⟨us, s7, hD7, ?_⟩
          rw [stp, if_neg hb, List.append_nil]
          exact pr
      rintro H12 ⟨us, s12, hD12, pr⟩
      rw [setV_len, List.take_length] at pr
      obtain ⟨ps, rfl, pp⟩ := pr.addrs (K := K)
      refine ⟨D12, ps, _, rfl, SqL.of hD12, pp, fun pd npd => ?_⟩
      rw [show mergeK [] (mapD (fun _ => sh) (M.filter fun y => !decide (y = x))) = mapD (fun _ => sh) (M.filter fun y => !decide (y = x)) from merge_mapR _ [] Ond]
      have s13 := same_new (o := .dK (mapD (fun _ => sh) (M.filter fun y => !decide (y = x)))) npd
      exact ⟨D10, pd, _, _, rfl, rfl, (s12.trans s13) _ _ hD11, upd_same, k1, k2, fin _ (s12.trans s13)⟩
end
/-! ### the servers that are up (without the law's own text) -/
def upL (n : Nat) (gone : List Nat) : List Nat := (List.range' 0 n).filter fun y => !decide (y ∈ gone)
theorem asc_ext {a b : List Nat} (ha : Asc a) (hb : Asc b) (h : ∀ x, x ∈ a ↔ x ∈ b) : a = b := asc_unique ha hb ((List.perm_ext_iff_of_nodup (asc_nodup ha) (asc_nodup hb)).mpr h)
theorem upL_asc (n : Nat) (gone : List Nat) : Asc (upL n gone) := (asc_range' n 0).sublist List.filter_sublist
theorem upL_mem {n : Nat} {gone : List Nat} {x : Nat} : x ∈ upL n gone ↔ x < n ∧ x ∉ gone := by
  unfold upL
  rw [List.mem_filter, mem_range0]
  simp
theorem upL_nil (n : Nat) : upL n [] = List.range' 0 n := List.filter_eq_self.mpr fun x _ => rfl
theorem upL_fail {n x : Nat} {gone : List Nat} (h : x ∈ upL n gone) : turnL (upL n gone) x = upL n (gone ++ [x]) := by
  refine asc_ext (turn_asc (upL_asc _ _)) (upL_asc _ _) fun y => ?_
  simp only [turn_mem, upL_mem, List.mem_append, List.mem_singleton]
  constructor
  · rintro (⟨⟨a, b⟩, c⟩ | ⟨_, c⟩)
    · exact ⟨a, fun z => z.elim b c⟩
    · exact absurd (upL_mem.mp h) c
  · rintro ⟨a, b⟩
    exact .inl ⟨⟨a, fun z => b (.inl z)⟩, fun z => b (.inr z)⟩
theorem upL_back {n x k : Nat} {gone : List Nat} (nd : gone.Nodup) (lt : ∀ y ∈ gone, y < n) (h : gone[k]? = some x) : turnL (upL n gone) x = upL n (gone.eraseIdx k) ∧ x ∉ upL n gone := by
  have pm := erase_perm gone k x h
  have nd2 := pm.nodup_iff.mpr nd
  have hx : x ∈ gone := List.mem_of_getElem? h
  have no : x ∉ upL n gone := fun z => (upL_mem.mp z).2 hx
  refine ⟨asc_ext (turn_asc (upL_asc _ _)) (upL_asc _ _) fun y => ?_, no⟩
  have hy : y ∈ gone ↔ y = x ∨ y ∈ gone.eraseIdx k := by rw [← pm.mem_iff, List.mem_cons]
  have hxe : x ∉ gone.eraseIdx k := (List.nodup_cons.mp nd2).1
  simp only [turn_mem, upL_mem, hy]
  constructor
  · rintro (⟨⟨a, b⟩, c⟩ | ⟨rfl, c⟩)
    · exact ⟨a, fun z => b (.inr z)⟩
    · exact ⟨lt _ hx, hxe⟩
  · rintro ⟨a, b⟩
    by_cases e : y = x
    · exact .inr ⟨e, fun z => no (upL_mem.mpr z)⟩
    · exact .inl ⟨⟨a, fun z => z.elim e b⟩, e⟩
theorem upL_len {n : Nat} {gone : List Nat} (nd : gone.Nodup) (lt : ∀ y ∈ gone, y < n) : (upL n gone).length + gone.length = n := by
  have p : (upL n gone ++ gone).Perm (List.range' 0 n) := by
    refine (List.perm_ext_iff_of_nodup (List.nodup_append.mpr ⟨asc_nodup (upL_asc _ _), nd, fun a ha b hb e => (upL_mem.mp ha).2 (by rw [e]; exact hb)⟩) (asc_nodup (asc_range' n 0))).mpr fun y => ?_
    rw [List.mem_append, upL_mem, mem_range0]
    constructor
    · rintro (h | h)
      · exact h.1
      · exact lt y h
    · intro h
      by_cases c : y ∈ gone
      · exact .inr c
      · exact .inl ⟨h, c⟩
  have := p.length_eq
  rw [List.length_append, List.length_range'] at this
  exact this
theorem tIf_split {c : TT} {t u : TS} {D : _} {σ : L2.St} {H : Hp} (R : Bool → Hp → Prop) (h1 : ∀ Q : Bool → Hp → Prop, (∀ b H1, R b H1 → Q b H1) → c σ H Q) (h2 : ∀ b H1, R b H1 → if b = true then t D σ H1 else u D σ H1) : tIfS c t u D σ H := h1 _ h2
/-! ### a new cluster -/
theorem field_nat {lo hi : Int} {o : Option Int} (h0 : 0 ≤ lo) (h : fieldB lo hi o = true) : ∃ k : Nat, o = some (k : Int) ∧ lo ≤ (k : Int) ∧ (k : Int) ≤ hi := by
  cases o with
  | none => cases h
  | some c =>
    have h2 : (decide (lo ≤ c) && decide (c ≤ hi)) = true := h
    rw [Bool.and_eq_true] at h2
    have a := of_decide_eq_true h2.1
    have b := of_decide_eq_true h2.2
    obtain ⟨k, rfl⟩ := Int.eq_ofNat_of_zero_le (show 0 ≤ c by omega)
    exact ⟨k, rfl, a, b⟩
theorem field_yes {lo hi : Int} {k : Nat} (h1 : lo ≤ (k : Int)) (h2 : (k : Int) ≤ hi) : fieldB lo hi (some (k : Int)) = true := by
  show (decide (lo ≤ (k : Int)) && decide ((k : Int) ≤ hi)) = true
  rw [decide_eq_true h1, decide_eq_true h2]
  rfl
def spCluInit (K : PySem.W.Frag) (C CN CP : Addr) : Sp := fun vs H Q E => ∃ (p dx : Addr) (v1 v2 v3 v4 : V) (o1 o2 o3 o4 : Option Int), vs = [.ref p, v1, v2, v3, v4] ∧ H p = some (.ins C dx []) ∧ CountV K H v1 o1 ∧ CountV K H v2 o2 ∧ CountV K H v3 o3 ∧ CountV K H v4 o4 ∧
  (fieldB 2 60 o1 = false → Raised "field" CN (.str "n") H E) ∧
  (∀ n : Nat, o1 = some (n : Int) → 2 ≤ n → n ≤ 60 → (fieldB 1 ((n : Int) - 1) o2 = false → Raised "field" CN (.str "failures") H E) ∧
    (∀ fl : Nat, o2 = some (fl : Int) → 1 ≤ fl → fl < n → (fieldB 1 (n : Int) o3 = false → Raised "field" CN (.str "factor") H E) ∧
      (∀ fa : Nat, o3 = some (fa : Int) → 1 ≤ fa → fa ≤ n → (possB (leastL n (min n (fl + fa))) o4 = false → Raised "count" CP v4 H E) ∧
        (∀ c : Nat, o4 = some (c : Int) → Std n (min n (fl + fa)) c → ∀ H' pl, But p H H' → H pl = none → CluB C H' p pl n fl fa c (List.range' 0 n) [] → Q .non H'))))
section
variable {P : Program} {w : World} {K : PySem.W.Frag} {mg : Str → Option Value} {base : Heap}
theorem ok_cluinit (T : Txt K mg) {j : Nat} : FnOk P w K mg base (L2.CX P w) (j + 6) T.fCluInit T.fdCluInit ["self", "n", "failures", "factor", "count"] (spCluInit K T.cClu T.cNoC T.cNotP) := by
  refine T.FCluInit.okX scCluInit (fun vs H Q E h => ?_) (fun cdv A outer s H vs Q E hr h => ?_)
  · obtain ⟨p, dx, v1, v2, v3, v4, o1, o2, o3, o4, rfl, _⟩ := h
    rfl
  · obtain ⟨p, dx, v1, v2, v3, v4, o1, o2, o3, o4, rfl, hp, c1, c2, c3, c4, q1, q2⟩ := h
    refine ⟨_, pss_cons (ps_expr (pe_call (ok_chkf T) hr (by rfl) T.gChkF T.FChkF.kp T.bChkF .nil (passes_call (takes_of rfl rfl rfl rfl) (fun _ _ _ _ h => h)) (pa_cons pe_str (pa_cons (pv 1) (pa_cons (pe_glob (v := .int 2) (by rfl) T.gLEAST_SERVERS ⟨_, rfl⟩) (pa_cons (pe_glob (v := .int 60) (by rfl) T.gMOST_SERVERS ⟨_, rfl⟩) pa_nil)))))) (pss_cons (ps_expr (pe_call (ok_chkf T) hr (by rfl) T.gChkF T.FChkF.kp T.bChkF .nil (passes_call (takes_of rfl rfl rfl rfl) (fun _ _ _ _ h => h)) (pa_cons pe_str (pa_cons (pv 2) (pa_cons pe_int (pa_cons (pe_op op_sub (pv 1) pe_int) pa_nil)))))) (pss_cons (ps_expr (pe_call (ok_chkf T) hr (by rfl) T.gChkF T.FChkF.kp T.bChkF .nil (passes_call (takes_of rfl rfl rfl rfl) (fun _ _ _ _ h => h)) (pa_cons pe_str (pa_cons (pv 3) (pa_cons pe_int (pa_cons (pv 1) pa_nil)))))) (pss_cons (ps_expr (pe_call (ok_chkp T) hr (by rfl) T.gChkP T.FChkP.kp T.bChkP .nil (passes_call (takes_of rfl rfl rfl rfl) (fun _ _ _ _ h => h)) (pa_cons (pv 1) (pa_cons (pe_call (ok_reachof T) hr (by rfl) T.gReachOf T.FReachOf.kp T.bReachOf .nil pass0 (pa_cons (pv 1) (pa_cons (pv 2) (pa_cons (pv 3) pa_nil)))) (pa_cons (pv 4) pa_nil))))) (pss_cons (ps_fld (pv 0) (pv 1) rfl) (pss_cons (ps_fld (pv 0) (pv 2) rfl) (pss_cons (ps_fld (pv 0) (pv 3) rfl) (pss_cons (ps_fld (pv 0) (pv 4) rfl) (pss_cons (ps_fld (pv 0) (pe_tupRg rfl (by rfl) T.n_tuple (prg_1 (by rfl) T.n_range (pv 1))) rfl) (pss_one (ps_fld (pv 0) (pe_lst pa_nil) rfl)))))))))), ?_⟩
    refine ⟨v1, rfl, _, v1, o1, 2, 60, rfl, c1, fun b1 => ?_, q1⟩
    obtain ⟨n, rfl, n2, n6⟩ := field_nat (by decide) b1
    obtain rfl := c1.isInt
    obtain ⟨q3, q4⟩ := q2 n rfl (by omega) (by omega)
    refine ⟨v2, rfl, _, rfl, _, _, rfl, rfl, _, v2, o2, 1, (n : Int) - 1, rfl, c2, fun b2 => ?_, q3⟩
    obtain ⟨fl, rfl, f1, fn⟩ := field_nat (by decide) b2
    obtain rfl := c2.isInt
    obtain ⟨q5, q6⟩ := q4 fl rfl (by omega) (by omega)
    refine ⟨v3, rfl, _, rfl, _, v3, o3, 1, (n : Int), rfl, c3, fun b3 => ?_, q5⟩
    obtain ⟨fa, rfl, a1, an⟩ := field_nat (by decide) b3
    obtain rfl := c3.isInt
    obtain ⟨q7, q8⟩ := q6 fa rfl (by omega) (by omega)
    refine ⟨_, rfl, _, rfl, _, rfl, _, rfl, n, fl, fa, rfl, v4, rfl, n, min n (fl + fa), v4, o4, rfl, by omega, by omega, by omega, c4, fun b4 H1 s1 => ?_, q7⟩
    obtain ⟨c, rfl, st⟩ := poss_std (by omega) (by omega) (by omega) b4
    obtain rfl := c4.isInt
    have q9 := q8 c rfl st
    refine ⟨_, rfl, .ref p, rfl, p, T.cClu, dx, _, rfl, s1 _ _ hp, T.clClu, T.naClu_n, (by show 0 < 1000; decide), ?_⟩
    refine ⟨_, rfl, .ref p, rfl, p, T.cClu, dx, _, rfl, upd_same, T.clClu, T.naClu_failures, (by show 1 < 1000; decide), ?_⟩
    refine ⟨_, rfl, .ref p, rfl, p, T.cClu, dx, _, rfl, upd_same, T.clClu, T.naClu_factor, (by show 2 < 1000; decide), ?_⟩
    refine ⟨_, rfl, .ref p, rfl, p, T.cClu, dx, _, rfl, upd_same, T.clClu, T.naClu_count, (by show 3 < 1000; decide), ?_⟩
    refine ⟨_, rfl, _, rfl, .of_le (by omega) (by omega) (by omega) (by omega), fun tl ntl => ?_⟩
    dsimp only
    rw [setV_range]
    have ntp : p ≠ tl := ne_of_none upd_same ntl
    refine ⟨.ref p, rfl, p, T.cClu, dx, _, rfl, (upd_ne ntp).trans upd_same, T.clClu, T.naClu_living, (by show 4 < 1000; decide), ?_⟩
    refine ⟨Nat.zero_le _, fun pl npl => ?_⟩
    have npp : p ≠ pl := ne_of_none upd_same npl
    have ntpl : tl ≠ pl := ne_of_none ((upd_ne ntp.symm).trans upd_same) npl
    refine ⟨.ref p, rfl, p, T.cClu, dx, _, rfl, (upd_ne npp).trans upd_same, T.clClu, T.naClu_past, (by show 5 < 1000; decide), ?_⟩
    have htl : H tl = none := by
      have z := ntl
      rw [upd_ne ntp.symm, upd_ne ntp.symm, upd_ne ntp.symm, upd_ne ntp.symm] at z
      exact s1.free z
    have hpl : H pl = none := by
      have z := npl
      rw [upd_ne npp.symm, upd_ne ntpl.symm, upd_ne npp.symm, upd_ne npp.symm, upd_ne npp.symm, upd_ne npp.symm] at z
      exact s1.free z
    refine q9 _ pl ?_ hpl ⟨⟨dx, tl, upd_same, ?_⟩, [], ?_, .nil⟩
    · refine But.upd (but_new (But.upd (but_new ?_ htl)) hpl)
      exact ((((But.of s1).upd).upd).upd).upd
    · rw [upd_ne ntp.symm, upd_ne ntpl, upd_ne ntp.symm, upd_same]
    · rw [upd_ne npp.symm, upd_same]
end
/-! ### the state of the law -/
structure S88 (K : PySem.W.Frag) (C : Addr) (H0 H : Hp) (p0 p pl ts : Addr) (n fl fa c : Nat) (L : List Nat) (qs : List (Nat × Nat)) (F : List (Addr × List V)) : Prop where
  str : StrAt H p0
  clu : CluB C H p pl n fl fa c L qs
  tup : SqT K H ts [.int n, .int fl, .int fa, .int c]
  fix : ∀ f ∈ F, H f.1 = some (.lst f.2) ∧ f.1 ≠ p0 ∧ f.1 ≠ pl
  ne : p0 ≠ pl
  keep : Same H0 H
  no : H0 p0 = none ∧ H0 p = none ∧ H0 pl = none
section
variable {K : PySem.W.Frag} {C : Addr} {H0 H H' : Hp} {p0 p pl ts : Addr} {n fl fa c : Nat} {L L' : List Nat} {qs qs' : List (Nat × Nat)} {F : List (Addr × List V)}
theorem SqT_but88 {a q : Addr} {xs ys : List V} (h : SqT K H a xs) (hq : H q = some (.lst ys)) (b : But q H H') : SqT K H' a xs := by
  rcases h with (h | ⟨o, h⟩) | h
  · exact .inl (.inl (b _ _ (fun z => by rw [z, hq] at h; cases h) h))
  · exact .inl (.inr ⟨o, b _ _ (fun z => by rw [z, hq] at h; cases h) h⟩)
  · exact .inr h
theorem SqT_mv88 {a : Addr} {xs : List V} (h : SqT K H a xs) (B : CluB C H p pl n fl fa c L qs) (b : But2 p pl H H') : SqT K H' a xs := by
  obtain ⟨⟨dx, tl, h1, h2⟩, us, h3, h4⟩ := B
  rcases h with (h | ⟨o, h⟩) | h
  · exact .inl (.inl (b _ _ (fun z => by rw [z, h1] at h; cases h) (fun z => by rw [z, h3] at h; cases h) h))
  · exact .inl (.inr ⟨o, b _ _ (fun z => by rw [z, h1] at h; cases h) (fun z => by rw [z, h3] at h; cases h) h⟩)
  · exact .inr h
theorem S88.same (S : S88 K C H0 H p0 p pl ts n fl fa c L qs F) (s : Same H H') : S88 K C H0 H' p0 p pl ts n fl fa c L qs F := ⟨S.str.same s, S.clu.same s, Same.seqT s S.tup, fun f hf => ⟨s _ _ (S.fix f hf).1, (S.fix f hf).2⟩, S.ne, S.keep.trans s, S.no⟩
theorem S88.to (S : S88 K C H0 H p0 p pl ts n fl fa c L qs F) (k : But p0 H H') (P : StrAt H' p0) : S88 K C H0 H' p0 p pl ts n fl fa c L qs F := by
  obtain ⟨ys, e⟩ := S.str.lst
  exact ⟨P, S.clu.but e S.ne.symm k, SqT_but88 S.tup e k, fun f hf => ⟨k _ _ (S.fix f hf).2.1 (S.fix f hf).1, (S.fix f hf).2⟩, S.ne, fun q o z => k q o (ne_of_none z S.no.1) (S.keep q o z), S.no⟩
theorem S88.move (S : S88 K C H0 H p0 p pl ts n fl fa c L qs F) (k : But2 p pl H H') (B : CluB C H' p pl n fl fa c L' qs') : S88 K C H0 H' p0 p pl ts n fl fa c L' qs' F := by
  refine ⟨?_, B, SqT_mv88 S.tup S.clu k, fun f hf => ⟨?_, (S.fix f hf).2⟩, S.ne, fun q o z => k q o (ne_of_none z S.no.2.1) (ne_of_none z S.no.2.2) (S.keep q o z), S.no⟩
  · obtain ⟨⟨dx, tl, h1, h2⟩, us, h3, h4⟩ := S.clu
    obtain ⟨x, y, e, r⟩ := S.str
    exact ⟨x, y, k _ _ (fun w => by rw [w, h1] at e; cases e) S.ne e, r⟩
  · obtain ⟨⟨dx, tl, h1, h2⟩, us, h3, h4⟩ := S.clu
    exact k _ _ (fun w => by have := (S.fix f hf).1; rw [w, h1] at this; cases this) (S.fix f hf).2.2 (S.fix f hf).1
/-- a list that was laid -/
theorem S88.add {q : Addr} {xs : List V} (S : S88 K C H0 H p0 p pl ts n fl fa c L qs F) (hq : H q = some (.lst xs)) (n1 : q ≠ p0) (n2 : q ≠ pl) : S88 K C H0 H p0 p pl ts n fl fa c L qs ((q, xs) :: F) :=
  ⟨S.str, S.clu, S.tup, fun f hf => by
    rcases List.mem_cons.mp hf with rfl | h
    · exact ⟨hq, n1, n2⟩
    · exact S.fix f h, S.ne, S.keep, S.no⟩
theorem S88.new (S : S88 K C H0 H p0 p pl ts n fl fa c L qs F) {q : Addr} (nq : H q = none) : q ≠ p0 ∧ q ≠ pl := by
  obtain ⟨⟨dx, tl, h1, h2⟩, us, h3, h4⟩ := S.clu
  exact ⟨(S.str.ne nq).symm, (ne_of_none h3 nq).symm⟩
end
theorem least_small88 : ∀ n < 7, ∀ d < 7, leastL n d ≤ 500 := by decide +kernel
/-- an address that was free -/
def Fr88 (H0 : Hp) (D p0 pl : Addr) (F : List (Addr × List V)) : Prop := H0 D = none ∧ D ≠ p0 ∧ D ≠ pl ∧ ∀ f ∈ F, f.1 ≠ D
section
variable {K : PySem.W.Frag} {C : Addr} {H0 H H' : Hp} {p0 p pl ts D : Addr} {n fl fa c : Nat} {L L' : List Nat} {qs qs' : List (Nat × Nat)} {F : List (Addr × List V)}
theorem S88.fresh (S : S88 K C H0 H p0 p pl ts n fl fa c L qs F) (nD : H D = none) : Fr88 H0 D p0 pl F :=
  ⟨S.keep.free nD, (S.new nD).1, (S.new nD).2, fun f hf => ne_of_none (S.fix f hf).1 nD⟩
theorem S88.lay {xs : List V} {o : HO} (S : S88 K C H0 H p0 p pl ts n fl fa c L qs F) (fr : Fr88 H0 D p0 pl F) (hD : H D = some (.lst xs)) : S88 K C H0 (upd H D o) p0 p pl ts n fl fa c L qs F := by
  obtain ⟨f1, f2, f3, f4⟩ := fr
  have k : But D H (upd H D o) := fun b o ne e => by rw [upd_ne ne]; exact e
  exact ⟨S.str.upd f2.symm, S.clu.but hD f3.symm k, SqT_updL S.tup hD, fun f hf => ⟨by rw [upd_ne (f4 f hf)]; exact (S.fix f hf).1, (S.fix f hf).2⟩, S.ne, fun q o z => k q o (ne_of_none z f1) (S.keep q o z), S.no⟩
theorem S88.kept {xs : List V} (S : S88 K C H0 H p0 p pl ts n fl fa c L qs F) (fr : Fr88 H0 D p0 pl F) (hD : H D = some (.lst xs)) (b : But2 p pl H H') : H' D = some (.lst xs) := by
  obtain ⟨⟨dx, tl, h1, h2⟩, us, h3, h4⟩ := S.clu
  exact b _ _ (fun w => by rw [w, h1] at hD; cases hD) fr.2.2.1 hD
end
theorem rep_snoc88 (j : Nat) : (List.replicate (j + 1) true).map V.bl = (List.replicate j true).map V.bl ++ [V.bl true] := by
  rw [List.replicate_succ', List.map_append]
  rfl
theorem rep_all88 (j : Nat) : (List.replicate j true).all id = true := List.all_eq_true.mpr fun b hb => by rw [(List.mem_replicate.mp hb).2]; rfl
theorem drop_erase88 {l : List Nat} {j : Nat} : (l.drop j).eraseIdx 0 = l.drop (j + 1) := by
  rw [List.eraseIdx_zero, List.tail_drop]
theorem upL_perm88 {n : Nat} {a b : List Nat} (h : a.Perm b) : upL n a = upL n b := asc_ext88 (upL_asc _ _) (upL_asc _ _) fun x => by rw [upL_mem, upL_mem, h.mem_iff]
theorem flat_rep88 (v : V) : ∀ m : Nat, (List.replicate m [v]).flatten = List.replicate m v
  | 0 => rfl
  | m + 1 => by rw [List.replicate_succ, List.flatten_cons, flat_rep88 v m, List.replicate_succ]; rfl
def spLaw (K : PySem.W.Frag) : Sp := fun vs H Q _ => ∃ (a : Addr) (ns : List Int), vs = [.ref a] ∧ SqL K H a (ns.map V.int) ∧ ns.length ≤ 63 ∧ ∀ H', Q (.bl true) H'
section
variable {P : Program} {w : World} {K : PySem.W.Frag} {mg : Str → Option Value} {base : Heap}
theorem ok_law {f : Addr} {fd : FuncData} (F : Fun K "law" "law" sLaw f fd) (T : Txt K mg) : FnG P w K mg base CX0 11 f fd ["_law_script"] (spLaw K) := by
  refine Fun_ok0 F scLaw (fun vs H Q E h => ?_) (fun cdv A outer s H vs Q E gd hr h => ?_)
  · obtain ⟨a, ns, rfl, _⟩ := h
    rfl
  · obtain ⟨a, ns, rfl, hS, hlen, q⟩ := h
    have hu64 : (A.deeper (envOfC "law" (defScope sLaw) s.heap.objs.size f cdv)).units + 64 < cLine := by
      have := hr.un
      omega
    refine ⟨_, pss_cons (ps_for PassesOwn.never rfl (pi_range1 (by rfl) T.n_range (pa_cons (pe_callB (call_max2 rfl) (by rfl) T.n_max (by decide +kernel) (pa_cons pe_int (pa_cons (pe_callB (call_min2 rfl) (by rfl) T.n_min (by decide +kernel) (pa_cons pe_int (pa_cons (pe_callB (call_lenK K) (by rfl) T.n_len PySem.boot_len (pa_cons (pv 0) pa_nil)) pa_nil))) pa_nil))) pa_nil)) (pg_name (i := 1) scLaw.nd rfl (.inl rfl)) (pss_cons (ps_set (i := 2) scLaw.nd rfl (.inl rfl) (pe_call (ok_stream T) hr (by rfl) T.gStream T.FStream.kp T.bStream .nil pass0 (pa_cons (pv 0) (pa_cons (pv 1) pa_nil)))) (pss_cons (ps_set (i := 3) scLaw.nd rfl (.inl rfl) (pe_op op_add pe_int (pe_call (ok_draw T) hr (by rfl) T.gDraw T.FDraw.kp T.bDraw .nil pass0 (pa_cons (pv 2) (pa_cons pe_int pa_nil))))) (pss_cons (ps_par (i := 4) (j := 5) rfl scLaw.nd rfl rfl (by decide) rfl rfl (pa_cons (pe_op op_add pe_int (pe_call (ok_draw T) hr (by rfl) T.gDraw T.FDraw.kp T.bDraw .nil pass0 (pa_cons (pv 2) (pa_cons (pe_op op_sub (pv 3) pe_int) pa_nil)))) (pa_cons (pe_op op_add pe_int (pe_call (ok_draw T) hr (by rfl) T.gDraw T.FDraw.kp T.bDraw .nil pass0 (pa_cons (pv 2) (pa_cons (pv 3) pa_nil)))) pa_nil)) (by rfl)) (pss_cons (ps_set (i := 6) scLaw.nd rfl (.inr rfl) (pe_tup (pa_cons (pv 3) (pa_cons (pv 4) (pa_cons (pv 5) (pa_cons (pe_op op_mul (pe_call (ok_leasts T) hr (by rfl) T.gLeastS T.FLeastS.kp T.bLeastS .nil pass0 (pa_cons (pv 3) (pa_cons (pe_callB (call_min2 rfl) (by rfl) T.n_min (by decide +kernel) (pa_cons (pv 3) (pa_cons (pe_op op_add (pv 4) (pv 5)) pa_nil))) pa_nil))) (pe_op op_add pe_int (pe_call (ok_draw T) hr (by rfl) T.gDraw T.FDraw.kp T.bDraw .nil pass0 (pa_cons (pv 2) (pa_cons pe_int pa_nil))))) pa_nil)))))) (pss_cons (ps_set (i := 7) scLaw.nd rfl (.inr rfl) (pe_make T.mkClu (ok_cluinit T) hr (by rfl) T.gcClu T.bCluInit .nil passF (pa_cons (pv 3) (pa_cons (pv 4) (pa_cons (pv 5) (pa_cons (pe_ix (ix_tupK K) (pv 6) pe_int (fun _ _ => rfl)) pa_nil)))))) (pss_cons (ps_set (i := 8) scLaw.nd rfl (.inl rfl) (pe_slice (sl_listK (K := K)) (pe_call (ok_shuffd T) hr (by rfl) T.gShuffd T.FShuffd.kp T.bShuffd .nil pass0 (pa_cons (pv 2) (pa_cons (pe_listRg rfl (by rfl) T.n_list (prg_1 (by rfl) T.n_range (pv 3))) pa_nil))) po_none (po_some (pv 4)))) (pss_cons (ps_if (pt_not (pt_val (pe_callB (cr_allK K) (by rfl) T.n_all (by decide +kernel) (pa_cons (pe_lc (own := [("_law_server", 9)]) (g := (gName 9)) (tt := tYes) rfl scLaw.nd (pi_list (pv 8)) (blkOk_by (own := [("_law_server", 9)]) (N := NLaw) (sc := defScope sLaw) (by decide +kernel)) (fun _ _ _ _ _ => (pg_name (i := 9) scLaw.nd rfl (.inl rfl))) (fun _ _ _ _ _ => pts_nil) (fun _ _ _ _ _ => (pe_call (ok_fails88 T) hr (by rfl) T.gFails88 T.FFails88.kp T.bFails88 .nil pass0 (pa_cons (pv 7) (pa_cons (pv 6) (pa_cons (pv 9) pa_nil)))))) pa_nil)))) (pss_one (ps_ret pe_bl)) pss_nil) (pss_cons (ps_if (pt_not (pt_val (pe_callB (cr_allK K) (by rfl) T.n_all (by decide +kernel) (pa_cons (pe_lc (own := [("_law_server", 9)]) (g := (gName 9)) (tt := tYes) rfl scLaw.nd (pi_list (pe_call (ok_shuffd T) hr (by rfl) T.gShuffd T.FShuffd.kp T.bShuffd .nil pass0 (pa_cons (pv 2) (pa_cons (pv 8) pa_nil)))) (blkOk_by (own := [("_law_server", 9)]) (N := NLaw) (sc := defScope sLaw) (by decide +kernel)) (fun _ _ _ _ _ => (pg_name (i := 9) scLaw.nd rfl (.inl rfl))) (fun _ _ _ _ _ => pts_nil) (fun _ _ _ _ _ => (pe_call (ok_recov88 T) hr (by rfl) T.gRecov88 T.FRecov88.kp T.bRecov88 .nil pass0 (pa_cons (pv 7) (pa_cons (pv 6) (pa_cons (pv 9) pa_nil)))))) pa_nil)))) (pss_one (ps_ret pe_bl)) pss_nil) (pss_cons (ps_setLc (i := 10) (own := [("_law_server", 9)]) (g := (gName 9)) (tt := tYes) rfl scLaw.nd rfl rfl (sw_true rfl rfl rfl (by decide +kernel)) (pi_range1 (by rfl) T.n_range (pa_cons (pv 3) pa_nil)) (blkOk_by (own := [("_law_server", 9)]) (N := NLaw) (sc := defScope sLaw) (by decide +kernel)) (fun _ _ _ _ _ => (pg_name (i := 9) scLaw.nd rfl (.inl rfl))) (fun _ _ _ _ _ => pts_nil) (fun _ _ _ _ _ => (pe_meth (pv 7) T.clClu T.mtCluLoad (ok_cluload T) hr T.bCluLoad .nil passF (pa_cons (pv 9) pa_nil)))) (pss_one (ps_if (pt_cmpR (op_neDK K hu64) (pv 10) (pe_op op_rep (pe_lst (pa_cons (pe_op op_fdiv (pe_op op_mul (pe_ix (ix_tupK K) (pv 6) pe_int (fun _ _ => rfl)) (pe_callB (call_min2 rfl) (by rfl) T.n_min (by decide +kernel) (pa_cons (pv 5) (pa_cons (pv 3) pa_nil)))) (pv 3)) pa_nil)) (pv 3)) (nomark _)) (pss_one (ps_ret pe_bl)) pss_nil)))))))))))) (pss_one (ps_ret pe_bl)), ?_⟩
    refine ⟨.ref a, rfl, a, _, rfl, .inl hS, _, _, rfl, _, _, rfl, _, rfl, ?_, ?_, ?_⟩
    · split <;> split <;> omega
    · split <;> split <;> omega
    refine for_range (lo := 0) (fun i σ H2 => ∃ v1 v2 v3 v4 v5 v6 v7 v8 v9, σ = [some (.ref a), v1, v2, v3, v4, v5, v6, v7, v8, none, v9] ∧ Same H H2) ⟨none, none, none, none, none, none, none, none, none, rfl, Same.refl H⟩ ?_ ?_
    · rintro i σ H2 hi ⟨v1, v2, v3, v4, v5, v6, v7, v8, v9, rfl, s2⟩
      have hi3 : i < 2 := by
        refine Nat.lt_of_lt_of_le hi ?_
        split <;> split <;> omega
      rw [Int.zero_add]
      refine ⟨.ref a, rfl, _, rfl, a, ns, i, rfl, s2.seq hS, by omega, by omega, fun H3 p0 s3 np P3 => ?_⟩
      have s13 : Same H H3 := s2.trans s3
      refine ⟨.ref p0, rfl, p0, 4, rfl, P3, by decide, by decide +kernel, fun r1 H4 r10 r1l P4 b4 => ⟨_, _, rfl, rfl, ?_⟩⟩
      obtain ⟨k1, rfl⟩ := Int.eq_ofNat_of_zero_le r10
      dsimp only [gName]
      rw [show (3 : Int) + (k1 : Int) = ((3 + k1 : Nat) : Int) by omega]
      generalize hn0 : 3 + k1 = n
      refine ⟨.ref p0, rfl, _, rfl, _, _, rfl, rfl, p0, _, rfl, P4, by omega, Int.lt_trans (show (n : Int) - 1 < 100 by omega) (by decide +kernel), fun r2 H5 r20 r2l P5 b5 => ⟨_, _, rfl, rfl, .ref p0, rfl, _, rfl, p0, _, rfl, P5, by omega, Int.lt_trans (show (n : Int) < 100 by omega) (by decide +kernel), fun r3 H6 r30 r3l P6 b6 => ⟨_, _, rfl, rfl, ?_⟩⟩⟩
      obtain ⟨k2, rfl⟩ := Int.eq_ofNat_of_zero_le r20
      obtain ⟨k3, rfl⟩ := Int.eq_ofNat_of_zero_le r30
      refine ⟨_, _, rfl, ?_⟩
      dsimp only [gName]
      rw [show (1 : Int) + (k2 : Int) = ((1 + k2 : Nat) : Int) by omega, show (1 : Int) + (k3 : Int) = ((1 + k3 : Nat) : Int) by omega]
      generalize hf0 : 1 + k2 = fl
      generalize ha0 : 1 + k3 = fa
      have bn : 3 ≤ n ∧ n ≤ 6 ∧ 1 ≤ fl ∧ fl < n ∧ 1 ≤ fa ∧ fa ≤ n := by omega
      have em : (if (fl : Int) + (fa : Int) < (n : Int) then (fl : Int) + (fa : Int) else (n : Int)) = ((min n (fl + fa) : Nat) : Int) := by
        split <;> omega
      refine ⟨_, rfl, _, rfl, _, rfl, _, rfl, _, rfl, _, rfl, _, rfl, _, _, rfl, rfl, _, _, rfl, ?_⟩
      dsimp only
      rw [em]
      refine ⟨n, min n (fl + fa), rfl, by omega, by omega, by omega, ?_⟩
      refine ⟨.ref p0, rfl, p0, 2, rfl, P6, by decide, by decide +kernel, fun r4 H7 r40 r4l P7 b7 => ⟨_, _, rfl, rfl, _, _, rfl, rfl, .inr ⟨by omega, by omega⟩, ?_⟩⟩
      obtain ⟨k4, rfl⟩ := Int.eq_ofNat_of_zero_le r40
      dsimp only
      rw [show (1 : Int) + (k4 : Int) = ((1 + k4 : Nat) : Int) by omega, ← Int.natCast_mul]
      have st := std_of (show n ≤ 60 by omega) (show 1 ≤ n by omega) (show min n (fl + fa) ≤ n by omega) (1 + k4) (by omega)
      have hc : leastL n (min n (fl + fa)) * (1 + k4) ≤ 1000 := by
        have h1 := least_small88 n (by omega) (min n (fl + fa)) (by omega)
        exact Nat.mul_le_mul h1 (show 1 + k4 ≤ 2 by omega)
      generalize leastL n (min n (fl + fa)) * (1 + k4) = c at st hc
      have okk : ∀ gone : List Nat, gone.Nodup → (∀ y ∈ gone, y < n) → gone.length ≤ fl → CluOk n fl fa c (upL n gone) := fun gone h1 h2 h3 =>
        ⟨by omega, by omega, by omega, by omega, by omega, st, Nat.lt_of_le_of_lt hc (by decide), upL_asc _ _, fun x hx => (upL_mem.mp hx).1, by have := upL_len h1 h2; omega⟩
      have B7 : But p0 H3 H7 := ((b4.trans b5).trans b6).trans b7
      clear b4 b5 b6 b7 P4 P5 P6 r4l r40 r1l r2l r3l em
      refine ⟨(by show 4 ≤ sizeLine; decide), fun ts nts => ?_⟩
      have s8 := same_new (o := .tup [V.int (n : Int), V.int (fl : Int), V.int (fa : Int), V.int (c : Int)]) nts
      have P8 := P7.same s8
      have t8 : SqT K (upd H7 ts (.tup [V.int (n : Int), V.int (fl : Int), V.int (fa : Int), V.int (c : Int)])) ts [V.int (n : Int), V.int (fl : Int), V.int (fa : Int), V.int (c : Int)] := SqT.of upd_same
      have B8 : But p0 H3 (upd H7 ts (.tup [V.int (n : Int), V.int (fl : Int), V.int (fa : Int), V.int (c : Int)])) := B7.same s8
      generalize upd H7 ts (.tup [V.int (n : Int), V.int (fl : Int), V.int (fa : Int), V.int (c : Int)]) = H8 at s8 P8 t8 B8 ⊢
      dsimp only [gName]
      refine ⟨_, rfl, _, rfl, _, rfl, .ref ts, rfl, ts, _, _, _, rfl, rfl, t8, rfl, fun p dx np' ndx nex => ?_⟩
      have sD : Same H8 (upd (upd H8 dx (.own p)) p (.ins T.cClu dx [])) := fun b o e => by
        rw [upd_ne (ne_of_none e np'), upd_ne (ne_of_none e ndx)]
        exact e
      refine ⟨p, dx, _, _, _, _, some (n : Int), some (fl : Int), some (fa : Int), some (c : Int), rfl, upd_same, .inl ⟨_, rfl, rfl⟩, .inl ⟨_, rfl, rfl⟩, .inl ⟨_, rfl, rfl⟩, .inl ⟨_, rfl, rfl⟩, fun z => ?_, fun n' e _ _ => ?_⟩
      · rw [field_yes (by omega) (by omega)] at z
        cases z
      obtain rfl : n = n' := by have := Option.some.inj e; omega
      refine ⟨fun z => ?_, fun fl' e _ _ => ?_⟩
      · rw [field_yes (by omega) (by omega)] at z
        cases z
      obtain rfl : fl = fl' := by have := Option.some.inj e; omega
      refine ⟨fun z => ?_, fun fa' e _ _ => ?_⟩
      · rw [field_yes (by omega) (by omega)] at z
        cases z
      obtain rfl : fa = fa' := by have := Option.some.inj e; omega
      refine ⟨fun z => ?_, fun c' e _ H9 pl b9 npl B9 => ⟨rfl, ?_⟩⟩
      · rw [std_poss st] at z
        cases z
      obtain rfl : c = c' := by have := Option.some.inj e; omega
      have s9 : Same H8 H9 := fun b o e => b9 b o (ne_of_none e np') (sD b o e)
      have k8 : Same H2 H8 := fun q o e => B8 q o (ne_of_none e np) (s3 q o e)
      have S0 : S88 K T.cClu H2 H9 p0 p pl ts n fl fa c (upL n []) [] [] := by
        rw [upL_nil]
        exact ⟨P8.same s9, B9, Same.seqT s9 t8, fun f hf => absurd hf List.not_mem_nil, (by obtain ⟨x, y, z, _⟩ := P8; exact ne_of_none (sD _ _ z) npl), k8.trans s9, np, k8.free np', k8.free (sD.free npl)⟩
      clear P8 t8 B8 s8 s9 sD B9 b9 k8
      dsimp only [gName]
      refine ⟨.ref p0, rfl, _, rfl, _, rfl, .of_le (by omega) (by omega) (by omega) (by omega), fun pe npe => ?_⟩
      rw [setV_range]
      have se := same_new (o := .lst (setV (List.range' 0 n))) npe
      refine ⟨p0, pe, _, rfl, S0.str.same se, .inl (SqL.of upd_same), by rw [setV_len, List.length_range']; omega, Els.set (fun x hx => by have := mem_range0.mp hx; omega), fun H11 q5 ys B11 n5 h5 pm P11 => ?_⟩
      obtain ⟨ks, rfl, pk⟩ := perm_setV pm
      refine ⟨_, rfl, _, rfl, q5, _, rfl, SqL.of h5, fun lg nlg => ?_⟩
      rw [cut_take]
      have kl := pk.length_eq
      rw [List.length_range'] at kl
      have S11 := ((S0.same se).to B11 P11).same (same_new (o := .lst (setV (ks.take fl))) nlg)
      obtain ⟨ng1, ng2⟩ := ((S0.same se).to B11 P11).new nlg
      have S12 := S11.add (q := lg) upd_same ng1 ng2
      have gnd : (ks.take fl).Nodup := (pk.nodup_iff.mpr (asc_nodup (asc_range' n 0))).sublist (List.take_sublist _ _)
      have glt : ∀ y ∈ ks.take fl, y < n := fun y hy => mem_range0.mp (pk.mem_iff.mp (List.mem_of_mem_take hy))
      have gl : (ks.take fl).length = fl := by
        rw [List.length_take]
        omega
      generalize upd H11 lg (.lst (setV (ks.take fl))) = H12 at S12 ⊢
      generalize ks.take fl = gone at S12 gnd glt gl
      clear S11 S0 se P11 B11 h5 pk kl n5 nlg
      dsimp only [gName]
      have fG : (lg, setV gone) ∈ [(lg, setV gone)] := by simp
      generalize [(lg, setV gone)] = F at S12 fG
      -- they fail
      refine ⟨.ref lg, rfl, lg, rfl, ⟨_, SqL.of (S12.fix _ fG).1⟩, fun D nD => ?_⟩
      have fr := S12.fresh nD
      refine lc_list (K := K) (a := lg) (xs := setV gone) (fun j H => ∃ qs, S88 K T.cClu H2 H p0 p pl ts n fl fa c (upL n (gone.take j)) qs F ∧ qs.length ≤ j ∧ H D = some (.lst ((List.replicate j true).map V.bl))) ⟨[], S12.same (same_new nD), Nat.le_refl _, upd_same⟩ (fun j H _ ⟨_, S, _⟩ => SqL.of (S.fix _ fG).1) ?_ ?_
      · rintro j v H15 hz ⟨qs, S, ql, hD⟩
        obtain ⟨x, hx, rfl⟩ := setV_get hz
        have jl := (List.getElem?_eq_some_iff.mp hx).1
        have xn := glt x (List.mem_of_getElem? hx)
        have tnd : (gone.take j).Nodup := gnd.sublist (List.take_sublist _ _)
        have tlt : ∀ y ∈ gone.take j, y < n := fun y hy => glt y (List.mem_of_mem_take hy)
        have tl : (gone.take j).length = j := by rw [List.length_take]; omega
        have xno : x ∉ gone.take j := fun hm => by
          obtain ⟨k, hk⟩ := List.getElem?_of_mem hm
          rw [List.getElem?_take] at hk
          split at hk
          · have := nodup_inj gnd hk hx
            omega
          · cases hk
        have ok := okk _ tnd tlt (by omega)
        have ul := upL_len tnd tlt
        have hxL : x ∈ upL n (gone.take j) := upL_mem.mpr ⟨xn, xno⟩
        refine ⟨rfl, .ref p, rfl, .ref ts, rfl, _, rfl, p, pl, ts, n, fl, fa, c, _, qs, x, rfl, S.clu, ok, S.tup, hxL, by omega, hc, by omega, by omega, fun H16 qs' b16 B16 ql' => ?_⟩
        have hD16 := S.kept fr hD b16
        have S16 := S.move b16 B16
        rw [upL_fail hxL, ← take_snoc hx] at S16
        refine ⟨_, hD16, by rw [List.length_map, List.length_replicate]; exact small1000 (by omega), qs', S16.lay fr hD16, by omega, ?_⟩
        rw [upd_same, rep_snoc88]
      rintro H15 ⟨qs, S, ql, hD⟩
      rw [setV_len, List.take_length] at S
      rw [setV_len] at ql hD
      refine ⟨D, _, rfl, SqL.of hD, ?_⟩
      rw [rep_all88]
      refine ⟨_, rfl, iteF ?_⟩
      dsimp only [tNext]
      -- they come back
      refine ⟨.ref p0, rfl, .ref lg, rfl, p0, lg, _, rfl, S.str, .inl (SqL.of (S.fix _ fG).1), by rw [setV_len]; omega, Els.set (fun x hx => by have := glt x hx; omega), fun H16 l5 ys b16 n5 h5 pm P16 => ?_⟩
      obtain ⟨g2, rfl, pk⟩ := perm_setV pm
      have S16 := S.to b16 P16
      obtain ⟨n51, n52⟩ := S.new n5
      have S17 := S16.add h5 n51 n52
      clear S16 S b16 P16 n5
      rw [← upL_perm88 pk] at S17
      have hnd : g2.Nodup := pk.nodup_iff.mpr gnd
      have hlt : ∀ y ∈ g2, y < n := fun y hy => glt y (pk.mem_iff.mp hy)
      have hgl : g2.length = fl := by rw [pk.length_eq, gl]
      have f5 : (l5, setV g2) ∈ (l5, setV g2) :: F := List.mem_cons_self
      generalize (l5, setV g2) :: F = F2 at S17 f5
      refine ⟨l5, rfl, ⟨_, SqL.of h5⟩, fun D2 nD2 => ?_⟩
      have fr2 := S17.fresh nD2
      refine lc_list (K := K) (a := l5) (xs := setV g2) (fun j H => ∃ qs, S88 K T.cClu H2 H p0 p pl ts n fl fa c (upL n (g2.drop j)) qs F2 ∧ qs.length ≤ fl + j ∧ H D2 = some (.lst ((List.replicate j true).map V.bl))) ⟨qs, S17.same (same_new nD2), by omega, upd_same⟩ (fun j H _ ⟨_, S, _⟩ => SqL.of (S.fix _ f5).1) ?_ ?_
      · rintro j v H18 hz ⟨qs, S, ql, hD⟩
        obtain ⟨x, hx, rfl⟩ := setV_get hz
        have jl := (List.getElem?_eq_some_iff.mp hx).1
        have xn := hlt x (List.mem_of_getElem? hx)
        have tnd : (g2.drop j).Nodup := hnd.sublist (List.drop_sublist _ _)
        have tlt : ∀ y ∈ g2.drop j, y < n := fun y hy => hlt y (List.mem_of_mem_drop hy)
        have tl : (g2.drop j).length = fl - j := by rw [List.length_drop, hgl]
        have ok := okk _ tnd tlt (by omega)
        have hx0' : (g2.drop j)[0]? = some x := by rw [List.getElem?_drop, Nat.add_zero]; exact hx
        obtain ⟨eT, hno⟩ := upL_back tnd tlt hx0'
        rw [drop_erase88] at eT
        refine ⟨rfl, .ref p, rfl, .ref ts, rfl, _, rfl, p, pl, ts, n, fl, fa, c, _, qs, x, rfl, S.clu, ok, S.tup, hno, xn, hc, by omega, by omega, fun H19 qs' b19 B19 ql' => ?_⟩
        have hD19 := S.kept fr2 hD b19
        have S19 := S.move b19 B19
        rw [eT] at S19
        refine ⟨_, hD19, by rw [List.length_map, List.length_replicate]; exact small1000 (by omega), qs', S19.lay fr2 hD19, by omega, ?_⟩
        rw [upd_same, rep_snoc88]
      rintro H18 ⟨qs, S, ql, hD⟩
      rw [setV_len, List.drop_length] at S
      rw [setV_len] at hD
      refine ⟨D2, _, rfl, SqL.of hD, ?_⟩
      rw [rep_all88]
      refine ⟨_, rfl, iteF ?_⟩
      dsimp only [tNext]
      have ok0 := okk [] List.nodup_nil (fun _ h => absurd h List.not_mem_nil) (Nat.zero_le _)
      have ul0 : (upL n []).length = n := by rw [upL_nil, List.length_range']
      refine ⟨_, rfl, (n : Int), rfl, by omega, by omega, fun D3 nD3 => ?_⟩
      refine lc_range (lo := 0) (n := (n : Int).toNat) (fun z H => Same H18 H ∧ H D3 = some (.lst (setV (List.replicate z (loadC fa c n))))) ⟨same_new nD3, upd_same⟩ ?_ ?_
      · rintro z H19 hz ⟨s19, hD19⟩
        have zn : z < n := by omega
        have B19 := S.clu.same s19
        obtain ⟨⟨dx2, tl2, g1, g2'⟩, us2, g3, g4⟩ := id B19
        rw [Int.zero_add]
        refine ⟨rfl, .ref p, rfl, p, dx2, _, rfl, g1, fldC_no (by decide +kernel), _, rfl, p, pl, n, fl, fa, c, _, _, _, some (z : Int), rfl, B19, ok0, .inl ⟨_, rfl, rfl⟩, fun w => ?_, fun _ H20 s20 => ?_⟩
        · rw [liveB_nat (by rw [upL_nil]; exact mem_range0.mpr zn)] at w
          cases w
        rw [ul0]
        have hD20 := s20 _ _ hD19
        refine ⟨_, hD20, by rw [setV_len, List.length_replicate]; exact small1000 (by omega), keep_upd (s19.trans s20) nD3, ?_⟩
        rw [upd_same, List.replicate_succ', setV_app]
        rfl
      rintro H19 ⟨s19, hD19⟩
      rw [show (n : Int).toNat = n by omega] at hD19
      dsimp only [gName]
      have t19 := Same.seqT s19 S.tup
      have lb : loadC fa c n ≤ 1000 := by
        unfold loadC
        refine Nat.le_trans (Nat.div_le_of_le_mul ?_) hc
        rw [Nat.mul_comm n c]
        exact Nat.mul_le_mul_left c (Nat.min_le_right _ _)
      have em2 : (if (n : Int) < (fa : Int) then (n : Int) else (fa : Int)) = ((min fa n : Nat) : Int) := by
        split <;> omega
      have ev : (c : Int) * ((min fa n : Nat) : Int) / (n : Int) = ((loadC fa c n : Nat) : Int) := by
        unfold loadC
        rw [Int.natCast_ediv, Int.natCast_mul]
      refine ⟨_, rfl, .ref ts, rfl, ts, _, _, _, rfl, rfl, t19, rfl, _, rfl, _, rfl, _, _, rfl, ?_⟩
      dsimp only
      rw [em2]
      refine ⟨_, _, rfl, rfl, .inr ⟨by omega, by omega⟩, _, rfl, _, _, rfl, rfl, ⟨by omega, by omega⟩, ?_⟩
      dsimp only
      rw [ev]
      refine ⟨by show 1 ≤ sizeLine; decide, fun l1 nl1 => ?_⟩
      have sl1 := same_new (o := .lst [V.int ((loadC fa c n : Nat) : Int)]) nl1
      refine ⟨_, rfl, l1, (n : Int), _, rfl, rfl, upd_same, by omega, by omega, by rw [sizeLine_eq]; show 1 * (n : Int).toNat ≤ _; omega, fun l2 nl2 => ?_⟩
      have sl2 := same_new (o := .lst (List.replicate (n : Int).toNat [V.int ((loadC fa c n : Nat) : Int)]).flatten) nl2
      have hl2 : (upd (upd H19 l1 (.lst [V.int ((loadC fa c n : Nat) : Int)])) l2 (.lst (List.replicate (n : Int).toNat [V.int ((loadC fa c n : Nat) : Int)]).flatten)) l2 = some (.lst (setV (List.replicate n (loadC fa c n)))) := by
        rw [upd_same, show (n : Int).toNat = n by omega, flat_rep88]
        unfold setV
        rw [List.map_replicate]
      have shL : Sh 60 80000 (.list (natD (List.replicate n (loadC fa c n)))) := (Sh.lst ((sh_nat (b := 10) (by decide) (by decide) (ms := List.replicate n (loadC fa c n)) fun x hx => by rw [(List.mem_replicate.mp hx).2]; omega).mono (dp' := 1) (wt' := 500) (by decide) (by rw [List.length_replicate]; omega))).mono (by decide) (by decide)
      refine neD_same (.lst (SqL.of ((sl1.trans sl2) _ _ hD19)) (dp_set _)) (.lst (SqL.of hl2) (dp_set _)) shL ⟨_, rfl, iteF ?_⟩
      exact ⟨_, _, _, _, _, _, _, _, _, rfl, (s2.trans S.keep).trans ((s19.trans sl1).trans sl2)⟩
    · rintro σ H2 ⟨v1, v2, v3, v4, v5, v6, v7, v8, v9, rfl, s2⟩
      exact q _
end
/-! ### a copy of a cluster -/
def spCluCopy (C : Addr) : Sp := fun vs H Q _ => ∃ (p pl : Addr) (n fl fa c : Nat) (L : List Nat) (qs : List (Nat × Nat)), vs = [.ref p] ∧ CluB C H p pl n fl fa c L qs ∧ CluOk n fl fa c L ∧
  ∀ H' p2 pl2, Same H H' → H p2 = none → H pl2 = none → CluB C H' p2 pl2 n fl fa c L qs → Q (.ref p2) H'
section
variable {P : Program} {w : World} {K : PySem.W.Frag} {mg : Str → Option Value} {base : Heap}
theorem ok_clucopy (T : Txt K mg) {j : Nat} : FnOk P w K mg base CX0 (j + 8) T.fCluCopy T.fdCluCopy ["self"] (spCluCopy T.cClu) := by
  refine T.FCluCopy.ok scCluCopy (fun vs H Q E h => ?_) (fun cdv A outer s H vs Q E hr h => ?_)
  · obtain ⟨p, pl, n, fl, fa, c, L, qs, rfl, _⟩ := h
    rfl
  · obtain ⟨p, pl, n, fl, fa, c, L, qs, rfl, B, ok, q⟩ := h
    obtain ⟨⟨dx, tl, h1, h2⟩, us, h3, h4⟩ := id B
    refine ⟨_, pss_cons (ps_set (i := 1) scCluCopy.nd rfl (.inl rfl) (pe_make T.mkClu (ok_cluinit T) hr (by rfl) T.gcClu T.bCluInit .nil passF (pa_cons (pe_fld (pv 0) rfl) (pa_cons (pe_fld (pv 0) rfl) (pa_cons (pe_fld (pv 0) rfl) (pa_cons (pe_fld (pv 0) rfl) pa_nil)))))) (pss_cons (ps_fld (pv 1) (pe_fld (pv 0) rfl) rfl) (pss_cons (ps_fld (pv 1) (pe_callTy (call_listK K) (by rfl) T.n_list (by decide +kernel) (pa_cons (pe_fld (pv 0) rfl) pa_nil)) rfl) (pss_one (ps_ret (pv 1))))), ?_⟩
    have cnt : ∀ {H : Hp} {k : Nat}, CountV K H (.int (k : Int)) (some (k : Int)) := fun {H k} => .inl ⟨_, rfl, rfl⟩
    have bn := ok.n2
    have b1 := ok.f1
    have b2 := ok.fn
    have b3 := ok.a1
    have b4 := ok.an
    have n6 := ok.std.n60
    refine ⟨.ref p, rfl, p, T.cClu, dx, _, _, rfl, h1, T.clClu, T.naClu_n, fldC_n, .ref p, rfl, p, T.cClu, dx, _, _, rfl, h1, T.clClu, T.naClu_failures, fldC_failures, .ref p, rfl, p, T.cClu, dx, _, _, rfl, h1, T.clClu, T.naClu_factor, fldC_factor, .ref p, rfl, p, T.cClu, dx, _, _, rfl, h1, T.clClu, T.naClu_count, fldC_count, fun p2 dx2 np' ndx nex => ?_⟩
    have sD : Same H (upd (upd H dx2 (.own p2)) p2 (.ins T.cClu dx2 [])) := fun b o e => by
      rw [upd_ne (ne_of_none e np'), upd_ne (ne_of_none e ndx)]
      exact e
    refine ⟨p2, dx2, _, _, _, _, some (n : Int), some (fl : Int), some (fa : Int), some (c : Int), rfl, upd_same, cnt, cnt, cnt, cnt, fun z => ?_, fun n' e _ _ => ?_⟩
    · rw [field_yes (by omega) (by omega)] at z
      cases z
    obtain rfl : n = n' := by have := Option.some.inj e; omega
    refine ⟨fun z => ?_, fun fl' e _ _ => ?_⟩
    · rw [field_yes (by omega) (by omega)] at z
      cases z
    obtain rfl : fl = fl' := by have := Option.some.inj e; omega
    refine ⟨fun z => ?_, fun fa' e _ _ => ?_⟩
    · rw [field_yes (by omega) (by omega)] at z
      cases z
    obtain rfl : fa = fa' := by have := Option.some.inj e; omega
    refine ⟨fun z => ?_, fun c' e _ H9 pl9 b9 npl B9 => ⟨rfl, ?_⟩⟩
    · rw [std_poss ok.std] at z
      cases z
    obtain rfl : c = c' := by have := Option.some.inj e; omega
    have s9 : Same H H9 := fun b o e => b9 b o (ne_of_none e np') (sD b o e)
    have h19 := s9 _ _ h1
    have h29 := s9 _ _ h2
    have h39 := s9 _ _ h3
    obtain ⟨⟨dx3, tl3, g1, g2⟩, us3, g3, g4⟩ := id B9
    refine ⟨.ref p, rfl, p, T.cClu, dx, _, _, rfl, h19, T.clClu, T.naClu_living, fldC_living, .ref p2, rfl, p2, T.cClu, dx3, _, rfl, g1, T.clClu, T.naClu_living, (by show 6 < 1000; decide), ?_⟩
    have n12 : p ≠ p2 := ne_of_none h1 np'
    have b10 : But p2 H9 (upd H9 p2 (.ins T.cClu dx3 (putF "living" (.ref tl) (fldC n fl fa c tl3 pl9)))) := fun b o n e => by rw [upd_ne n]; exact e
    have h1a := b10 _ _ n12 h19
    have h2a := b10 _ _ (ne_of_none h2 np') h29
    have h3a := b10 _ _ (ne_of_none h3 np') h39
    have g1a : (upd H9 p2 (.ins T.cClu dx3 (putF "living" (.ref tl) (fldC n fl fa c tl3 pl9)))) p2 = some (.ins T.cClu dx3 (fldC n fl fa c tl pl9)) := upd_same
    have h4a : PstL (upd H9 p2 (.ins T.cClu dx3 (putF "living" (.ref tl) (fldC n fl fa c tl3 pl9)))) us qs := h4.same fun u xs e => b10 _ _ (ne_of_none e np') (s9 _ _ e)
    generalize upd H9 p2 (.ins T.cClu dx3 (putF "living" (.ref tl) (fldC n fl fa c tl3 pl9))) = HA at b10 h1a h2a h3a g1a h4a ⊢
    refine ⟨.ref p, rfl, p, T.cClu, dx, _, _, rfl, h1a, T.clClu, T.naClu_past, fldC_past, pl, _, rfl, .inl (SqL.of h3a), fun pn npn => ?_⟩
    have s11 := same_new (o := .lst us) npn
    refine ⟨.ref p2, rfl, p2, T.cClu, dx3, _, rfl, s11 _ _ g1a, T.clClu, T.naClu_past, (by show 6 < 1000; decide), ?_⟩
    have npn2 : pn ≠ p2 := (ne_of_none g1a npn).symm
    refine ⟨.ref p2, rfl, q _ p2 pn (fun b o e => ?_) np' ?_ ⟨⟨dx3, tl, upd_same, ?_⟩, us, ?_, ?_⟩⟩
    · rw [upd_ne (ne_of_none e np')]
      exact s11 _ _ (b10 _ _ (ne_of_none e np') (s9 _ _ e))
    · cases e : H pn with
      | none => rfl
      | some o =>
        have := b10 _ _ npn2 (s9 _ _ e)
        rw [npn] at this
        cases this
    · rw [upd_ne (ne_of_none h2 np')]
      exact s11 _ _ h2a
    · rw [upd_ne npn2]
      exact upd_same
    · exact h4a.same fun u xs e => by
        rw [upd_ne (fun z => by rw [z, g1a] at e; cases e)]
        exact s11 _ _ e
end
/-! ### two clusters compared -/
theorem ty_clu {K : PySem.W.Frag} {mg : Str → Option Value} (T : Txt K mg) {H : Hp} {p pl : Addr} {n fl fa c : Nat} {L : List Nat} {qs : List (Nat × Nat)} (B : CluB T.cClu H p pl n fl fa c L qs) : TyX K H (.ref p) (.ref T.cClu) := by
  obtain ⟨⟨dx, tl, h1, h2⟩, _⟩ := B
  exact .base (.ins h1 T.clClu T.kCluA T.kCluB T.kCluC T.kCluD)
def spCluEq (C : Addr) : Sp := fun vs H Q _ => ∃ (p pl p2 pl2 : Addr) (n fl fa c n2 fl2 fa2 c2 : Nat) (L L2 : List Nat) (qs qs2 : List (Nat × Nat)), vs = [.ref p, .ref p2] ∧ CluB C H p pl n fl fa c L qs ∧ CluB C H p2 pl2 n2 fl2 fa2 c2 L2 qs2 ∧ Asc L ∧ (∀ x ∈ L, x < 60) ∧ Asc L2 ∧ (∀ x ∈ L2, x < 60) ∧
  Q (.bl (decide (n = n2) && (decide (fl = fl2) && (decide (fa = fa2) && (decide (c = c2) && decide (L = L2)))))) H
section
variable {P : Program} {w : World} {K : PySem.W.Frag} {mg : Str → Option Value} {base : Heap}
theorem ok_clueq (T : Txt K mg) {j : Nat} : FnOk P w K mg base CX0 (j + 1) T.fCluEq T.fdCluEq ["self", "other"] (spCluEq T.cClu) := by
  refine T.FCluEq.ok scCluEq (fun vs H Q E h => ?_) (fun cdv A outer s H vs Q E hr h => ?_)
  · obtain ⟨p, pl, p2, pl2, n, fl, fa, c, n2, fl2, fa2, c2, L, L2, qs, qs2, rfl, _⟩ := h
    rfl
  · obtain ⟨p, pl, p2, pl2, n, fl, fa, c, n2, fl2, fa2, c2, L, L2, qs, qs2, rfl, B, B2, aL, lL, aL2, lL2, q⟩ := h
    have hu64 : (A.deeper (envOfC "Cluster.__eq__" (defScope sCluEq) s.heap.objs.size T.fCluEq cdv)).units + 64 < cLine := by
      have := hr.un
      omega
    obtain ⟨⟨dx, tl, h1, h2⟩, us, h3, h4⟩ := id B
    obtain ⟨⟨dx2, tl2, g1, g2⟩, us2, g3, g4⟩ := id B2
    refine ⟨_, pss_one (ps_ret (pe_and (pe_callB call_isi (by rfl) T.n_isinstance (by decide +kernel) (pa_cons (pv 1) (pa_cons (pe_glob (v := .ref T.cClu) (by rfl) T.gcClu rfl) pa_nil))) (pe_and (pe_cmpR op_eq (pe_fld (pv 0) rfl) (pe_fld (pv 1) rfl) (nomark _)) (pe_and (pe_cmpR op_eq (pe_fld (pv 0) rfl) (pe_fld (pv 1) rfl) (nomark _)) (pe_and (pe_cmpR op_eq (pe_fld (pv 0) rfl) (pe_fld (pv 1) rfl) (nomark _)) (pe_and (pe_cmpR op_eq (pe_fld (pv 0) rfl) (pe_fld (pv 1) rfl) (nomark _)) (pe_one (pe_cmpR (op_eqDK K hu64) (pe_fld (pv 0) rfl) (pe_fld (pv 1) rfl) (nomark _))))))))), ?_⟩
    refine ⟨.ref p2, rfl, .ref p2, .ref T.cClu, _, _, _, rfl, .own _, ty_clu T B2, T.kCluE, ?_⟩
    refine ⟨_, rfl, iteT ⟨.ref p, rfl, p, T.cClu, dx, _, _, rfl, h1, T.clClu, T.naClu_n, fldC_n, .ref p2, rfl, p2, T.cClu, dx2, _, _, rfl, g1, T.clClu, T.naClu_n, fldC_n, rfl, ?_⟩⟩
    by_cases e1 : n = n2
    rotate_left
    · rw [decide_eq_false (show ¬ V.int (n : Nat) = V.int (n2 : Nat) from fun z => e1 (by injection z with z; omega))]
      rw [decide_eq_false e1] at q
      refine ⟨_, rfl, iteF ?_⟩
      first | exact q | (simpa using q)
    subst e1
    rw [decide_eq_true rfl]
    rw [decide_eq_true (show n = n from rfl)] at q
    refine ⟨_, rfl, iteT ⟨.ref p, rfl, p, T.cClu, dx, _, _, rfl, h1, T.clClu, T.naClu_failures, fldC_failures, .ref p2, rfl, p2, T.cClu, dx2, _, _, rfl, g1, T.clClu, T.naClu_failures, fldC_failures, rfl, ?_⟩⟩
    by_cases e2 : fl = fl2
    rotate_left
    · rw [decide_eq_false (show ¬ V.int (fl : Nat) = V.int (fl2 : Nat) from fun z => e2 (by injection z with z; omega))]
      rw [decide_eq_false e2] at q
      refine ⟨_, rfl, iteF ?_⟩
      first | exact q | (simpa using q)
    subst e2
    rw [decide_eq_true rfl]
    rw [decide_eq_true (show fl = fl from rfl)] at q
    refine ⟨_, rfl, iteT ⟨.ref p, rfl, p, T.cClu, dx, _, _, rfl, h1, T.clClu, T.naClu_factor, fldC_factor, .ref p2, rfl, p2, T.cClu, dx2, _, _, rfl, g1, T.clClu, T.naClu_factor, fldC_factor, rfl, ?_⟩⟩
    by_cases e3 : fa = fa2
    rotate_left
    · rw [decide_eq_false (show ¬ V.int (fa : Nat) = V.int (fa2 : Nat) from fun z => e3 (by injection z with z; omega))]
      rw [decide_eq_false e3] at q
      refine ⟨_, rfl, iteF ?_⟩
      first | exact q | (simpa using q)
    subst e3
    rw [decide_eq_true rfl]
    rw [decide_eq_true (show fa = fa from rfl)] at q
    refine ⟨_, rfl, iteT ⟨.ref p, rfl, p, T.cClu, dx, _, _, rfl, h1, T.clClu, T.naClu_count, fldC_count, .ref p2, rfl, p2, T.cClu, dx2, _, _, rfl, g1, T.clClu, T.naClu_count, fldC_count, rfl, ?_⟩⟩
    by_cases e4 : c = c2
    rotate_left
    · rw [decide_eq_false (show ¬ V.int (c : Nat) = V.int (c2 : Nat) from fun z => e4 (by injection z with z; omega))]
      rw [decide_eq_false e4] at q
      refine ⟨_, rfl, iteF ?_⟩
      first | exact q | (simpa using q)
    subst e4
    rw [decide_eq_true rfl]
    rw [decide_eq_true (show c = c from rfl)] at q
    refine ⟨_, rfl, iteT ⟨.ref p, rfl, p, T.cClu, dx, _, _, rfl, h1, T.clClu, T.naClu_living, fldC_living, .ref p2, rfl, p2, T.cClu, dx2, _, _, rfl, g1, T.clClu, T.naClu_living, fldC_living, ?_⟩⟩
    have sh : ∀ M : List Nat, Asc M → (∀ x ∈ M, x < 60) → Sh 60 80000 (.tuple (natD M)) := fun M aM lM => (sh_list (asc_lenC aM lM) lM).mono (by decide) (by decide)
    refine ⟨.tuple (natD L), .tuple (natD L2), .tup (SqT.of h2) (dp_set _), .tup (SqT.of g2) (dp_set _), (sh L aL lL).shaped (by decide), (sh L2 aL2 lL2).shaped (by decide), ?_⟩
    rw [eqv_natT]
    simpa using q
end
theorem all_mk {l : PySem.W.OpenLaw} {w : World} {K : PySem.W.Frag} {h : Heap} {mg : Str → Option Value} {fa f1 f2 f3 f4 f5 f6 f7 f8 f9 f10 f11 f12 f13 f14 f15 f16 f17 f18 f19 f20 f21 f22 f23 f24 f25 f26 f27 : Addr} (X : K.In h) (G : h.Ns mainGlobals mg) (hfa : mg "law" = some (.ref fa))
    {od1 an1 od2 an2 od3 an3 od4 an4 od5 an5 od6 an6 od7 an7 od8 an8 od9 an9 od10 an10 od11 an11 od12 an12 od13 an13 od14 an14 od15 an15 od16 an16 od17 an17 od18 an18 od19 an19 od20 an20 od21 an21 od22 an22 od23 an23 od24 an24 od25 an25 od26 an26 od27 an27 : Option Addr} {sl1 sl2 sl3 sl4 sl5 sl6 sl7 sl8 sl9 sl10 sl11 sl12 sl13 sl14 sl15 sl16 sl17 sl18 sl19 sl20 sl21 sl22 sl23 sl24 sl25 sl26 sl27 : Array (Option Value)} {oc1 kV1 dc1 pm1 cd1 ct1 oc2 kV2 dc2 pm2 cd2 ct2 oc3 kV3 dc3 pm3 cd3 ct3 oc4 kV4 dc4 pm4 cd4 ct4 oc5 kV5 dc5 pm5 cd5 ct5 oc6 kV6 dc6 pm6 cd6 ct6 oc7 kV7 dc7 pm7 cd7 ct7 oc8 kV8 dc8 pm8 cd8 ct8 oc9 kV9 dc9 pm9 cd9 ct9 oc10 kV10 dc10 pm10 cd10 ct10 oc11 kV11 dc11 pm11 cd11 ct11 oc12 kV12 dc12 pm12 cd12 ct12 oc13 kV13 dc13 pm13 cd13 ct13 oc14 kV14 dc14 pm14 cd14 ct14 oc15 kV15 dc15 pm15 cd15 ct15 oc16 kV16 dc16 pm16 cd16 ct16 oc17 kV17 dc17 pm17 cd17 ct17 oc18 kV18 dc18 pm18 cd18 ct18 oc19 kV19 dc19 pm19 cd19 ct19 oc20 kV20 dc20 pm20 cd20 ct20 oc21 kV21 dc21 pm21 cd21 ct21 oc22 kV22 dc22 pm22 cd22 ct22 oc23 kV23 dc23 pm23 cd23 ct23 oc24 kV24 dc24 pm24 cd24 ct24 oc25 kV25 dc25 pm25 cd25 ct25 oc26 kV26 dc26 pm26 cd26 ct26 oc27 kV27 dc27 pm27 cd27 ct27 : Value}
    {CBase CNoN CNotP CTooS CNoC CNotL CNotD CTooF fi2 fi3 fi4 fi5 fi6 fi7 fi8 : Addr}
    {nm2 q2 : Str} {N2 : Addr} {bs2 : List Value} {sn2 : List Str} {sub2 : List Value} {ab2 : Bool} {col2 : Option Bool} {dd2 : Option Addr} {m0_2 m1_2 m2_2 m3_2 m5_2 : Option Value} {odi2 ani2 : Option Addr} {sli2 : Array (Option Value)} {oci2 kVi2 dci2 pmi2 cdi2 cti2 : Value}
    {nm3 q3 : Str} {N3 : Addr} {bs3 : List Value} {sn3 : List Str} {sub3 : List Value} {ab3 : Bool} {col3 : Option Bool} {dd3 : Option Addr} {m0_3 m1_3 m2_3 m3_3 m5_3 : Option Value} {odi3 ani3 : Option Addr} {sli3 : Array (Option Value)} {oci3 kVi3 dci3 pmi3 cdi3 cti3 : Value}
    {nm4 q4 : Str} {N4 : Addr} {bs4 : List Value} {sn4 : List Str} {sub4 : List Value} {ab4 : Bool} {col4 : Option Bool} {dd4 : Option Addr} {m0_4 m1_4 m2_4 m3_4 m5_4 : Option Value} {odi4 ani4 : Option Addr} {sli4 : Array (Option Value)} {oci4 kVi4 dci4 pmi4 cdi4 cti4 : Value}
    {nm5 q5 : Str} {N5 : Addr} {bs5 : List Value} {sn5 : List Str} {sub5 : List Value} {ab5 : Bool} {col5 : Option Bool} {dd5 : Option Addr} {m0_5 m1_5 m2_5 m3_5 m5_5 : Option Value} {odi5 ani5 : Option Addr} {sli5 : Array (Option Value)} {oci5 kVi5 dci5 pmi5 cdi5 cti5 : Value}
    {nm6 q6 : Str} {N6 : Addr} {bs6 : List Value} {sn6 : List Str} {sub6 : List Value} {ab6 : Bool} {col6 : Option Bool} {dd6 : Option Addr} {m0_6 m1_6 m2_6 m3_6 m5_6 : Option Value} {odi6 ani6 : Option Addr} {sli6 : Array (Option Value)} {oci6 kVi6 dci6 pmi6 cdi6 cti6 : Value}
    {nm7 q7 : Str} {N7 : Addr} {bs7 : List Value} {sn7 : List Str} {sub7 : List Value} {ab7 : Bool} {col7 : Option Bool} {dd7 : Option Addr} {m0_7 m1_7 m2_7 m3_7 m5_7 : Option Value} {odi7 ani7 : Option Addr} {sli7 : Array (Option Value)} {oci7 kVi7 dci7 pmi7 cdi7 cti7 : Value}
    {nm8 q8 : Str} {N8 : Addr} {bs8 : List Value} {sn8 : List Str} {sub8 : List Value} {ab8 : Bool} {col8 : Option Bool} {dd8 : Option Addr} {m0_8 m1_8 m2_8 m3_8 m5_8 : Option Value} {odi8 ani8 : Option Addr} {sli8 : Array (Option Value)} {oci8 kVi8 dci8 pmi8 cdi8 cti8 : Value}
    {CClu : Addr}
    {mf1 mf2 mf3 mf4 mf5 mf6 mf7 mf8 mf9 mf10 mf11 mf12 mf13 mf14 mf15 mf16 : Addr} {mod1 man1 mod2 man2 mod3 man3 mod4 man4 mod5 man5 mod6 man6 mod7 man7 mod8 man8 mod9 man9 mod10 man10 mod11 man11 mod12 man12 mod13 man13 mod14 man14 mod15 man15 mod16 man16 : Option Addr} {msl1 msl2 msl3 msl4 msl5 msl6 msl7 msl8 msl9 msl10 msl11 msl12 msl13 msl14 msl15 msl16 : Array (Option Value)} {moc1 mkV1 mdc1 mpm1 mcd1 mct1 moc2 mkV2 mdc2 mpm2 mcd2 mct2 moc3 mkV3 mdc3 mpm3 mcd3 mct3 moc4 mkV4 mdc4 mpm4 mcd4 mct4 moc5 mkV5 mdc5 mpm5 mcd5 mct5 moc6 mkV6 mdc6 mpm6 mcd6 mct6 moc7 mkV7 mdc7 mpm7 mcd7 mct7 moc8 mkV8 mdc8 mpm8 mcd8 mct8 moc9 mkV9 mdc9 mpm9 mcd9 mct9 moc10 mkV10 mdc10 mpm10 mcd10 mct10 moc11 mkV11 mdc11 mpm11 mcd11 mct11 moc12 mkV12 mdc12 mpm12 mcd12 mct12 moc13 mkV13 mdc13 mpm13 mcd13 mct13 moc14 mkV14 mdc14 mpm14 mcd14 mct14 moc15 mkV15 mdc15 mpm15 mcd15 mct15 moc16 mkV16 mdc16 mpm16 mcd16 mct16 : Value}
    {tk_LEAST_SERVERS tk_MOST_SERVERS : Tok}
    (a1 : PySem.W.nsIn K mainGlobals "_wall" = some (some (.ref f1)))
    (l1 : K.lookup f1 = some ⟨oc1, od1, .func (PySem.W.fnOf "_wall" "_wall" (defArgs sWall) (defBody sWall) (defScope sWall) .none kV1 dc1 pm1 an1 cd1 ct1), sl1⟩)
    (c1 : PySem.W.codeIn K cd1 "_wall" = true)
    (k1 : PySem.W.keepIn K (.ref f1) = true)
    (a2 : PySem.W.nsIn K mainGlobals "is_plain_int" = some (some (.ref f2)))
    (l2 : K.lookup f2 = some ⟨oc2, od2, .func (PySem.W.fnOf "is_plain_int" "is_plain_int" (defArgs sPlain) (defBody sPlain) (defScope sPlain) .none kV2 dc2 pm2 an2 cd2 ct2), sl2⟩)
    (c2 : PySem.W.codeIn K cd2 "is_plain_int" = true)
    (k2 : PySem.W.keepIn K (.ref f2) = true)
    (a3 : PySem.W.nsIn K mainGlobals "level_parts" = some (some (.ref f3)))
    (l3 : K.lookup f3 = some ⟨oc3, od3, .func (PySem.W.fnOf "level_parts" "level_parts" (defArgs sParts) (defBody sParts) (defScope sParts) .none kV3 dc3 pm3 an3 cd3 ct3), sl3⟩)
    (c3 : PySem.W.codeIn K cd3 "level_parts" = true)
    (k3 : PySem.W.keepIn K (.ref f3) = true)
    (a4 : PySem.W.nsIn K mainGlobals "is_possible" = some (some (.ref f4)))
    (l4 : K.lookup f4 = some ⟨oc4, od4, .func (PySem.W.fnOf "is_possible" "is_possible" (defArgs sPoss) (defBody sPoss) (defScope sPoss) .none kV4 dc4 pm4 an4 cd4 ct4), sl4⟩)
    (c4 : PySem.W.codeIn K cd4 "is_possible" = true)
    (k4 : PySem.W.keepIn K (.ref f4) = true)
    (a5 : PySem.W.nsIn K mainGlobals "reach_of" = some (some (.ref f5)))
    (l5 : K.lookup f5 = some ⟨oc5, od5, .func (PySem.W.fnOf "reach_of" "reach_of" (defArgs sReachOf) (defBody sReachOf) (defScope sReachOf) .none kV5 dc5 pm5 an5 cd5 ct5), sl5⟩)
    (c5 : PySem.W.codeIn K cd5 "reach_of" = true)
    (k5 : PySem.W.keepIn K (.ref f5) = true)
    (a6 : PySem.W.nsIn K mainGlobals "check_possible" = some (some (.ref f6)))
    (l6 : K.lookup f6 = some ⟨oc6, od6, .func (PySem.W.fnOf "check_possible" "check_possible" (defArgs sChkP) (defBody sChkP) (defScope sChkP) .none kV6 dc6 pm6 an6 cd6 ct6), sl6⟩)
    (c6 : PySem.W.codeIn K cd6 "check_possible" = true)
    (k6 : PySem.W.keepIn K (.ref f6) = true)
    (a7 : PySem.W.nsIn K mainGlobals "check_number" = some (some (.ref f7)))
    (l7 : K.lookup f7 = some ⟨oc7, od7, .func (PySem.W.fnOf "check_number" "check_number" (defArgs sChkN) (defBody sChkN) (defScope sChkN) .none kV7 dc7 pm7 an7 cd7 ct7), sl7⟩)
    (c7 : PySem.W.codeIn K cd7 "check_number" = true)
    (k7 : PySem.W.keepIn K (.ref f7) = true)
    (a8 : PySem.W.nsIn K mainGlobals "shared" = some (some (.ref f8)))
    (l8 : K.lookup f8 = some ⟨oc8, od8, .func (PySem.W.fnOf "shared" "shared" (defArgs sShared) (defBody sShared) (defScope sShared) .none kV8 dc8 pm8 an8 cd8 ct8), sl8⟩)
    (c8 : PySem.W.codeIn K cd8 "shared" = true)
    (k8 : PySem.W.keepIn K (.ref f8) = true)
    (a9 : PySem.W.nsIn K mainGlobals "held_by_server" = some (some (.ref f9)))
    (l9 : K.lookup f9 = some ⟨oc9, od9, .func (PySem.W.fnOf "held_by_server" "held_by_server" (defArgs sHbSrv) (defBody sHbSrv) (defScope sHbSrv) .none kV9 dc9 pm9 an9 cd9 ct9), sl9⟩)
    (c9 : PySem.W.codeIn K cd9 "held_by_server" = true)
    (k9 : PySem.W.keepIn K (.ref f9) = true)
    (a10 : PySem.W.nsIn K mainGlobals "level_widths" = some (some (.ref f10)))
    (l10 : K.lookup f10 = some ⟨oc10, od10, .func (PySem.W.fnOf "level_widths" "level_widths" (defArgs sWid) (defBody sWid) (defScope sWid) .none kV10 dc10 pm10 an10 cd10 ct10), sl10⟩)
    (c10 : PySem.W.codeIn K cd10 "level_widths" = true)
    (k10 : PySem.W.keepIn K (.ref f10) = true)
    (a11 : PySem.W.nsIn K mainGlobals "follow" = some (some (.ref f11)))
    (l11 : K.lookup f11 = some ⟨oc11, od11, .func (PySem.W.fnOf "follow" "follow" (defArgs sFollow) (defBody sFollow) (defScope sFollow) .none kV11 dc11 pm11 an11 cd11 ct11), sl11⟩)
    (c11 : PySem.W.codeIn K cd11 "follow" = true)
    (k11 : PySem.W.keepIn K (.ref f11) = true)
    (a12 : PySem.W.nsIn K mainGlobals "path" = some (some (.ref f12)))
    (l12 : K.lookup f12 = some ⟨oc12, od12, .func (PySem.W.fnOf "path" "path" (defArgs sPath) (defBody sPath) (defScope sPath) .none kV12 dc12 pm12 an12 cd12 ct12), sl12⟩)
    (c12 : PySem.W.codeIn K cd12 "path" = true)
    (k12 : PySem.W.keepIn K (.ref f12) = true)
    (a13 : PySem.W.nsIn K mainGlobals "joined" = some (some (.ref f13)))
    (l13 : K.lookup f13 = some ⟨oc13, od13, .func (PySem.W.fnOf "joined" "joined" (defArgs sJoined) (defBody sJoined) (defScope sJoined) .none kV13 dc13 pm13 an13 cd13 ct13), sl13⟩)
    (c13 : PySem.W.codeIn K cd13 "joined" = true)
    (k13 : PySem.W.keepIn K (.ref f13) = true)
    (a14 : PySem.W.nsIn K mainGlobals "holders" = some (some (.ref f14)))
    (l14 : K.lookup f14 = some ⟨oc14, od14, .func (PySem.W.fnOf "holders" "holders" (defArgs sHold) (defBody sHold) (defScope sHold) .none kV14 dc14 pm14 an14 cd14 ct14), sl14⟩)
    (c14 : PySem.W.codeIn K cd14 "holders" = true)
    (k14 : PySem.W.keepIn K (.ref f14) = true)
    (a15 : PySem.W.nsIn K mainGlobals "successor" = some (some (.ref f15)))
    (l15 : K.lookup f15 = some ⟨oc15, od15, .func (PySem.W.fnOf "successor" "successor" (defArgs sSucc) (defBody sSucc) (defScope sSucc) .none kV15 dc15 pm15 an15 cd15 ct15), sl15⟩)
    (c15 : PySem.W.codeIn K cd15 "successor" = true)
    (k15 : PySem.W.keepIn K (.ref f15) = true)
    (a16 : PySem.W.nsIn K mainGlobals "check_field" = some (some (.ref f16)))
    (l16 : K.lookup f16 = some ⟨oc16, od16, .func (PySem.W.fnOf "check_field" "check_field" (defArgs sChkF) (defBody sChkF) (defScope sChkF) .none kV16 dc16 pm16 an16 cd16 ct16), sl16⟩)
    (c16 : PySem.W.codeIn K cd16 "check_field" = true)
    (k16 : PySem.W.keepIn K (.ref f16) = true)
    (a17 : PySem.W.nsIn K mainGlobals "_law_stream" = some (some (.ref f17)))
    (l17 : K.lookup f17 = some ⟨oc17, od17, .func (PySem.W.fnOf "_law_stream" "_law_stream" (defArgs sStream) (defBody sStream) (defScope sStream) .none kV17 dc17 pm17 an17 cd17 ct17), sl17⟩)
    (c17 : PySem.W.codeIn K cd17 "_law_stream" = true)
    (k17 : PySem.W.keepIn K (.ref f17) = true)
    (a18 : PySem.W.nsIn K mainGlobals "_law_draw" = some (some (.ref f18)))
    (l18 : K.lookup f18 = some ⟨oc18, od18, .func (PySem.W.fnOf "_law_draw" "_law_draw" (defArgs sDraw) (defBody sDraw) (defScope sDraw) .none kV18 dc18 pm18 an18 cd18 ct18), sl18⟩)
    (c18 : PySem.W.codeIn K cd18 "_law_draw" = true)
    (k18 : PySem.W.keepIn K (.ref f18) = true)
    (a19 : PySem.W.nsIn K mainGlobals "_law_shuffled" = some (some (.ref f19)))
    (l19 : K.lookup f19 = some ⟨oc19, od19, .func (PySem.W.fnOf "_law_shuffled" "_law_shuffled" (defArgs sShuffd) (defBody sShuffd) (defScope sShuffd) .none kV19 dc19 pm19 an19 cd19 ct19), sl19⟩)
    (c19 : PySem.W.codeIn K cd19 "_law_shuffled" = true)
    (k19 : PySem.W.keepIn K (.ref f19) = true)
    (a20 : PySem.W.nsIn K mainGlobals "_law_comb" = some (some (.ref f20)))
    (l20 : K.lookup f20 = some ⟨oc20, od20, .func (PySem.W.fnOf "_law_comb" "_law_comb" (defArgs sComb) (defBody sComb) (defScope sComb) .none kV20 dc20 pm20 an20 cd20 ct20), sl20⟩)
    (c20 : PySem.W.codeIn K cd20 "_law_comb" = true)
    (k20 : PySem.W.keepIn K (.ref f20) = true)
    (a21 : PySem.W.nsIn K mainGlobals "_law_gcd" = some (some (.ref f21)))
    (l21 : K.lookup f21 = some ⟨oc21, od21, .func (PySem.W.fnOf "_law_gcd" "_law_gcd" (defArgs sGcdS) (defBody sGcdS) (defScope sGcdS) .none kV21 dc21 pm21 an21 cd21 ct21), sl21⟩)
    (c21 : PySem.W.codeIn K cd21 "_law_gcd" = true)
    (k21 : PySem.W.keepIn K (.ref f21) = true)
    (a22 : PySem.W.nsIn K mainGlobals "_law_least" = some (some (.ref f22)))
    (l22 : K.lookup f22 = some ⟨oc22, od22, .func (PySem.W.fnOf "_law_least" "_law_least" (defArgs sLeastS) (defBody sLeastS) (defScope sLeastS) .none kV22 dc22 pm22 an22 cd22 ct22), sl22⟩)
    (c22 : PySem.W.codeIn K cd22 "_law_least" = true)
    (k22 : PySem.W.keepIn K (.ref f22) = true)
    (a23 : PySem.W.nsIn K mainGlobals "_law_all" = some (some (.ref f23)))
    (l23 : K.lookup f23 = some ⟨oc23, od23, .func (PySem.W.fnOf "_law_all" "_law_all" (defArgs sAll88) (defBody sAll88) (defScope sAll88) .none kV23 dc23 pm23 an23 cd23 ct23), sl23⟩)
    (c23 : PySem.W.codeIn K cd23 "_law_all" = true)
    (k23 : PySem.W.keepIn K (.ref f23) = true)
    (a24 : PySem.W.nsIn K mainGlobals "_law_received" = some (some (.ref f24)))
    (l24 : K.lookup f24 = some ⟨oc24, od24, .func (PySem.W.fnOf "_law_received" "_law_received" (defArgs sRecd88) (defBody sRecd88) (defScope sRecd88) .none kV24 dc24 pm24 an24 cd24 ct24), sl24⟩)
    (c24 : PySem.W.codeIn K cd24 "_law_received" = true)
    (k24 : PySem.W.keepIn K (.ref f24) = true)
    (a25 : PySem.W.nsIn K mainGlobals "_law_fails" = some (some (.ref f25)))
    (l25 : K.lookup f25 = some ⟨oc25, od25, .func (PySem.W.fnOf "_law_fails" "_law_fails" (defArgs sFails88) (defBody sFails88) (defScope sFails88) .none kV25 dc25 pm25 an25 cd25 ct25), sl25⟩)
    (c25 : PySem.W.codeIn K cd25 "_law_fails" = true)
    (k25 : PySem.W.keepIn K (.ref f25) = true)
    (a26 : PySem.W.nsIn K mainGlobals "_law_recovers" = some (some (.ref f26)))
    (l26 : K.lookup f26 = some ⟨oc26, od26, .func (PySem.W.fnOf "_law_recovers" "_law_recovers" (defArgs sRecov88) (defBody sRecov88) (defScope sRecov88) .none kV26 dc26 pm26 an26 cd26 ct26), sl26⟩)
    (c26 : PySem.W.codeIn K cd26 "_law_recovers" = true)
    (k26 : PySem.W.keepIn K (.ref f26) = true)
    (a27 : PySem.W.nsIn K mainGlobals "law" = some (some (.ref f27)))
    (l27 : K.lookup f27 = some ⟨oc27, od27, .func (PySem.W.fnOf "law" "law" (defArgs sLaw) (defBody sLaw) (defScope sLaw) .none kV27 dc27 pm27 an27 cd27 ct27), sl27⟩)
    (c27 : PySem.W.codeIn K cd27 "law" = true)
    (k27 : PySem.W.keepIn K (.ref f27) = true)
    (ac1 : PySem.W.nsIn K mainGlobals "FailoverError" = some (some (.ref CBase)))
    (bsp : PySem.W.specialIn K (.ref CBase) "__getattribute__" = some (some (.builtin "type.__getattribute__")))
    (bty : PySem.W.typeIn K (.ref CBase) = some (.type "type"))
    (brd : PySem.W.readsIn K CBase (.type "type") = true)
    (bfc : PySem.W.findCls K (.ref CBase) (.type "type") "__init__" = some (.val (.builtin "ValueError.__init__")))
    (bex : PySem.W.subIn K (.ref CBase) (.type "BaseException") = some true)
    (bhd : PySem.W.hasDictIn K CBase = true)
    (ac2 : PySem.W.nsIn K mainGlobals "NoNumber" = some (some (.ref CNoN)))
    (e2_xL : K.lookup CNoN = some (excClassObj nm2 q2 CNoN N2 bs2 [.ref CBase, .type "ValueError", .type "Exception", .type "BaseException", .type "object"] true sn2 sub2 ab2 col2 dd2 m0_2 m1_2 m2_2 m3_2 m5_2 "ValueError.__new__"))
    (e2_sa : PySem.W.findIn K (.ref CNoN) "__setattr__" = some (some (.builtin "object.__setattr__")))
    (e2_ga : PySem.W.findIn K (.ref CNoN) "__getattribute__" = some (some (.builtin "BaseException.__getattribute__")))
    (e2_gg : PySem.W.findIn K (.ref CNoN) "__getattr__" = some none)
    (e2_nb : PySem.W.findIn K (.ref CNoN) "value" = some none)
    (e2_ai : PySem.W.findIn K (.ref CNoN) "__init__" = some (some (.ref fi2)))
    (e2_ti : PySem.W.typeIn K (.ref fi2) = some (.type "function"))
    (e2_li : K.lookup fi2 = some ⟨oci2, odi2, .func (PySem.W.fnOf "__init__" "NoNumber.__init__" (defArgs sNoN) (defBody sNoN) (defScope sNoN) .none kVi2 dci2 pmi2 ani2 cdi2 cti2), sli2⟩)
    (e2_ci : PySem.W.codeIn K cdi2 "NoNumber.__init__" = true)
    (e2_ki : PySem.W.keepIn K (.ref fi2) = true)
    (e2_kC : PySem.W.keepIn K (.ref CNoN) = true)
    (e2_eC : PySem.W.subIn K (.ref CNoN) (.type "BaseException") = some true)
    (e2_tC : PySem.W.typeIn K (.ref CNoN) = some (.type "type"))
    (e2_hC : PySem.W.hasDictIn K CNoN = true)
    (e2_cC : PySem.W.findIn K (.ref CNoN) "__class__" = some (some (.builtin "object.__class__")))
    (e2_gC : PySem.W.specialIn K (.builtin "object.__class__") "__get__" = some (some (.builtin "getset_descriptor.__get__")))
    (e2_kk : PySem.W.takesIn K (.builtin "object.__class__") = some true)
    (e2_mC : PySem.W.mroIn K CNoN (.type "object") = some true)
    (e2_sB : PySem.W.subIn K (.ref CNoN) (.ref CBase) = some true)
    (ac3 : PySem.W.nsIn K mainGlobals "NotPossible" = some (some (.ref CNotP)))
    (e3_xL : K.lookup CNotP = some (excClassObj nm3 q3 CNotP N3 bs3 [.ref CBase, .type "ValueError", .type "Exception", .type "BaseException", .type "object"] true sn3 sub3 ab3 col3 dd3 m0_3 m1_3 m2_3 m3_3 m5_3 "ValueError.__new__"))
    (e3_sa : PySem.W.findIn K (.ref CNotP) "__setattr__" = some (some (.builtin "object.__setattr__")))
    (e3_ga : PySem.W.findIn K (.ref CNotP) "__getattribute__" = some (some (.builtin "BaseException.__getattribute__")))
    (e3_gg : PySem.W.findIn K (.ref CNotP) "__getattr__" = some none)
    (e3_nb : PySem.W.findIn K (.ref CNotP) "count" = some none)
    (e3_ai : PySem.W.findIn K (.ref CNotP) "__init__" = some (some (.ref fi3)))
    (e3_ti : PySem.W.typeIn K (.ref fi3) = some (.type "function"))
    (e3_li : K.lookup fi3 = some ⟨oci3, odi3, .func (PySem.W.fnOf "__init__" "NotPossible.__init__" (defArgs sNotP) (defBody sNotP) (defScope sNotP) .none kVi3 dci3 pmi3 ani3 cdi3 cti3), sli3⟩)
    (e3_ci : PySem.W.codeIn K cdi3 "NotPossible.__init__" = true)
    (e3_ki : PySem.W.keepIn K (.ref fi3) = true)
    (e3_kC : PySem.W.keepIn K (.ref CNotP) = true)
    (e3_eC : PySem.W.subIn K (.ref CNotP) (.type "BaseException") = some true)
    (e3_tC : PySem.W.typeIn K (.ref CNotP) = some (.type "type"))
    (e3_hC : PySem.W.hasDictIn K CNotP = true)
    (e3_cC : PySem.W.findIn K (.ref CNotP) "__class__" = some (some (.builtin "object.__class__")))
    (e3_gC : PySem.W.specialIn K (.builtin "object.__class__") "__get__" = some (some (.builtin "getset_descriptor.__get__")))
    (e3_kk : PySem.W.takesIn K (.builtin "object.__class__") = some true)
    (e3_mC : PySem.W.mroIn K CNotP (.type "object") = some true)
    (e3_sB : PySem.W.subIn K (.ref CNotP) (.ref CBase) = some true)
    (ac4 : PySem.W.nsIn K mainGlobals "TooShort" = some (some (.ref CTooS)))
    (e4_xL : K.lookup CTooS = some (excClassObj nm4 q4 CTooS N4 bs4 [.ref CBase, .type "ValueError", .type "Exception", .type "BaseException", .type "object"] true sn4 sub4 ab4 col4 dd4 m0_4 m1_4 m2_4 m3_4 m5_4 "ValueError.__new__"))
    (e4_sa : PySem.W.findIn K (.ref CTooS) "__setattr__" = some (some (.builtin "object.__setattr__")))
    (e4_ga : PySem.W.findIn K (.ref CTooS) "__getattribute__" = some (some (.builtin "BaseException.__getattribute__")))
    (e4_gg : PySem.W.findIn K (.ref CTooS) "__getattr__" = some none)
    (e4_nb : PySem.W.findIn K (.ref CTooS) "order" = some none)
    (e4_ai : PySem.W.findIn K (.ref CTooS) "__init__" = some (some (.ref fi4)))
    (e4_ti : PySem.W.typeIn K (.ref fi4) = some (.type "function"))
    (e4_li : K.lookup fi4 = some ⟨oci4, odi4, .func (PySem.W.fnOf "__init__" "TooShort.__init__" (defArgs sTooS) (defBody sTooS) (defScope sTooS) .none kVi4 dci4 pmi4 ani4 cdi4 cti4), sli4⟩)
    (e4_ci : PySem.W.codeIn K cdi4 "TooShort.__init__" = true)
    (e4_ki : PySem.W.keepIn K (.ref fi4) = true)
    (e4_kC : PySem.W.keepIn K (.ref CTooS) = true)
    (e4_eC : PySem.W.subIn K (.ref CTooS) (.type "BaseException") = some true)
    (e4_tC : PySem.W.typeIn K (.ref CTooS) = some (.type "type"))
    (e4_hC : PySem.W.hasDictIn K CTooS = true)
    (e4_cC : PySem.W.findIn K (.ref CTooS) "__class__" = some (some (.builtin "object.__class__")))
    (e4_gC : PySem.W.specialIn K (.builtin "object.__class__") "__get__" = some (some (.builtin "getset_descriptor.__get__")))
    (e4_kk : PySem.W.takesIn K (.builtin "object.__class__") = some true)
    (e4_mC : PySem.W.mroIn K CTooS (.type "object") = some true)
    (e4_sB : PySem.W.subIn K (.ref CTooS) (.ref CBase) = some true)
    (ac5 : PySem.W.nsIn K mainGlobals "NoCluster" = some (some (.ref CNoC)))
    (e5_xL : K.lookup CNoC = some (excClassObj nm5 q5 CNoC N5 bs5 [.ref CBase, .type "ValueError", .type "Exception", .type "BaseException", .type "object"] true sn5 sub5 ab5 col5 dd5 m0_5 m1_5 m2_5 m3_5 m5_5 "ValueError.__new__"))
    (e5_sa : PySem.W.findIn K (.ref CNoC) "__setattr__" = some (some (.builtin "object.__setattr__")))
    (e5_ga : PySem.W.findIn K (.ref CNoC) "__getattribute__" = some (some (.builtin "BaseException.__getattribute__")))
    (e5_gg : PySem.W.findIn K (.ref CNoC) "__getattr__" = some none)
    (e5_nb : PySem.W.findIn K (.ref CNoC) "field" = some none)
    (e5_ai : PySem.W.findIn K (.ref CNoC) "__init__" = some (some (.ref fi5)))
    (e5_ti : PySem.W.typeIn K (.ref fi5) = some (.type "function"))
    (e5_li : K.lookup fi5 = some ⟨oci5, odi5, .func (PySem.W.fnOf "__init__" "NoCluster.__init__" (defArgs sNoC) (defBody sNoC) (defScope sNoC) .none kVi5 dci5 pmi5 ani5 cdi5 cti5), sli5⟩)
    (e5_ci : PySem.W.codeIn K cdi5 "NoCluster.__init__" = true)
    (e5_ki : PySem.W.keepIn K (.ref fi5) = true)
    (e5_kC : PySem.W.keepIn K (.ref CNoC) = true)
    (e5_eC : PySem.W.subIn K (.ref CNoC) (.type "BaseException") = some true)
    (e5_tC : PySem.W.typeIn K (.ref CNoC) = some (.type "type"))
    (e5_hC : PySem.W.hasDictIn K CNoC = true)
    (e5_cC : PySem.W.findIn K (.ref CNoC) "__class__" = some (some (.builtin "object.__class__")))
    (e5_gC : PySem.W.specialIn K (.builtin "object.__class__") "__get__" = some (some (.builtin "getset_descriptor.__get__")))
    (e5_kk : PySem.W.takesIn K (.builtin "object.__class__") = some true)
    (e5_mC : PySem.W.mroIn K CNoC (.type "object") = some true)
    (e5_sB : PySem.W.subIn K (.ref CNoC) (.ref CBase) = some true)
    (ac6 : PySem.W.nsIn K mainGlobals "NotLive" = some (some (.ref CNotL)))
    (e6_xL : K.lookup CNotL = some (excClassObj nm6 q6 CNotL N6 bs6 [.ref CBase, .type "ValueError", .type "Exception", .type "BaseException", .type "object"] true sn6 sub6 ab6 col6 dd6 m0_6 m1_6 m2_6 m3_6 m5_6 "ValueError.__new__"))
    (e6_sa : PySem.W.findIn K (.ref CNotL) "__setattr__" = some (some (.builtin "object.__setattr__")))
    (e6_ga : PySem.W.findIn K (.ref CNotL) "__getattribute__" = some (some (.builtin "BaseException.__getattribute__")))
    (e6_gg : PySem.W.findIn K (.ref CNotL) "__getattr__" = some none)
    (e6_nb : PySem.W.findIn K (.ref CNotL) "value" = some none)
    (e6_ai : PySem.W.findIn K (.ref CNotL) "__init__" = some (some (.ref fi6)))
    (e6_ti : PySem.W.typeIn K (.ref fi6) = some (.type "function"))
    (e6_li : K.lookup fi6 = some ⟨oci6, odi6, .func (PySem.W.fnOf "__init__" "NotLive.__init__" (defArgs sNotL) (defBody sNotL) (defScope sNotL) .none kVi6 dci6 pmi6 ani6 cdi6 cti6), sli6⟩)
    (e6_ci : PySem.W.codeIn K cdi6 "NotLive.__init__" = true)
    (e6_ki : PySem.W.keepIn K (.ref fi6) = true)
    (e6_kC : PySem.W.keepIn K (.ref CNotL) = true)
    (e6_eC : PySem.W.subIn K (.ref CNotL) (.type "BaseException") = some true)
    (e6_tC : PySem.W.typeIn K (.ref CNotL) = some (.type "type"))
    (e6_hC : PySem.W.hasDictIn K CNotL = true)
    (e6_cC : PySem.W.findIn K (.ref CNotL) "__class__" = some (some (.builtin "object.__class__")))
    (e6_gC : PySem.W.specialIn K (.builtin "object.__class__") "__get__" = some (some (.builtin "getset_descriptor.__get__")))
    (e6_kk : PySem.W.takesIn K (.builtin "object.__class__") = some true)
    (e6_mC : PySem.W.mroIn K CNotL (.type "object") = some true)
    (e6_sB : PySem.W.subIn K (.ref CNotL) (.ref CBase) = some true)
    (ac7 : PySem.W.nsIn K mainGlobals "NotDead" = some (some (.ref CNotD)))
    (e7_xL : K.lookup CNotD = some (excClassObj nm7 q7 CNotD N7 bs7 [.ref CBase, .type "ValueError", .type "Exception", .type "BaseException", .type "object"] true sn7 sub7 ab7 col7 dd7 m0_7 m1_7 m2_7 m3_7 m5_7 "ValueError.__new__"))
    (e7_sa : PySem.W.findIn K (.ref CNotD) "__setattr__" = some (some (.builtin "object.__setattr__")))
    (e7_ga : PySem.W.findIn K (.ref CNotD) "__getattribute__" = some (some (.builtin "BaseException.__getattribute__")))
    (e7_gg : PySem.W.findIn K (.ref CNotD) "__getattr__" = some none)
    (e7_nb : PySem.W.findIn K (.ref CNotD) "value" = some none)
    (e7_ai : PySem.W.findIn K (.ref CNotD) "__init__" = some (some (.ref fi7)))
    (e7_ti : PySem.W.typeIn K (.ref fi7) = some (.type "function"))
    (e7_li : K.lookup fi7 = some ⟨oci7, odi7, .func (PySem.W.fnOf "__init__" "NotDead.__init__" (defArgs sNotD) (defBody sNotD) (defScope sNotD) .none kVi7 dci7 pmi7 ani7 cdi7 cti7), sli7⟩)
    (e7_ci : PySem.W.codeIn K cdi7 "NotDead.__init__" = true)
    (e7_ki : PySem.W.keepIn K (.ref fi7) = true)
    (e7_kC : PySem.W.keepIn K (.ref CNotD) = true)
    (e7_eC : PySem.W.subIn K (.ref CNotD) (.type "BaseException") = some true)
    (e7_tC : PySem.W.typeIn K (.ref CNotD) = some (.type "type"))
    (e7_hC : PySem.W.hasDictIn K CNotD = true)
    (e7_cC : PySem.W.findIn K (.ref CNotD) "__class__" = some (some (.builtin "object.__class__")))
    (e7_gC : PySem.W.specialIn K (.builtin "object.__class__") "__get__" = some (some (.builtin "getset_descriptor.__get__")))
    (e7_kk : PySem.W.takesIn K (.builtin "object.__class__") = some true)
    (e7_mC : PySem.W.mroIn K CNotD (.type "object") = some true)
    (e7_sB : PySem.W.subIn K (.ref CNotD) (.ref CBase) = some true)
    (ac8 : PySem.W.nsIn K mainGlobals "TooFew" = some (some (.ref CTooF)))
    (e8_xL : K.lookup CTooF = some (excClassObj nm8 q8 CTooF N8 bs8 [.ref CBase, .type "ValueError", .type "Exception", .type "BaseException", .type "object"] true sn8 sub8 ab8 col8 dd8 m0_8 m1_8 m2_8 m3_8 m5_8 "ValueError.__new__"))
    (e8_sa : PySem.W.findIn K (.ref CTooF) "__setattr__" = some (some (.builtin "object.__setattr__")))
    (e8_ga : PySem.W.findIn K (.ref CTooF) "__getattribute__" = some (some (.builtin "BaseException.__getattribute__")))
    (e8_gg : PySem.W.findIn K (.ref CTooF) "__getattr__" = some none)
    (e8_nb : PySem.W.findIn K (.ref CTooF) "alive" = some none)
    (e8_ai : PySem.W.findIn K (.ref CTooF) "__init__" = some (some (.ref fi8)))
    (e8_ti : PySem.W.typeIn K (.ref fi8) = some (.type "function"))
    (e8_li : K.lookup fi8 = some ⟨oci8, odi8, .func (PySem.W.fnOf "__init__" "TooFew.__init__" (defArgs sTooF) (defBody sTooF) (defScope sTooF) .none kVi8 dci8 pmi8 ani8 cdi8 cti8), sli8⟩)
    (e8_ci : PySem.W.codeIn K cdi8 "TooFew.__init__" = true)
    (e8_ki : PySem.W.keepIn K (.ref fi8) = true)
    (e8_kC : PySem.W.keepIn K (.ref CTooF) = true)
    (e8_eC : PySem.W.subIn K (.ref CTooF) (.type "BaseException") = some true)
    (e8_tC : PySem.W.typeIn K (.ref CTooF) = some (.type "type"))
    (e8_hC : PySem.W.hasDictIn K CTooF = true)
    (e8_cC : PySem.W.findIn K (.ref CTooF) "__class__" = some (some (.builtin "object.__class__")))
    (e8_gC : PySem.W.specialIn K (.builtin "object.__class__") "__get__" = some (some (.builtin "getset_descriptor.__get__")))
    (e8_kk : PySem.W.takesIn K (.builtin "object.__class__") = some true)
    (e8_mC : PySem.W.mroIn K CTooF (.type "object") = some true)
    (e8_sB : PySem.W.subIn K (.ref CTooF) (.ref CBase) = some true)
    (al_successor_failures : PySem.W.nsIn K mainGlobals "successor_failures" = some (some (.ref f15)))
    (oc_Clu : PySem.W.nsIn K mainGlobals "Cluster" = some (some (.ref CClu)))
    (opg_Clu : PySem.W.plainGet K CClu Str.empty = true)
    (ohd_Clu : PySem.W.hasDictIn K CClu = true)
    (opo_Clu : PySem.W.plainOver K CClu = true)
    (osa_Clu : PySem.W.findIn K (.ref CClu) "__setattr__" = some (some (.builtin "object.__setattr__")))
    (omk_Clu : PySem.W.makesIn K CClu = true)
    (okc_Clu : PySem.W.keepIn K (.ref CClu) = true)
    (on_Clu_n : PySem.W.findIn K (.ref CClu) "n" = some none)
    (on_Clu_failures : PySem.W.findIn K (.ref CClu) "failures" = some none)
    (on_Clu_factor : PySem.W.findIn K (.ref CClu) "factor" = some none)
    (on_Clu_count : PySem.W.findIn K (.ref CClu) "count" = some none)
    (on_Clu_living : PySem.W.findIn K (.ref CClu) "living" = some none)
    (on_Clu_past : PySem.W.findIn K (.ref CClu) "past" = some none)
    (ma1 : PySem.W.findIn K (.ref CClu) "__init__" = some (some (.ref mf1)))
    (mi1 : PySem.W.isFn K (.ref mf1) = true)
    (ml1 : K.lookup mf1 = some ⟨moc1, mod1, .func (PySem.W.fnOf "__init__" "Cluster.__init__" (defArgs sCluInit) (defBody sCluInit) (defScope sCluInit) .none mkV1 mdc1 mpm1 man1 mcd1 mct1), msl1⟩)
    (mc1 : PySem.W.codeIn K mcd1 "Cluster.__init__" = true)
    (mk1 : PySem.W.keepIn K (.ref mf1) = true)
    (ma2 : PySem.W.findIn K (.ref CClu) "live" = some (some (.ref mf2)))
    (mi2 : PySem.W.isFn K (.ref mf2) = true)
    (ml2 : K.lookup mf2 = some ⟨moc2, mod2, .func (PySem.W.fnOf "live" "Cluster.live" (defArgs sCluLive) (defBody sCluLive) (defScope sCluLive) .none mkV2 mdc2 mpm2 man2 mcd2 mct2), msl2⟩)
    (mc2 : PySem.W.codeIn K mcd2 "Cluster.live" = true)
    (mk2 : PySem.W.keepIn K (.ref mf2) = true)
    (ma3 : PySem.W.findIn K (.ref CClu) "list_of" = some (some (.ref mf3)))
    (mi3 : PySem.W.isFn K (.ref mf3) = true)
    (ml3 : K.lookup mf3 = some ⟨moc3, mod3, .func (PySem.W.fnOf "list_of" "Cluster.list_of" (defArgs sCluListOf) (defBody sCluListOf) (defScope sCluListOf) .none mkV3 mdc3 mpm3 man3 mcd3 mct3), msl3⟩)
    (mc3 : PySem.W.codeIn K mcd3 "Cluster.list_of" = true)
    (mk3 : PySem.W.keepIn K (.ref mf3) = true)
    (ma4 : PySem.W.findIn K (.ref CClu) "owners" = some (some (.ref mf4)))
    (mi4 : PySem.W.isFn K (.ref mf4) = true)
    (ml4 : K.lookup mf4 = some ⟨moc4, mod4, .func (PySem.W.fnOf "owners" "Cluster.owners" (defArgs sCluOwners) (defBody sCluOwners) (defScope sCluOwners) .none mkV4 mdc4 mpm4 man4 mcd4 mct4), msl4⟩)
    (mc4 : PySem.W.codeIn K mcd4 "Cluster.owners" = true)
    (mk4 : PySem.W.keepIn K (.ref mf4) = true)
    (ma5 : PySem.W.findIn K (.ref CClu) "load" = some (some (.ref mf5)))
    (mi5 : PySem.W.isFn K (.ref mf5) = true)
    (ml5 : K.lookup mf5 = some ⟨moc5, mod5, .func (PySem.W.fnOf "load" "Cluster.load" (defArgs sCluLoad) (defBody sCluLoad) (defScope sCluLoad) .none mkV5 mdc5 mpm5 man5 mcd5 mct5), msl5⟩)
    (mc5 : PySem.W.codeIn K mcd5 "Cluster.load" = true)
    (mk5 : PySem.W.keepIn K (.ref mf5) = true)
    (ma6 : PySem.W.findIn K (.ref CClu) "successor" = some (some (.ref mf6)))
    (mi6 : PySem.W.isFn K (.ref mf6) = true)
    (ml6 : K.lookup mf6 = some ⟨moc6, mod6, .func (PySem.W.fnOf "successor" "Cluster.successor" (defArgs sCluSuccessor) (defBody sCluSuccessor) (defScope sCluSuccessor) .none mkV6 mdc6 mpm6 man6 mcd6 mct6), msl6⟩)
    (mc6 : PySem.W.codeIn K mcd6 "Cluster.successor" = true)
    (mk6 : PySem.W.keepIn K (.ref mf6) = true)
    (ma7 : PySem.W.findIn K (.ref CClu) "fail" = some (some (.ref mf7)))
    (mi7 : PySem.W.isFn K (.ref mf7) = true)
    (ml7 : K.lookup mf7 = some ⟨moc7, mod7, .func (PySem.W.fnOf "fail" "Cluster.fail" (defArgs sCluFail) (defBody sCluFail) (defScope sCluFail) .none mkV7 mdc7 mpm7 man7 mcd7 mct7), msl7⟩)
    (mc7 : PySem.W.codeIn K mcd7 "Cluster.fail" = true)
    (mk7 : PySem.W.keepIn K (.ref mf7) = true)
    (ma8 : PySem.W.findIn K (.ref CClu) "recover" = some (some (.ref mf8)))
    (mi8 : PySem.W.isFn K (.ref mf8) = true)
    (ml8 : K.lookup mf8 = some ⟨moc8, mod8, .func (PySem.W.fnOf "recover" "Cluster.recover" (defArgs sCluRecover) (defBody sCluRecover) (defScope sCluRecover) .none mkV8 mdc8 mpm8 man8 mcd8 mct8), msl8⟩)
    (mc8 : PySem.W.codeIn K mcd8 "Cluster.recover" = true)
    (mk8 : PySem.W.keepIn K (.ref mf8) = true)
    (ma9 : PySem.W.findIn K (.ref CClu) "copied" = some (some (.ref mf9)))
    (mi9 : PySem.W.isFn K (.ref mf9) = true)
    (ml9 : K.lookup mf9 = some ⟨moc9, mod9, .func (PySem.W.fnOf "copied" "Cluster.copied" (defArgs sCluCopied) (defBody sCluCopied) (defScope sCluCopied) .none mkV9 mdc9 mpm9 man9 mcd9 mct9), msl9⟩)
    (mc9 : PySem.W.codeIn K mcd9 "Cluster.copied" = true)
    (mk9 : PySem.W.keepIn K (.ref mf9) = true)
    (ma10 : PySem.W.findIn K (.ref CClu) "changes" = some (some (.ref mf10)))
    (mi10 : PySem.W.isFn K (.ref mf10) = true)
    (ml10 : K.lookup mf10 = some ⟨moc10, mod10, .func (PySem.W.fnOf "changes" "Cluster.changes" (defArgs sCluChanges) (defBody sCluChanges) (defScope sCluChanges) .none mkV10 mdc10 mpm10 man10 mcd10 mct10), msl10⟩)
    (mc10 : PySem.W.codeIn K mcd10 "Cluster.changes" = true)
    (mk10 : PySem.W.keepIn K (.ref mf10) = true)
    (ma11 : PySem.W.findIn K (.ref CClu) "copy" = some (some (.ref mf11)))
    (mi11 : PySem.W.isFn K (.ref mf11) = true)
    (ml11 : K.lookup mf11 = some ⟨moc11, mod11, .func (PySem.W.fnOf "copy" "Cluster.copy" (defArgs sCluCopy) (defBody sCluCopy) (defScope sCluCopy) .none mkV11 mdc11 mpm11 man11 mcd11 mct11), msl11⟩)
    (mc11 : PySem.W.codeIn K mcd11 "Cluster.copy" = true)
    (mk11 : PySem.W.keepIn K (.ref mf11) = true)
    (ma12 : PySem.W.findIn K (.ref CClu) "turn" = some (some (.ref mf12)))
    (mi12 : PySem.W.isFn K (.ref mf12) = true)
    (ml12 : K.lookup mf12 = some ⟨moc12, mod12, .func (PySem.W.fnOf "turn" "Cluster.turn" (defArgs sCluTurn) (defBody sCluTurn) (defScope sCluTurn) .none mkV12 mdc12 mpm12 man12 mcd12 mct12), msl12⟩)
    (mc12 : PySem.W.codeIn K mcd12 "Cluster.turn" = true)
    (mk12 : PySem.W.keepIn K (.ref mf12) = true)
    (ma13 : PySem.W.findIn K (.ref CClu) "check_live" = some (some (.ref mf13)))
    (mi13 : PySem.W.isFn K (.ref mf13) = true)
    (ml13 : K.lookup mf13 = some ⟨moc13, mod13, .func (PySem.W.fnOf "check_live" "Cluster.check_live" (defArgs sCluCheckLive) (defBody sCluCheckLive) (defScope sCluCheckLive) .none mkV13 mdc13 mpm13 man13 mcd13 mct13), msl13⟩)
    (mc13 : PySem.W.codeIn K mcd13 "Cluster.check_live" = true)
    (mk13 : PySem.W.keepIn K (.ref mf13) = true)
    (ma14 : PySem.W.findIn K (.ref CClu) "check_can_fail" = some (some (.ref mf14)))
    (mi14 : PySem.W.isFn K (.ref mf14) = true)
    (ml14 : K.lookup mf14 = some ⟨moc14, mod14, .func (PySem.W.fnOf "check_can_fail" "Cluster.check_can_fail" (defArgs sCluCheckCanFail) (defBody sCluCheckCanFail) (defScope sCluCheckCanFail) .none mkV14 mdc14 mpm14 man14 mcd14 mct14), msl14⟩)
    (mc14 : PySem.W.codeIn K mcd14 "Cluster.check_can_fail" = true)
    (mk14 : PySem.W.keepIn K (.ref mf14) = true)
    (ma15 : PySem.W.findIn K (.ref CClu) "__eq__" = some (some (.ref mf15)))
    (mi15 : PySem.W.isFn K (.ref mf15) = true)
    (ml15 : K.lookup mf15 = some ⟨moc15, mod15, .func (PySem.W.fnOf "__eq__" "Cluster.__eq__" (defArgs sCluEq) (defBody sCluEq) (defScope sCluEq) .none mkV15 mdc15 mpm15 man15 mcd15 mct15), msl15⟩)
    (mc15 : PySem.W.codeIn K mcd15 "Cluster.__eq__" = true)
    (mk15 : PySem.W.keepIn K (.ref mf15) = true)
    (ma16 : PySem.W.findIn K (.ref CClu) "__len__" = some (some (.ref mf16)))
    (mi16 : PySem.W.isFn K (.ref mf16) = true)
    (ml16 : K.lookup mf16 = some ⟨moc16, mod16, .func (PySem.W.fnOf "__len__" "Cluster.__len__" (defArgs sCluLen) (defBody sCluLen) (defScope sCluLen) .none mkV16 mdc16 mpm16 man16 mcd16 mct16), msl16⟩)
    (mc16 : PySem.W.codeIn K mcd16 "Cluster.__len__" = true)
    (mk16 : PySem.W.keepIn K (.ref mf16) = true)
    (kt_kitDig : PySem.W.nsIn K cStatics "sys.int_max_str_digits" = some none)
    (kt_kCluA : PySem.W.findIn K (.ref CClu) "__class__" = some (some (.builtin "object.__class__")))
    (kt_kCluB : PySem.W.specialIn K (.builtin "object.__class__") "__get__" = some (some (.builtin "getset_descriptor.__get__")))
    (kt_kCluC : PySem.W.takesIn K (.builtin "object.__class__") = some true)
    (kt_kCluD : PySem.W.mroIn K CClu (.type "object") = some true)
    (kt_kCluE : PySem.W.kitOne K (.ref CClu) (.ref CClu) = some true)
    (gl_LEAST_SERVERS : PySem.W.nsIn K mainGlobals "LEAST_SERVERS" = some (some (.int 2 tk_LEAST_SERVERS)))
    (gl_MOST_SERVERS : PySem.W.nsIn K mainGlobals "MOST_SERVERS" = some (some (.int 60 tk_MOST_SERVERS)))
    (z1 : PySem.W.nsIn K mainGlobals "ValueError" = some none)
    (z2 : PySem.W.nsIn K mainGlobals "abs" = some none)
    (z3 : PySem.W.nsIn K mainGlobals "all" = some none)
    (z4 : PySem.W.nsIn K mainGlobals "bool" = some none)
    (z5 : PySem.W.nsIn K mainGlobals "dict" = some none)
    (z6 : PySem.W.nsIn K mainGlobals "int" = some none)
    (z7 : PySem.W.nsIn K mainGlobals "isinstance" = some none)
    (z8 : PySem.W.nsIn K mainGlobals "len" = some none)
    (z9 : PySem.W.nsIn K mainGlobals "list" = some none)
    (z10 : PySem.W.nsIn K mainGlobals "max" = some none)
    (z11 : PySem.W.nsIn K mainGlobals "min" = some none)
    (z12 : PySem.W.nsIn K mainGlobals "range" = some none)
    (z13 : PySem.W.nsIn K mainGlobals "set" = some none)
    (z14 : PySem.W.nsIn K mainGlobals "sorted" = some none)
    (z15 : PySem.W.nsIn K mainGlobals "tuple" = some none)
    (z16 : PySem.W.nsIn K mainGlobals "zip" = some none)
    : ∃ fd : FuncData, (∀ (s : Shared) (v : Value), BindsTo s fd ⟨[v], []⟩ [("_law_script", v)]) ∧ ∀ base : Heap, K.In base → base.Ns mainGlobals mg → FnG l.prog w K mg base CX0 11 fa fd ["_law_script"] (spLaw K) := by
  have e := hfa.symm.trans (PySem.W.mg_of X G a27)
  cases e
  have F1 := fun_mk (st := sWall) l1 c1 k1
  have b1 := F1.binds (ps := ["k"]) fun _ _ _ _ _ _ us hl => match us, hl with | [_], _ => rfl
  have F2 := fun_mk (st := sPlain) l2 c2 k2
  have b2 := F2.binds (ps := ["thing"]) fun _ _ _ _ _ _ us hl => match us, hl with | [_], _ => rfl
  have F3 := fun_mk (st := sParts) l3 c3 k3
  have b3 := F3.binds (ps := ["n", "depth"]) fun _ _ _ _ _ _ us hl => match us, hl with | [_, _], _ => rfl
  have F4 := fun_mk (st := sPoss) l4 c4 k4
  have b4 := F4.binds (ps := ["n", "depth", "count"]) fun _ _ _ _ _ _ us hl => match us, hl with | [_, _, _], _ => rfl
  have F5 := fun_mk (st := sReachOf) l5 c5 k5
  have b5 := F5.binds (ps := ["n", "failures", "factor"]) fun _ _ _ _ _ _ us hl => match us, hl with | [_, _, _], _ => rfl
  have F6 := fun_mk (st := sChkP) l6 c6 k6
  have b6 := F6.binds (ps := ["n", "depth", "count"]) fun _ _ _ _ _ _ us hl => match us, hl with | [_, _, _], _ => rfl
  have F7 := fun_mk (st := sChkN) l7 c7 k7
  have b7 := F7.binds (ps := ["value", "many"]) fun _ _ _ _ _ _ us hl => match us, hl with | [_, _], _ => rfl
  have F8 := fun_mk (st := sShared) l8 c8 k8
  have b8 := F8.binds (ps := ["total", "parts"]) fun _ _ _ _ _ _ us hl => match us, hl with | [_, _], _ => rfl
  have F9 := fun_mk (st := sHbSrv) l9 c9 k9
  have b9 := F9.binds (ps := ["n", "count", "alive", "factor"]) fun _ _ _ _ _ _ us hl => match us, hl with | [_, _, _, _], _ => rfl
  have F10 := fun_mk (st := sWid) l10 c10 k10
  have b10 := F10.binds (ps := ["n", "depth", "count"]) fun _ _ _ _ _ _ us hl => match us, hl with | [_, _, _], _ => rfl
  have F11 := fun_mk (st := sFollow) l11 c11 k11
  have b11 := F11.binds (ps := ["widths", "servers", "rest"]) fun _ _ _ _ _ _ us hl => match us, hl with | [_, _, _], _ => rfl
  have F12 := fun_mk (st := sPath) l12 c12 k12
  have b12 := F12.binds (ps := ["n", "depth", "count", "number"]) fun _ _ _ _ _ _ us hl => match us, hl with | [_, _, _, _], _ => rfl
  have F13 := fun_mk (st := sJoined) l13 c13 k13
  have b13 := F13.binds (ps := ["members", "server"]) fun _ _ _ _ _ _ us hl => match us, hl with | [_, _], _ => rfl
  have F14 := fun_mk (st := sHold) l14 c14 k14
  have b14 := F14.binds (ps := ["order", "live", "factor"]) fun _ _ _ _ _ _ us hl => match us, hl with | [_, _, _], _ => rfl
  have F15 := fun_mk (st := sSucc) l15 c15 k15
  have b15 := F15.binds (ps := ["order", "live", "factor", "failed"]) fun _ _ _ _ _ _ us hl => match us, hl with | [_, _, _, _], _ => rfl
  have F16 := fun_mk (st := sChkF) l16 c16 k16
  have b16 := F16.binds (ps := ["field", "value", "least", "most"]) fun _ _ _ _ _ _ us hl => match us, hl with | [_, _, _, _], _ => rfl
  have F17 := fun_mk (st := sStream) l17 c17 k17
  have b17 := F17.binds (ps := ["_law_script", "_law_k"]) fun _ _ _ _ _ _ us hl => match us, hl with | [_, _], _ => rfl
  have F18 := fun_mk (st := sDraw) l18 c18 k18
  have b18 := F18.binds (ps := ["_law_stream_here", "_law_below"]) fun _ _ _ _ _ _ us hl => match us, hl with | [_, _], _ => rfl
  have F19 := fun_mk (st := sShuffd) l19 c19 k19
  have b19 := F19.binds (ps := ["_law_stream_here", "_law_items"]) fun _ _ _ _ _ _ us hl => match us, hl with | [_, _], _ => rfl
  have F20 := fun_mk (st := sComb) l20 c20 k20
  have b20 := F20.binds (ps := ["_law_n", "_law_k"]) fun _ _ _ _ _ _ us hl => match us, hl with | [_, _], _ => rfl
  have F21 := fun_mk (st := sGcdS) l21 c21 k21
  have b21 := F21.binds (ps := ["_law_a", "_law_b"]) fun _ _ _ _ _ _ us hl => match us, hl with | [_, _], _ => rfl
  have F22 := fun_mk (st := sLeastS) l22 c22 k22
  have b22 := F22.binds (ps := ["_law_n", "_law_depth"]) fun _ _ _ _ _ _ us hl => match us, hl with | [_, _], _ => rfl
  have F23 := fun_mk (st := sAll88) l23 c23 k23
  have b23 := F23.binds (ps := ["_law_cluster", "_law_total"]) fun _ _ _ _ _ _ us hl => match us, hl with | [_, _], _ => rfl
  have F24 := fun_mk (st := sRecd88) l24 c24 k24
  have b24 := F24.binds (ps := ["_law_before", "_law_after"]) fun _ _ _ _ _ _ us hl => match us, hl with | [_, _], _ => rfl
  have F25 := fun_mk (st := sFails88) l25 c25 k25
  have b25 := F25.binds (ps := ["_law_cluster", "_law_sizes", "_law_server"]) fun _ _ _ _ _ _ us hl => match us, hl with | [_, _, _], _ => rfl
  have F26 := fun_mk (st := sRecov88) l26 c26 k26
  have b26 := F26.binds (ps := ["_law_cluster", "_law_sizes", "_law_server"]) fun _ _ _ _ _ _ us hl => match us, hl with | [_, _, _], _ => rfl
  have F27 := fun_mk (st := sLaw) l27 c27 k27
  have FI2 := fun_mk (st := sNoN) e2_li e2_ci e2_ki
  have bI2 := FI2.binds (ps := ["self", "value"]) fun _ _ _ _ _ _ us hl => match us, hl with | [_, _], _ => rfl
  have ER2 : ErrT K CNoN fi2 "value" CBase := ⟨⟨⟨nm2, q2, N2, bs2, _, sn2, sub2, ab2, col2, dd2, m0_2, m1_2, m2_2, m3_2, m5_2, e2_xL, by first | rfl | decide +kernel⟩, e2_sa, e2_eC, e2_tC, e2_kC⟩, ⟨e2_ga, e2_gg, e2_eC, e2_hC⟩, ⟨e2_ga, e2_gg, e2_eC, e2_hC, e2_cC, e2_gC, e2_kk, e2_mC⟩, e2_nb, e2_ai, e2_ti, PySem.W.exm_ref bex bhd bty e2_sB⟩
  have FI3 := fun_mk (st := sNotP) e3_li e3_ci e3_ki
  have bI3 := FI3.binds (ps := ["self", "count"]) fun _ _ _ _ _ _ us hl => match us, hl with | [_, _], _ => rfl
  have ER3 : ErrT K CNotP fi3 "count" CBase := ⟨⟨⟨nm3, q3, N3, bs3, _, sn3, sub3, ab3, col3, dd3, m0_3, m1_3, m2_3, m3_3, m5_3, e3_xL, by first | rfl | decide +kernel⟩, e3_sa, e3_eC, e3_tC, e3_kC⟩, ⟨e3_ga, e3_gg, e3_eC, e3_hC⟩, ⟨e3_ga, e3_gg, e3_eC, e3_hC, e3_cC, e3_gC, e3_kk, e3_mC⟩, e3_nb, e3_ai, e3_ti, PySem.W.exm_ref bex bhd bty e3_sB⟩
  have FI4 := fun_mk (st := sTooS) e4_li e4_ci e4_ki
  have bI4 := FI4.binds (ps := ["self", "order"]) fun _ _ _ _ _ _ us hl => match us, hl with | [_, _], _ => rfl
  have ER4 : ErrT K CTooS fi4 "order" CBase := ⟨⟨⟨nm4, q4, N4, bs4, _, sn4, sub4, ab4, col4, dd4, m0_4, m1_4, m2_4, m3_4, m5_4, e4_xL, by first | rfl | decide +kernel⟩, e4_sa, e4_eC, e4_tC, e4_kC⟩, ⟨e4_ga, e4_gg, e4_eC, e4_hC⟩, ⟨e4_ga, e4_gg, e4_eC, e4_hC, e4_cC, e4_gC, e4_kk, e4_mC⟩, e4_nb, e4_ai, e4_ti, PySem.W.exm_ref bex bhd bty e4_sB⟩
  have FI5 := fun_mk (st := sNoC) e5_li e5_ci e5_ki
  have bI5 := FI5.binds (ps := ["self", "field"]) fun _ _ _ _ _ _ us hl => match us, hl with | [_, _], _ => rfl
  have ER5 : ErrT K CNoC fi5 "field" CBase := ⟨⟨⟨nm5, q5, N5, bs5, _, sn5, sub5, ab5, col5, dd5, m0_5, m1_5, m2_5, m3_5, m5_5, e5_xL, by first | rfl | decide +kernel⟩, e5_sa, e5_eC, e5_tC, e5_kC⟩, ⟨e5_ga, e5_gg, e5_eC, e5_hC⟩, ⟨e5_ga, e5_gg, e5_eC, e5_hC, e5_cC, e5_gC, e5_kk, e5_mC⟩, e5_nb, e5_ai, e5_ti, PySem.W.exm_ref bex bhd bty e5_sB⟩
  have FI6 := fun_mk (st := sNotL) e6_li e6_ci e6_ki
  have bI6 := FI6.binds (ps := ["self", "value"]) fun _ _ _ _ _ _ us hl => match us, hl with | [_, _], _ => rfl
  have ER6 : ErrT K CNotL fi6 "value" CBase := ⟨⟨⟨nm6, q6, N6, bs6, _, sn6, sub6, ab6, col6, dd6, m0_6, m1_6, m2_6, m3_6, m5_6, e6_xL, by first | rfl | decide +kernel⟩, e6_sa, e6_eC, e6_tC, e6_kC⟩, ⟨e6_ga, e6_gg, e6_eC, e6_hC⟩, ⟨e6_ga, e6_gg, e6_eC, e6_hC, e6_cC, e6_gC, e6_kk, e6_mC⟩, e6_nb, e6_ai, e6_ti, PySem.W.exm_ref bex bhd bty e6_sB⟩
  have FI7 := fun_mk (st := sNotD) e7_li e7_ci e7_ki
  have bI7 := FI7.binds (ps := ["self", "value"]) fun _ _ _ _ _ _ us hl => match us, hl with | [_, _], _ => rfl
  have ER7 : ErrT K CNotD fi7 "value" CBase := ⟨⟨⟨nm7, q7, N7, bs7, _, sn7, sub7, ab7, col7, dd7, m0_7, m1_7, m2_7, m3_7, m5_7, e7_xL, by first | rfl | decide +kernel⟩, e7_sa, e7_eC, e7_tC, e7_kC⟩, ⟨e7_ga, e7_gg, e7_eC, e7_hC⟩, ⟨e7_ga, e7_gg, e7_eC, e7_hC, e7_cC, e7_gC, e7_kk, e7_mC⟩, e7_nb, e7_ai, e7_ti, PySem.W.exm_ref bex bhd bty e7_sB⟩
  have FI8 := fun_mk (st := sTooF) e8_li e8_ci e8_ki
  have bI8 := FI8.binds (ps := ["self", "alive"]) fun _ _ _ _ _ _ us hl => match us, hl with | [_, _], _ => rfl
  have ER8 : ErrT K CTooF fi8 "alive" CBase := ⟨⟨⟨nm8, q8, N8, bs8, _, sn8, sub8, ab8, col8, dd8, m0_8, m1_8, m2_8, m3_8, m5_8, e8_xL, by first | rfl | decide +kernel⟩, e8_sa, e8_eC, e8_tC, e8_kC⟩, ⟨e8_ga, e8_gg, e8_eC, e8_hC⟩, ⟨e8_ga, e8_gg, e8_eC, e8_hC, e8_cC, e8_gC, e8_kk, e8_mC⟩, e8_nb, e8_ai, e8_ti, PySem.W.exm_ref bex bhd bty e8_sB⟩
  have MF1 := fun_mk (st := sCluInit) ml1 mc1 mk1
  have mb1 := MF1.binds (ps := ["self", "n", "failures", "factor", "count"]) fun _ _ _ _ _ _ us hl => match us, hl with | [_, _, _, _, _], _ => rfl
  have MF2 := fun_mk (st := sCluLive) ml2 mc2 mk2
  have mb2 := MF2.binds (ps := ["self"]) fun _ _ _ _ _ _ us hl => match us, hl with | [_], _ => rfl
  have MF3 := fun_mk (st := sCluListOf) ml3 mc3 mk3
  have mb3 := MF3.binds (ps := ["self", "shard"]) fun _ _ _ _ _ _ us hl => match us, hl with | [_, _], _ => rfl
  have MF4 := fun_mk (st := sCluOwners) ml4 mc4 mk4
  have mb4 := MF4.binds (ps := ["self", "shard"]) fun _ _ _ _ _ _ us hl => match us, hl with | [_, _], _ => rfl
  have MF5 := fun_mk (st := sCluLoad) ml5 mc5 mk5
  have mb5 := MF5.binds (ps := ["self", "server"]) fun _ _ _ _ _ _ us hl => match us, hl with | [_, _], _ => rfl
  have MF6 := fun_mk (st := sCluSuccessor) ml6 mc6 mk6
  have mb6 := MF6.binds (ps := ["self", "shard", "server"]) fun _ _ _ _ _ _ us hl => match us, hl with | [_, _, _], _ => rfl
  have MF7 := fun_mk (st := sCluFail) ml7 mc7 mk7
  have mb7 := MF7.binds (ps := ["self", "server"]) fun _ _ _ _ _ _ us hl => match us, hl with | [_, _], _ => rfl
  have MF8 := fun_mk (st := sCluRecover) ml8 mc8 mk8
  have mb8 := MF8.binds (ps := ["self", "server"]) fun _ _ _ _ _ _ us hl => match us, hl with | [_, _], _ => rfl
  have MF9 := fun_mk (st := sCluCopied) ml9 mc9 mk9
  have mb9 := MF9.binds (ps := ["self"]) fun _ _ _ _ _ _ us hl => match us, hl with | [_], _ => rfl
  have MF10 := fun_mk (st := sCluChanges) ml10 mc10 mk10
  have mb10 := MF10.binds (ps := ["self"]) fun _ _ _ _ _ _ us hl => match us, hl with | [_], _ => rfl
  have MF11 := fun_mk (st := sCluCopy) ml11 mc11 mk11
  have mb11 := MF11.binds (ps := ["self"]) fun _ _ _ _ _ _ us hl => match us, hl with | [_], _ => rfl
  have MF12 := fun_mk (st := sCluTurn) ml12 mc12 mk12
  have mb12 := MF12.binds (ps := ["self", "server"]) fun _ _ _ _ _ _ us hl => match us, hl with | [_, _], _ => rfl
  have MF13 := fun_mk (st := sCluCheckLive) ml13 mc13 mk13
  have mb13 := MF13.binds (ps := ["self", "value"]) fun _ _ _ _ _ _ us hl => match us, hl with | [_, _], _ => rfl
  have MF14 := fun_mk (st := sCluCheckCanFail) ml14 mc14 mk14
  have mb14 := MF14.binds (ps := ["self", "value"]) fun _ _ _ _ _ _ us hl => match us, hl with | [_, _], _ => rfl
  have MF15 := fun_mk (st := sCluEq) ml15 mc15 mk15
  have mb15 := MF15.binds (ps := ["self", "other"]) fun _ _ _ _ _ _ us hl => match us, hl with | [_, _], _ => rfl
  have MF16 := fun_mk (st := sCluLen) ml16 mc16 mk16
  have mb16 := MF16.binds (ps := ["self"]) fun _ _ _ _ _ _ us hl => match us, hl with | [_], _ => rfl
  have T : Txt K mg := ⟨f1, _, F1, b1, PySem.W.mg_of X G a1, f2, _, F2, b2, PySem.W.mg_of X G a2, f3, _, F3, b3, PySem.W.mg_of X G a3, f4, _, F4, b4, PySem.W.mg_of X G a4, f5, _, F5, b5, PySem.W.mg_of X G a5, f6, _, F6, b6, PySem.W.mg_of X G a6, f7, _, F7, b7, PySem.W.mg_of X G a7, f8, _, F8, b8, PySem.W.mg_of X G a8, f9, _, F9, b9, PySem.W.mg_of X G a9, f10, _, F10, b10, PySem.W.mg_of X G a10, f11, _, F11, b11, PySem.W.mg_of X G a11, f12, _, F12, b12, PySem.W.mg_of X G a12, f13, _, F13, b13, PySem.W.mg_of X G a13, f14, _, F14, b14, PySem.W.mg_of X G a14, f15, _, F15, b15, PySem.W.mg_of X G a15, f16, _, F16, b16, PySem.W.mg_of X G a16, f17, _, F17, b17, PySem.W.mg_of X G a17, f18, _, F18, b18, PySem.W.mg_of X G a18, f19, _, F19, b19, PySem.W.mg_of X G a19, f20, _, F20, b20, PySem.W.mg_of X G a20, f21, _, F21, b21, PySem.W.mg_of X G a21, f22, _, F22, b22, PySem.W.mg_of X G a22, f23, _, F23, b23, PySem.W.mg_of X G a23, f24, _, F24, b24, PySem.W.mg_of X G a24, f25, _, F25, b25, PySem.W.mg_of X G a25, f26, _, F26, b26, PySem.W.mg_of X G a26, CBase, PySem.W.mg_of X G ac1, ⟨bsp, bty, brd, bfc⟩, CNoN, PySem.W.mg_of X G ac2, fi2, _, FI2, bI2, ER2, CNotP, PySem.W.mg_of X G ac3, fi3, _, FI3, bI3, ER3, CTooS, PySem.W.mg_of X G ac4, fi4, _, FI4, bI4, ER4, CNoC, PySem.W.mg_of X G ac5, fi5, _, FI5, bI5, ER5, CNotL, PySem.W.mg_of X G ac6, fi6, _, FI6, bI6, ER6, CNotD, PySem.W.mg_of X G ac7, fi7, _, FI7, bI7, ER7, CTooF, PySem.W.mg_of X G ac8, fi8, _, FI8, bI8, ER8, PySem.W.mg_of X G al_successor_failures, CClu, PySem.W.mg_of X G oc_Clu, ⟨opg_Clu, ohd_Clu, opo_Clu, osa_Clu⟩, on_Clu_n, on_Clu_failures, on_Clu_factor, on_Clu_count, on_Clu_living, on_Clu_past, mf1, _, MF1, mb1, ⟨ma1, mi1, mk1⟩, ⟨omk_Clu, ma1, mi1, okc_Clu⟩, mf2, _, MF2, mb2, ⟨ma2, mi2, mk2⟩, mf3, _, MF3, mb3, ⟨ma3, mi3, mk3⟩, mf4, _, MF4, mb4, ⟨ma4, mi4, mk4⟩, mf5, _, MF5, mb5, ⟨ma5, mi5, mk5⟩, mf6, _, MF6, mb6, ⟨ma6, mi6, mk6⟩, mf7, _, MF7, mb7, ⟨ma7, mi7, mk7⟩, mf8, _, MF8, mb8, ⟨ma8, mi8, mk8⟩, mf9, _, MF9, mb9, ⟨ma9, mi9, mk9⟩, mf10, _, MF10, mb10, ⟨ma10, mi10, mk10⟩, mf11, _, MF11, mb11, ⟨ma11, mi11, mk11⟩, mf12, _, MF12, mb12, ⟨ma12, mi12, mk12⟩, mf13, _, MF13, mb13, ⟨ma13, mi13, mk13⟩, mf14, _, MF14, mb14, ⟨ma14, mi14, mk14⟩, mf15, _, MF15, mb15, ⟨ma15, mi15, mk15⟩, mf16, _, MF16, mb16, ⟨ma16, mi16, mk16⟩, kt_kitDig, kt_kCluA, kt_kCluB, kt_kCluC, kt_kCluD, kt_kCluE, tk_LEAST_SERVERS, PySem.W.mg_of X G gl_LEAST_SERVERS, tk_MOST_SERVERS, PySem.W.mg_of X G gl_MOST_SERVERS, PySem.W.mg_none_of X G z1, PySem.W.mg_none_of X G z2, PySem.W.mg_none_of X G z3, PySem.W.mg_none_of X G z4, PySem.W.mg_none_of X G z5, PySem.W.mg_none_of X G z6, PySem.W.mg_none_of X G z7, PySem.W.mg_none_of X G z8, PySem.W.mg_none_of X G z9, PySem.W.mg_none_of X G z10, PySem.W.mg_none_of X G z11, PySem.W.mg_none_of X G z12, PySem.W.mg_none_of X G z13, PySem.W.mg_none_of X G z14, PySem.W.mg_none_of X G z15, PySem.W.mg_none_of X G z16⟩
  exact ⟨PySem.W.fnOf "law" "law" (defArgs sLaw) (defBody sLaw) (defScope sLaw) .none kV27 dc27 pm27 an27 cd27 ct27, fun s v => .of_eq rfl, fun base _ _ => ok_law F27 T⟩
end Ef
open PySem PySem.W PyProof.Rows
set_option maxRecDepth 100000 in
set_option maxHeartbeats 0 in
theorem PySem.Challenge.cw_evenfailover_k88_whole_each_failure_is_s_holds : PySem.Challenge.rw_evenfailover_k88_whole_each_failure_is_s.Holds := by
  w_on; o_law; k_head; (case hw => w_witness2)
  k_fill
  refine Ef.lawG (l := PySem.Challenge.rw_evenfailover_k88_whole_each_failure_is_s) (n := 63) (k := 11) (x := "_law_script") (sp := fun w => Ef.spLaw _) rfl (by decide) rfl ⟨rfl, by decide, by decide⟩ (fun w h Y => PySem.W.kIn_of Y) ?F (fun _ _ a ns hl _ hS => ⟨a, ns, rfl, hS, hl, fun _ => rfl⟩)
  case F =>
    intro w mg fa h KX G hmg
    refine' Ef.all_mk KX G hmg ?a1 ?l1 ?c1 ?k1 ?a2 ?l2 ?c2 ?k2 ?a3 ?l3 ?c3 ?k3 ?a4 ?l4 ?c4 ?k4 ?a5 ?l5 ?c5 ?k5 ?a6 ?l6 ?c6 ?k6 ?a7 ?l7 ?c7 ?k7 ?a8 ?l8 ?c8 ?k8 ?a9 ?l9 ?c9 ?k9 ?a10 ?l10 ?c10 ?k10 ?a11 ?l11 ?c11 ?k11 ?a12 ?l12 ?c12 ?k12 ?a13 ?l13 ?c13 ?k13 ?a14 ?l14 ?c14 ?k14 ?a15 ?l15 ?c15 ?k15 ?a16 ?l16 ?c16 ?k16 ?a17 ?l17 ?c17 ?k17 ?a18 ?l18 ?c18 ?k18 ?a19 ?l19 ?c19 ?k19 ?a20 ?l20 ?c20 ?k20 ?a21 ?l21 ?c21 ?k21 ?a22 ?l22 ?c22 ?k22 ?a23 ?l23 ?c23 ?k23 ?a24 ?l24 ?c24 ?k24 ?a25 ?l25 ?c25 ?k25 ?a26 ?l26 ?c26 ?k26 ?a27 ?l27 ?c27 ?k27 ?ac1 ?bsp ?bty ?brd ?bfc ?bex ?bhd ?ac2 ?e2_xL ?e2_sa ?e2_ga ?e2_gg ?e2_nb ?e2_ai ?e2_ti ?e2_li ?e2_ci ?e2_ki ?e2_kC ?e2_eC ?e2_tC ?e2_hC ?e2_cC ?e2_gC ?e2_kk ?e2_mC ?e2_sB ?ac3 ?e3_xL ?e3_sa ?e3_ga ?e3_gg ?e3_nb ?e3_ai ?e3_ti ?e3_li ?e3_ci ?e3_ki ?e3_kC ?e3_eC ?e3_tC ?e3_hC ?e3_cC ?e3_gC ?e3_kk ?e3_mC ?e3_sB ?ac4 ?e4_xL ?e4_sa ?e4_ga ?e4_gg ?e4_nb ?e4_ai ?e4_ti ?e4_li ?e4_ci ?e4_ki ?e4_kC ?e4_eC ?e4_tC ?e4_hC ?e4_cC ?e4_gC ?e4_kk ?e4_mC ?e4_sB ?ac5 ?e5_xL ?e5_sa ?e5_ga ?e5_gg ?e5_nb ?e5_ai ?e5_ti ?e5_li ?e5_ci ?e5_ki ?e5_kC ?e5_eC ?e5_tC ?e5_hC ?e5_cC ?e5_gC ?e5_kk ?e5_mC ?e5_sB ?ac6 ?e6_xL ?e6_sa ?e6_ga ?e6_gg ?e6_nb ?e6_ai ?e6_ti ?e6_li ?e6_ci ?e6_ki ?e6_kC ?e6_eC ?e6_tC ?e6_hC ?e6_cC ?e6_gC ?e6_kk ?e6_mC ?e6_sB ?ac7 ?e7_xL ?e7_sa ?e7_ga ?e7_gg ?e7_nb ?e7_ai ?e7_ti ?e7_li ?e7_ci ?e7_ki ?e7_kC ?e7_eC ?e7_tC ?e7_hC ?e7_cC ?e7_gC ?e7_kk ?e7_mC ?e7_sB ?ac8 ?e8_xL ?e8_sa ?e8_ga ?e8_gg ?e8_nb ?e8_ai ?e8_ti ?e8_li ?e8_ci ?e8_ki ?e8_kC ?e8_eC ?e8_tC ?e8_hC ?e8_cC ?e8_gC ?e8_kk ?e8_mC ?e8_sB ?al_successor_failures ?oc_Clu ?opg_Clu ?ohd_Clu ?opo_Clu ?osa_Clu ?omk_Clu ?okc_Clu ?on_Clu_n ?on_Clu_failures ?on_Clu_factor ?on_Clu_count ?on_Clu_living ?on_Clu_past ?ma1 ?mi1 ?ml1 ?mc1 ?mk1 ?ma2 ?mi2 ?ml2 ?mc2 ?mk2 ?ma3 ?mi3 ?ml3 ?mc3 ?mk3 ?ma4 ?mi4 ?ml4 ?mc4 ?mk4 ?ma5 ?mi5 ?ml5 ?mc5 ?mk5 ?ma6 ?mi6 ?ml6 ?mc6 ?mk6 ?ma7 ?mi7 ?ml7 ?mc7 ?mk7 ?ma8 ?mi8 ?ml8 ?mc8 ?mk8 ?ma9 ?mi9 ?ml9 ?mc9 ?mk9 ?ma10 ?mi10 ?ml10 ?mc10 ?mk10 ?ma11 ?mi11 ?ml11 ?mc11 ?mk11 ?ma12 ?mi12 ?ml12 ?mc12 ?mk12 ?ma13 ?mi13 ?ml13 ?mc13 ?mk13 ?ma14 ?mi14 ?ml14 ?mc14 ?mk14 ?ma15 ?mi15 ?ml15 ?mc15 ?mk15 ?ma16 ?mi16 ?ml16 ?mc16 ?mk16 ?kt_kitDig ?kt_kCluA ?kt_kCluB ?kt_kCluC ?kt_kCluD ?kt_kCluE ?gl_LEAST_SERVERS ?gl_MOST_SERVERS ?z1 ?z2 ?z3 ?z4 ?z5 ?z6 ?z7 ?z8 ?z9 ?z10 ?z11 ?z12 ?z13 ?z14 ?z15 ?z16
    (case a1 => k_is)
    (case l1 => k_is)
    (case c1 => k_is)
    (case k1 => k_is)
    (case a2 => k_is)
    (case l2 => k_is)
    (case c2 => k_is)
    (case k2 => k_is)
    (case a3 => k_is)
    (case l3 => k_is)
    (case c3 => k_is)
    (case k3 => k_is)
    (case a4 => k_is)
    (case l4 => k_is)
    (case c4 => k_is)
    (case k4 => k_is)
    (case a5 => k_is)
    (case l5 => k_is)
    (case c5 => k_is)
    (case k5 => k_is)
    (case a6 => k_is)
    (case l6 => k_is)
    (case c6 => k_is)
    (case k6 => k_is)
    (case a7 => k_is)
    (case l7 => k_is)
    (case c7 => k_is)
    (case k7 => k_is)
    (case a8 => k_is)
    (case l8 => k_is)
    (case c8 => k_is)
    (case k8 => k_is)
    (case a9 => k_is)
    (case l9 => k_is)
    (case c9 => k_is)
    (case k9 => k_is)
    (case a10 => k_is)
    (case l10 => k_is)
    (case c10 => k_is)
    (case k10 => k_is)
    (case a11 => k_is)
    (case l11 => k_is)
    (case c11 => k_is)
    (case k11 => k_is)
    (case a12 => k_is)
    (case l12 => k_is)
    (case c12 => k_is)
    (case k12 => k_is)
    (case a13 => k_is)
    (case l13 => k_is)
    (case c13 => k_is)
    (case k13 => k_is)
    (case a14 => k_is)
    (case l14 => k_is)
    (case c14 => k_is)
    (case k14 => k_is)
    (case a15 => k_is)
    (case l15 => k_is)
    (case c15 => k_is)
    (case k15 => k_is)
    (case a16 => k_is)
    (case l16 => k_is)
    (case c16 => k_is)
    (case k16 => k_is)
    (case a17 => k_is)
    (case l17 => k_is)
    (case c17 => k_is)
    (case k17 => k_is)
    (case a18 => k_is)
    (case l18 => k_is)
    (case c18 => k_is)
    (case k18 => k_is)
    (case a19 => k_is)
    (case l19 => k_is)
    (case c19 => k_is)
    (case k19 => k_is)
    (case a20 => k_is)
    (case l20 => k_is)
    (case c20 => k_is)
    (case k20 => k_is)
    (case a21 => k_is)
    (case l21 => k_is)
    (case c21 => k_is)
    (case k21 => k_is)
    (case a22 => k_is)
    (case l22 => k_is)
    (case c22 => k_is)
    (case k22 => k_is)
    (case a23 => k_is)
    (case l23 => k_is)
    (case c23 => k_is)
    (case k23 => k_is)
    (case a24 => k_is)
    (case l24 => k_is)
    (case c24 => k_is)
    (case k24 => k_is)
    (case a25 => k_is)
    (case l25 => k_is)
    (case c25 => k_is)
    (case k25 => k_is)
    (case a26 => k_is)
    (case l26 => k_is)
    (case c26 => k_is)
    (case k26 => k_is)
    (case a27 => k_is)
    (case l27 => k_is)
    (case c27 => k_is)
    (case k27 => k_is)
    (case ac1 => k_is)
    (case bsp => k_is)
    (case bty => k_is)
    (case brd => k_is)
    (case bfc => k_is)
    (case bex => k_is)
    (case bhd => k_is)
    (case ac2 => k_is)
    (case e2_xL => k_is)
    (case e2_sa => k_is)
    (case e2_ga => k_is)
    (case e2_gg => k_is)
    (case e2_nb => k_is)
    (case e2_ai => k_is)
    (case e2_ti => k_is)
    (case e2_li => k_is)
    (case e2_ci => k_is)
    (case e2_ki => k_is)
    (case e2_kC => k_is)
    (case e2_eC => k_is)
    (case e2_tC => k_is)
    (case e2_hC => k_is)
    (case e2_cC => k_is)
    (case e2_gC => k_is)
    (case e2_kk => k_is)
    (case e2_mC => k_is)
    (case e2_sB => first | k_is | rfl | k_exc | kernel_rfl)
    (case ac3 => k_is)
    (case e3_xL => k_is)
    (case e3_sa => k_is)
    (case e3_ga => k_is)
    (case e3_gg => k_is)
    (case e3_nb => k_is)
    (case e3_ai => k_is)
    (case e3_ti => k_is)
    (case e3_li => k_is)
    (case e3_ci => k_is)
    (case e3_ki => k_is)
    (case e3_kC => k_is)
    (case e3_eC => k_is)
    (case e3_tC => k_is)
    (case e3_hC => k_is)
    (case e3_cC => k_is)
    (case e3_gC => k_is)
    (case e3_kk => k_is)
    (case e3_mC => k_is)
    (case e3_sB => first | k_is | rfl | k_exc | kernel_rfl)
    (case ac4 => k_is)
    (case e4_xL => k_is)
    (case e4_sa => k_is)
    (case e4_ga => k_is)
    (case e4_gg => k_is)
    (case e4_nb => k_is)
    (case e4_ai => k_is)
    (case e4_ti => k_is)
    (case e4_li => k_is)
    (case e4_ci => k_is)
    (case e4_ki => k_is)
    (case e4_kC => k_is)
    (case e4_eC => k_is)
    (case e4_tC => k_is)
    (case e4_hC => k_is)
    (case e4_cC => k_is)
    (case e4_gC => k_is)
    (case e4_kk => k_is)
    (case e4_mC => k_is)
    (case e4_sB => first | k_is | rfl | k_exc | kernel_rfl)
    (case ac5 => k_is)
    (case e5_xL => k_is)
    (case e5_sa => k_is)
    (case e5_ga => k_is)
    (case e5_gg => k_is)
    (case e5_nb => k_is)
    (case e5_ai => k_is)
    (case e5_ti => k_is)
    (case e5_li => k_is)
    (case e5_ci => k_is)
    (case e5_ki => k_is)
    (case e5_kC => k_is)
    (case e5_eC => k_is)
    (case e5_tC => k_is)
    (case e5_hC => k_is)
    (case e5_cC => k_is)
    (case e5_gC => k_is)
    (case e5_kk => k_is)
    (case e5_mC => k_is)
    (case e5_sB => first | k_is | rfl | k_exc | kernel_rfl)
    (case ac6 => k_is)
    (case e6_xL => k_is)
    (case e6_sa => k_is)
    (case e6_ga => k_is)
    (case e6_gg => k_is)
    (case e6_nb => k_is)
    (case e6_ai => k_is)
    (case e6_ti => k_is)
    (case e6_li => k_is)
    (case e6_ci => k_is)
    (case e6_ki => k_is)
    (case e6_kC => k_is)
    (case e6_eC => k_is)
    (case e6_tC => k_is)
    (case e6_hC => k_is)
    (case e6_cC => k_is)
    (case e6_gC => k_is)
    (case e6_kk => k_is)
    (case e6_mC => k_is)
    (case e6_sB => first | k_is | rfl | k_exc | kernel_rfl)
    (case ac7 => k_is)
    (case e7_xL => k_is)
    (case e7_sa => k_is)
    (case e7_ga => k_is)
    (case e7_gg => k_is)
    (case e7_nb => k_is)
    (case e7_ai => k_is)
    (case e7_ti => k_is)
    (case e7_li => k_is)
    (case e7_ci => k_is)
    (case e7_ki => k_is)
    (case e7_kC => k_is)
    (case e7_eC => k_is)
    (case e7_tC => k_is)
    (case e7_hC => k_is)
    (case e7_cC => k_is)
    (case e7_gC => k_is)
    (case e7_kk => k_is)
    (case e7_mC => k_is)
    (case e7_sB => first | k_is | rfl | k_exc | kernel_rfl)
    (case ac8 => k_is)
    (case e8_xL => k_is)
    (case e8_sa => k_is)
    (case e8_ga => k_is)
    (case e8_gg => k_is)
    (case e8_nb => k_is)
    (case e8_ai => k_is)
    (case e8_ti => k_is)
    (case e8_li => k_is)
    (case e8_ci => k_is)
    (case e8_ki => k_is)
    (case e8_kC => k_is)
    (case e8_eC => k_is)
    (case e8_tC => k_is)
    (case e8_hC => k_is)
    (case e8_cC => k_is)
    (case e8_gC => k_is)
    (case e8_kk => k_is)
    (case e8_mC => k_is)
    (case e8_sB => first | k_is | rfl | k_exc | kernel_rfl)
    (case al_successor_failures => k_is)
    (case oc_Clu => k_is)
    (case opg_Clu => k_is)
    (case ohd_Clu => k_is)
    (case opo_Clu => k_is)
    (case osa_Clu => k_is)
    (case omk_Clu => k_is)
    (case okc_Clu => k_is)
    (case on_Clu_n => k_is)
    (case on_Clu_failures => k_is)
    (case on_Clu_factor => k_is)
    (case on_Clu_count => k_is)
    (case on_Clu_living => k_is)
    (case on_Clu_past => k_is)
    (case ma1 => k_is)
    (case mi1 => k_is)
    (case ml1 => k_is)
    (case mc1 => k_is)
    (case mk1 => k_is)
    (case ma2 => k_is)
    (case mi2 => k_is)
    (case ml2 => k_is)
    (case mc2 => k_is)
    (case mk2 => k_is)
    (case ma3 => k_is)
    (case mi3 => k_is)
    (case ml3 => k_is)
    (case mc3 => k_is)
    (case mk3 => k_is)
    (case ma4 => k_is)
    (case mi4 => k_is)
    (case ml4 => k_is)
    (case mc4 => k_is)
    (case mk4 => k_is)
    (case ma5 => k_is)
    (case mi5 => k_is)
    (case ml5 => k_is)
    (case mc5 => k_is)
    (case mk5 => k_is)
    (case ma6 => k_is)
    (case mi6 => k_is)
    (case ml6 => k_is)
    (case mc6 => k_is)
    (case mk6 => k_is)
    (case ma7 => k_is)
    (case mi7 => k_is)
    (case ml7 => k_is)
    (case mc7 => k_is)
    (case mk7 => k_is)
    (case ma8 => k_is)
    (case mi8 => k_is)
    (case ml8 => k_is)
    (case mc8 => k_is)
    (case mk8 => k_is)
    (case ma9 => k_is)
    (case mi9 => k_is)
    (case ml9 => k_is)
    (case mc9 => k_is)
    (case mk9 => k_is)
    (case ma10 => k_is)
    (case mi10 => k_is)
    (case ml10 => k_is)
    (case mc10 => k_is)
    (case mk10 => k_is)
    (case ma11 => k_is)
    (case mi11 => k_is)
    (case ml11 => k_is)
    (case mc11 => k_is)
    (case mk11 => k_is)
    (case ma12 => k_is)
    (case mi12 => k_is)
    (case ml12 => k_is)
    (case mc12 => k_is)
    (case mk12 => k_is)
    (case ma13 => k_is)
    (case mi13 => k_is)
    (case ml13 => k_is)
    (case mc13 => k_is)
    (case mk13 => k_is)
    (case ma14 => k_is)
    (case mi14 => k_is)
    (case ml14 => k_is)
    (case mc14 => k_is)
    (case mk14 => k_is)
    (case ma15 => k_is)
    (case mi15 => k_is)
    (case ml15 => k_is)
    (case mc15 => k_is)
    (case mk15 => k_is)
    (case ma16 => k_is)
    (case mi16 => k_is)
    (case ml16 => k_is)
    (case mc16 => k_is)
    (case mk16 => k_is)
    (case kt_kitDig => first | k_is | rfl | k_exc | kernel_rfl)
    (case kt_kCluA => first | k_is | rfl | k_exc | kernel_rfl)
    (case kt_kCluB => first | k_is | rfl | k_exc | kernel_rfl)
    (case kt_kCluC => first | k_is | rfl | k_exc | kernel_rfl)
    (case kt_kCluD => first | k_is | rfl | k_exc | kernel_rfl)
    (case kt_kCluE => first | k_is | rfl | k_exc | kernel_rfl)
    (case gl_LEAST_SERVERS => k_is)
    (case gl_MOST_SERVERS => k_is)
    (case z1 => k_is)
    (case z2 => k_is)
    (case z3 => k_is)
    (case z4 => k_is)
    (case z5 => k_is)
    (case z6 => k_is)
    (case z7 => k_is)
    (case z8 => k_is)
    (case z9 => k_is)
    (case z10 => k_is)
    (case z11 => k_is)
    (case z12 => k_is)
    (case z13 => k_is)
    (case z14 => k_is)
    (case z15 => k_is)
    (case z16 => k_is)

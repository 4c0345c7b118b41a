import PyProof.Rows.All
import Wide.All
import OpenK.AllK
import Wide.FinOn
import HandS.ForMost
import HandS.RaiseMore
import HandS.Strs
import HandS.SetFor
import HandS.Conv
import HandS.Wide
import HandS.IsInst
import HandS.Codes
import HandS.TupAny
import HandS.ForExc
import HandS.ExcInit
import HandS.ExcField
import HandS.ExcIs
import HandS.ExcOwn
import HandS.TupSets
import HandS.Walk
import HandS.RevRange
import HandS.Rev
import HandS.Style
import HandS.DictComp
import KE.GoesMore
import HandS.Flt
import HandS.Small
import PyProof.StrOps2
import HandS.Text
import HandS.StrMore
import PyProof.Rows.StrSplitCount
import PyProof.StrLawsChain
import HandS.Deep
import KE.SortData
import HandS.Comp
import PyProof.NeKinds
import PyProof.EqKinds
import HandS.SortKw
import KE.DataMinMax
import KE.KIntText
import PyProof.Rows.Digits
import HandS.Lambda
import HandS.EndTab
import PySem.Challenge.RW_evenfailover_k51_table_texts_changed_any
set_option Elab.async false
set_option linter.all false
set_option maxRecDepth 100000
set_option maxHeartbeats 4000000
namespace Ef
/-- Pascal's triangle -/
def C : Nat → Nat → Nat
  | _, 0 => 1
  | 0, _ + 1 => 0
  | n + 1, k + 1 => C n k + C n (k + 1)
theorem C_zero (n : Nat) : C n 0 = 1 := by cases n <;> rfl
theorem C_zs (k : Nat) : C 0 (k + 1) = 0 := rfl
theorem C_ss (n k : Nat) : C (n + 1) (k + 1) = C n k + C n (k + 1) := rfl
theorem C_big : ∀ (n k : Nat), n < k → C n k = 0
  | 0, k + 1, _ => rfl
  | n + 1, k + 1, h => by
    rw [C_ss, C_big n k (by omega), C_big n (k + 1) (by omega)]
theorem C_self : ∀ n : Nat, C n n = 1
  | 0 => rfl
  | n + 1 => by rw [C_ss, C_self n, C_big n (n + 1) (by omega)]
theorem C_absorb : ∀ (n k : Nat), C (n + 1) (k + 1) * (k + 1) = (n + 1) * C n k
  | 0, 0 => rfl
  | 0, k + 1 => by
    rw [C_ss, C_zs, C_zs]; simp
  | n + 1, 0 => by
    have h := C_absorb n 0
    rw [C_zero] at h
    rw [C_ss, C_zero]
    omega
  | n + 1, j + 1 => by
    have h1 := C_absorb n j
    have h2 := C_absorb n (j + 1)
    have e : C (n + 1) (j + 1) = C n j + C n (j + 1) := C_ss n j
    rw [C_ss (n + 1) (j + 1)]
    have a1 : (C (n + 1) (j + 1) + C (n + 1) (j + 1 + 1)) * (j + 1 + 1) = C (n + 1) (j + 1) * (j + 1) + C (n + 1) (j + 1) + C (n + 1) (j + 1 + 1) * (j + 1 + 1) := by
      rw [Nat.add_mul, Nat.mul_succ (C (n + 1) (j + 1)) (j + 1)]
    rw [a1, h1, h2]
    have a2 : (n + 1 + 1) * C (n + 1) (j + 1) = (n + 1) * C (n + 1) (j + 1) + C (n + 1) (j + 1) := Nat.succ_mul _ _
    rw [a2]
    have a3 : (n + 1) * C (n + 1) (j + 1) = (n + 1) * C n j + (n + 1) * C n (j + 1) := by rw [e, Nat.mul_add]
    rw [a3]
    omega
theorem C_step (n k : Nat) (h : k ≤ n) : C n (k + 1) * (k + 1) = C n k * (n - k) := by
  have h1 := C_absorb n k
  rw [C_ss, Nat.add_mul] at h1
  have h2 : (n + 1) * C n k = C n k * (k + 1) + C n k * (n - k) := by
    rw [← Nat.mul_add, Nat.mul_comm]
    congr 1
    omega
  omega
theorem C_symm : ∀ (n k : Nat), k ≤ n → C n k = C n (n - k)
  | n, 0, _ => by rw [C_zero, Nat.sub_zero, C_self]
  | n + 1, k + 1, h => by
    by_cases e : k = n
    · subst e
      rw [C_self, Nat.sub_self, C_zero]
    · have e1 : n + 1 - (k + 1) = (n - (k + 1)) + 1 := by omega
      rw [e1, C_ss, C_ss, ← C_symm n (k + 1) (by omega), show n - (k + 1) + 1 = n - k by omega, ← C_symm n k (by omega), Nat.add_comm]
theorem C_le : ∀ (n k : Nat), C n k ≤ 2 ^ n
  | n, 0 => by rw [C_zero]; exact Nat.one_le_two_pow
  | 0, k + 1 => by rw [C_zs]; exact Nat.zero_le _
  | n + 1, k + 1 => by
    have a := C_le n k
    have b := C_le n (k + 1)
    rw [C_ss, Nat.pow_succ]
    omega
theorem C_pos : ∀ (n k : Nat), k ≤ n → 0 < C n k
  | n, 0, _ => by rw [C_zero]; decide
  | n + 1, k + 1, h => by
    rw [C_ss]
    have := C_pos n k (by omega)
    omega
theorem C_min (n k : Nat) (h : k ≤ n) : C n (min k (n - k)) = C n k := by
  by_cases e : k ≤ n - k
  · rw [Nat.min_eq_left e]
  · rw [Nat.min_eq_right (by omega), ← C_symm n k h]
theorem C_60 (n k : Nat) (h : n ≤ 60) : C n k ≤ 1152921504606846976 := Nat.le_trans (C_le n k) (Nat.le_trans (Nat.pow_le_pow_right (by decide) h) (by decide))
/-- what the program's binomial answers -/
def binZ (n k : Int) : Int := if k < 0 ∨ n < k then 0 else (C n.toNat k.toNat : Int)
theorem binZ_nat (n k : Nat) : binZ n k = (C n k : Int) := by
  unfold binZ
  by_cases h : n < k
  · rw [if_pos (by omega), C_big n k h]; rfl
  · rw [if_neg (by omega)]; simp
/-- one step of its product -/
theorem C_div (n s : Nat) (h : s < n) : ((C n s : Int) * ((n : Int) + 1 - (1 + (s : Int)))) / (1 + (s : Int)) = (C n (s + 1) : Int) := by
  have e : (C n s : Int) * ((n : Int) + 1 - (1 + (s : Int))) = (C n (s + 1) : Int) * (1 + (s : Int)) := by
    have h1 := C_step n s (by omega)
    have h2 : ((n : Int) + 1 - (1 + (s : Int))) = ((n - s : Nat) : Int) := by omega
    have h3 : (1 + (s : Int)) = ((s + 1 : Nat) : Int) := by omega
    rw [h2, h3, ← Int.natCast_mul, ← Int.natCast_mul, h1]
  rw [e]
  exact Int.mul_ediv_cancel _ (by omega)
end Ef
namespace Ef
/-! ### the least numbers of lists -/
def stepL (a b : Nat) : Nat := a / Nat.gcd a b * b
def leastL (n : Nat) : Nat → Nat
  | 0 => 1
  | d + 1 => stepL (leastL n d) (n * C (n - 1) d)
theorem stepL_pos {a b : Nat} (ha : 0 < a) (hb : 0 < b) : 0 < stepL a b := by
  unfold stepL
  have h1 : Nat.gcd a b ≤ a := Nat.gcd_le_left b ha
  have h2 : 0 < Nat.gcd a b := Nat.gcd_pos_of_pos_left b ha
  exact Nat.mul_pos (Nat.div_pos h1 h2) hb
theorem edge_pos {n d : Nat} (h : d < n) : 0 < n * C (n - 1) d := Nat.mul_pos (by omega) (C_pos _ _ (by omega))
theorem leastL_pos {n : Nat} : ∀ {d : Nat}, d ≤ n → 0 < leastL n d
  | 0, _ => Nat.one_pos
  | d + 1, h => stepL_pos (leastL_pos (by omega)) (edge_pos (by omega))
theorem C_adj : ∀ (n k : Nat), C n k + C n (k + 1) ≤ 2 ^ n
  | 0, 0 => by decide
  | 0, k + 1 => by
    rw [C_zs, C_zs]
    decide
  | n + 1, 0 => by
    have h := C_adj n 0
    have h1 : 1 ≤ 2 ^ n := Nat.one_le_two_pow
    rw [C_zero] at h
    rw [C_ss, C_zero, C_zero, Nat.pow_succ]
    omega
  | n + 1, j + 1 => by
    have h := C_adj n j
    have h2 := C_adj n (j + 1)
    rw [C_ss, C_ss, Nat.pow_succ]
    omega
theorem C_half (n k : Nat) (h : 1 ≤ n) : C n k ≤ 2 ^ (n - 1) := by
  obtain ⟨m, rfl⟩ : ∃ m, n = m + 1 := ⟨n - 1, by omega⟩
  cases k with
  | zero =>
    rw [C_zero]
    exact Nat.one_le_two_pow
  | succ k => exact C_adj m k
theorem edge_lt {n d : Nat} (h : n ≤ 60) : n * C (n - 1) d < 18446744073709551616 := by
  by_cases h1 : n ≤ 1
  · have e : n - 1 = 0 := by omega
    have h2 : C (n - 1) d ≤ 2 ^ 0 := by rw [e]; exact C_le 0 d
    exact Nat.lt_of_le_of_lt (Nat.mul_le_mul h1 h2) (by decide)
  · have h2 : C (n - 1) d ≤ 2 ^ 58 := Nat.le_trans (C_half (n - 1) d (by omega)) (Nat.pow_le_pow_right (by decide) (by omega))
    exact Nat.lt_of_le_of_lt (Nat.mul_le_mul h h2) (by decide)
/-! rows of the triangle, reckoned one from the other -/
def nextRow : List Nat → List Nat := fun r => 1 :: List.zipWith (· + ·) r r.tail
def isRow (n : Nat) (r : List Nat) : Prop := ∀ k, k ≤ 60 → r[k]? = some (C n k)
theorem nextRow_is {n : Nat} {r : List Nat} (h : isRow n r) : ∀ k, k ≤ 60 → (nextRow r)[k]? = some (C (n + 1) k)
  | 0, _ => by
    rw [C_zero]
    rfl
  | k + 1, hk => by
    have h1 := h k (by omega)
    have h2 := h (k + 1) hk
    unfold nextRow
    rw [List.getElem?_cons_succ, List.getElem?_zipWith, h1, List.getElem?_tail, h2]
    rfl
def row0 : List Nat := 1 :: List.replicate 60 0
theorem row0_is : isRow 0 row0 := fun k hk => by
  cases k with
  | zero => rfl
  | succ k =>
    unfold row0
    rw [List.getElem?_cons_succ, List.getElem?_replicate, if_pos (by omega)]
    rfl
/-- P holds along the chain of least numbers: f of each -/
def chainOk (n : Nat) (f : Nat → Nat → Bool) : Nat → Nat → Nat → List Nat → Bool
  | 0, d, a, _ => f d a
  | m + 1, d, a, c :: r => f d a && chainOk n f m (d + 1) (stepL a (n * c)) r
  | _ + 1, _, _, [] => false
theorem chain_all {n : Nat} {f : Nat → Nat → Bool} {row : List Nat} (hr : isRow (n - 1) row) (hn : n ≤ 60) : ∀ (m d : Nat), d + m = n → chainOk n f m d (leastL n d) (row.drop d) = true → ∀ e, d ≤ e → e ≤ n → f e (leastL n e) = true
  | 0, d, h, ok, e, h1, h2 => by
    have e1 : e = d := by omega
    subst e1
    exact ok
  | m + 1, d, h, ok, e, h1, h2 => by
    have hd := hr d (by omega)
    have hlt : d < row.length := (List.getElem?_eq_some_iff.mp hd).1
    have hdr : row.drop d = C (n - 1) d :: row.drop (d + 1) := by
      rw [List.drop_eq_getElem_cons hlt]
      congr 1
      rw [List.getElem?_eq_getElem hlt] at hd
      exact Option.some.inj hd
    rw [hdr] at ok
    have ok2 : (f d (leastL n d) && chainOk n f m (d + 1) (leastL n (d + 1)) (row.drop (d + 1))) = true := ok
    rw [Bool.and_eq_true] at ok2
    by_cases c : e = d
    · rw [c]
      exact ok2.1
    · exact chain_all hr hn m (d + 1) (by omega) ok2.2 e (by omega) h2
def rowsOk (f : Nat → Nat → Nat → Bool) : Nat → Nat → List Nat → Bool
  | 0, _, _ => true
  | m + 1, n, row => chainOk n (f n) n 0 1 row && rowsOk f m (n + 1) (nextRow row)
theorem rows_all {f : Nat → Nat → Nat → Bool} : ∀ (m n : Nat) (row : List Nat), isRow (n - 1) row → 1 ≤ n → rowsOk f m n row = true → ∀ k, n ≤ k → k < n + m → k ≤ 60 → ∀ d, d ≤ k → f k d (leastL k d) = true
  | 0, _, _, _, _, _, k, h1, h2, _, _, _ => by omega
  | m + 1, n, row, hr, h0, ok, k, h1, h2, h6, d, hd => by
    have ok2 : (chainOk n (f n) n 0 1 row && rowsOk f m (n + 1) (nextRow row)) = true := ok
    rw [Bool.and_eq_true] at ok2
    by_cases c : k = n
    · subst c
      exact chain_all hr h6 k 0 (by omega) ok2.1 d (by omega) hd
    · have hr2 : isRow (n + 1 - 1) (nextRow row) := fun j hj => by
        have e : n + 1 - 1 = (n - 1) + 1 := by omega
        rw [e]
        exact nextRow_is hr j hj
      exact rows_all m (n + 1) (nextRow row) hr2 (by omega) ok2.2 k (by omega) (by omega) h6 d hd
theorem small_ok : rowsOk (fun _ _ a => Nat.blt a (2 ^ 100)) 60 1 row0 = true := by decide +kernel
theorem leastL_lt {n d : Nat} (h1 : 1 ≤ n) (h6 : n ≤ 60) (hd : d ≤ n) : leastL n d < 2 ^ 100 := by
  have h := rows_all 60 1 row0 row0_is (by decide) small_ok n h1 (by omega) h6 d hd
  have h2 : Nat.blt (leastL n d) (2 ^ 100) = true := h
  rw [Nat.blt_eq] at h2
  exact h2
end Ef
namespace Ef
/-! ### the standard table -/
theorem stepL_left (a b : Nat) (ha : 0 < a) : a ∣ stepL a b := by
  unfold stepL
  have h1 : Nat.gcd a b ∣ a := Nat.gcd_dvd_left a b
  have h2 : Nat.gcd a b ∣ b := Nat.gcd_dvd_right a b
  refine ⟨b / Nat.gcd a b, ?_⟩
  obtain ⟨x, hx⟩ := h1
  obtain ⟨y, hy⟩ := h2
  have g0 : 0 < Nat.gcd a b := Nat.gcd_pos_of_pos_left b ha
  generalize Nat.gcd a b = g at hx hy g0
  subst hx hy
  rw [Nat.mul_div_cancel_left _ g0, Nat.mul_div_cancel_left _ g0, Nat.mul_comm g x, Nat.mul_assoc]
theorem stepL_right (a b : Nat) : b ∣ stepL a b := ⟨a / Nat.gcd a b, Nat.mul_comm _ _⟩
theorem leastL_dvd {n : Nat} : ∀ {d : Nat}, d ≤ n → ∀ b, b < d → n * C (n - 1) b ∣ leastL n d
  | 0, _, b, h => by omega
  | d + 1, hd, b, h => by
    by_cases e : b = d
    · subst e
      exact stepL_right _ _
    · exact Nat.dvd_trans (leastL_dvd (by omega) b (by omega)) (stepL_left _ _ (leastL_pos (by omega)))
/-- width of a block at a level -/
def wd (n c s : Nat) : Nat := c / (n * C (n - 1) s)
theorem wd_eq {n c s : Nat} (h : n * C (n - 1) s ∣ c) : wd n c s * (n * C (n - 1) s) = c := Nat.div_mul_cancel h
theorem wd_pos {n c s : Nat} (h : n * C (n - 1) s ∣ c) (hc : 0 < c) : 0 < wd n c s := by
  have e := wd_eq h
  cases z : wd n c s with
  | zero =>
    rw [z, Nat.zero_mul] at e
    omega
  | succ k => omega
theorem wd_step {n c b : Nat} (h1 : n * C (n - 1) b ∣ c) (h2 : n * C (n - 1) (b + 1) ∣ c) (hb : b + 1 < n) : wd n c b * (b + 1) = wd n c (b + 1) * (n - (b + 1)) := by
  have e1 := wd_eq h1
  have e2 := wd_eq h2
  have s := C_step (n - 1) b (by omega)
  have p : 0 < n * C (n - 1) b := edge_pos (by omega)
  have x1 : wd n c b * (b + 1) * (n * C (n - 1) b) = c * (b + 1) := by
    rw [Nat.mul_right_comm, e1]
  have x2 : wd n c (b + 1) * (n - (b + 1)) * (n * C (n - 1) b) = c * (b + 1) := by
    have y : wd n c (b + 1) * (n * C (n - 1) (b + 1)) * (b + 1) = c * (b + 1) := by rw [e2]
    rw [← y, Nat.mul_assoc, Nat.mul_assoc (wd n c (b + 1)), Nat.mul_assoc n, s, show n - 1 - b = n - (b + 1) by omega]
    congr 1
    rw [Nat.mul_comm (n - (b + 1)), Nat.mul_assoc]
  exact Nat.eq_of_mul_eq_mul_right p (x1.trans x2.symm)
theorem wd_zero {n c : Nat} (h : n * C (n - 1) 0 ∣ c) : wd n c 0 * n = c := by
  have e := wd_eq h
  rw [C_zero, Nat.mul_one] at e
  exact e
theorem wd_le (n c s : Nat) : wd n c s ≤ c := Nat.div_le_self _ _
/-- what 'follow' takes and what it leaves -/
def fol (n c : Nat) : List Nat → List Nat → Nat → List Nat × Nat
  | [], _, r => ([], r)
  | s :: ss, L, r => (L.getD (r / wd n c s) 0 :: (fol n c ss (L.eraseIdx (r / wd n c s)) (wd n c s * (L.getD (r / wd n c s) 0 - r / wd n c s) + r % wd n c s)).1,
      (fol n c ss (L.eraseIdx (r / wd n c s)) (wd n c s * (L.getD (r / wd n c s) 0 - r / wd n c s) + r % wd n c s)).2)
def FolOk (n c : Nat) : List Nat → List Nat → Nat → Prop
  | [], _, _ => True
  | s :: ss, L, r => 0 < wd n c s ∧ r / wd n c s < L.length ∧ r / wd n c s ≤ L.getD (r / wd n c s) 0 ∧
      FolOk n c ss (L.eraseIdx (r / wd n c s)) (wd n c s * (L.getD (r / wd n c s) 0 - r / wd n c s) + r % wd n c s)
theorem fol_cons (n c s : Nat) (ss L : List Nat) (r : Nat) : fol n c (s :: ss) L r = (L.getD (r / wd n c s) 0 :: (fol n c ss (L.eraseIdx (r / wd n c s)) (wd n c s * (L.getD (r / wd n c s) 0 - r / wd n c s) + r % wd n c s)).1, (fol n c ss (L.eraseIdx (r / wd n c s)) (wd n c s * (L.getD (r / wd n c s) 0 - r / wd n c s) + r % wd n c s)).2) := rfl
theorem fol_len (n c : Nat) : ∀ ss L r, (fol n c ss L r).1.length = ss.length
  | [], _, _ => rfl
  | s :: ss, L, r => congrArg (· + 1) (fol_len n c ss _ _)
/-- ascending -/
abbrev Asc (L : List Nat) : Prop := L.Pairwise (· < ·)
theorem getD_of {L : List Nat} {i : Nat} (h : i < L.length) : L[i]? = some (L.getD i 0) := by
  rw [List.getD_eq_getElem?_getD, List.getElem?_eq_getElem h]
  rfl
/-- an ascending list counted from lo -/
theorem asc_from : ∀ {L : List Nat} {lo : Nat}, Asc L → (∀ x ∈ L, lo ≤ x) → ∀ {i x : Nat}, L[i]? = some x → lo + i ≤ x
  | [], _, _, _, _, _, h => by cases h
  | y :: L, lo, a, hl, 0, x, h => by
    obtain rfl : y = x := Option.some.inj h
    exact hl y List.mem_cons_self
  | y :: L, lo, a, hl, i + 1, x, h => by
    have h1 : L[i]? = some x := h
    have hy := hl y List.mem_cons_self
    have h2 := asc_from (L := L) (lo := lo + 1) (List.pairwise_cons.mp a).2 (fun z hz => by
      have := (List.pairwise_cons.mp a).1 z hz
      omega) h1
    omega
theorem asc_ge {L : List Nat} (a : Asc L) {i x : Nat} (h : L[i]? = some x) : i ≤ x := by
  have := asc_from a (lo := 0) (fun _ _ => Nat.zero_le _) h
  omega
theorem asc_le : ∀ {L : List Nat} {n : Nat}, Asc L → (∀ x ∈ L, x < n) → ∀ {i x : Nat}, L[i]? = some x → x + (L.length - i) ≤ n
  | [], _, _, _, _, _, h => by cases h
  | [y], n, _, hl, 0, x, h => by
    obtain rfl : y = x := Option.some.inj h
    have := hl y List.mem_cons_self
    show y + 1 ≤ n
    omega
  | y :: z :: L, n, a, hl, 0, x, h => by
    obtain rfl : y = x := Option.some.inj h
    have h1 := asc_le (L := z :: L) (List.pairwise_cons.mp a).2 (fun u hu => hl u (List.mem_cons_of_mem _ hu)) (i := 0) (x := z) rfl
    have h2 := (List.pairwise_cons.mp a).1 z List.mem_cons_self
    have e : (y :: z :: L).length = (z :: L).length + 1 := rfl
    omega
  | y :: L, n, a, hl, i + 1, x, h => by
    have h1 := asc_le (L := L) (List.pairwise_cons.mp a).2 (fun u hu => hl u (List.mem_cons_of_mem _ hu)) (i := i) (x := x) h
    have e : (y :: L).length = L.length + 1 := rfl
    omega
theorem asc_erase {L : List Nat} (a : Asc L) (i : Nat) : Asc (L.eraseIdx i) := a.sublist (List.eraseIdx_sublist L i)
/-- the way forward keeps within its bounds -/
theorem folOk_path {n c d : Nat} (hd : ∀ b, b < d → n * C (n - 1) b ∣ c) (hc : 0 < c) (hdn : d ≤ n) : ∀ (m b : Nat) (L : List Nat) (r : Nat), b + m = d → Asc L → (∀ x ∈ L, x < n) → L.length = n - b → (b < d → r < wd n c b * (n - b)) → FolOk n c (List.range' b m) L r
  | 0, _, _, _, _, _, _, _, _ => trivial
  | m + 1, b, L, r, e, a, hl, hlen, hr => by
    have hb := hd b (by omega)
    have w0 := wd_pos hb hc
    have hr2 := hr (by omega)
    have hi : r / wd n c b < L.length := by
      rw [hlen]
      exact Nat.div_lt_of_lt_mul hr2
    have hx := getD_of hi
    have g1 := asc_ge a hx
    have g2 := asc_le a hl hx
    refine ⟨w0, hi, g1, ?_⟩
    refine folOk_path hd hc hdn m (b + 1) _ _ (by omega) (asc_erase a _) (fun x hx => hl x (List.mem_of_mem_eraseIdx hx)) ?_ (fun hlt => ?_)
    · rw [List.length_eraseIdx, if_pos hi]
      omega
    · rw [← wd_step hb (hd (b + 1) hlt) (by omega)]
      have h1 : r % wd n c b < wd n c b := Nat.mod_lt _ w0
      have h2 : L.getD (r / wd n c b) 0 - r / wd n c b ≤ b := by omega
      have h3 : wd n c b * (L.getD (r / wd n c b) 0 - r / wd n c b) ≤ wd n c b * b := Nat.mul_le_mul_left _ h2
      rw [Nat.mul_add, Nat.mul_one]
      omega
/-- count of lists and depth that go together -/
structure Std (n d c : Nat) : Prop where
  n60 : n ≤ 60
  n1 : 1 ≤ n
  dn : d ≤ n
  c0 : 0 < c
  dv : leastL n d ∣ c
theorem Std.dvd {n d c : Nat} (h : Std n d c) (b : Nat) (hb : b < d) : n * C (n - 1) b ∣ c := Nat.dvd_trans (leastL_dvd h.dn b hb) h.dv
def path (n d c k : Nat) : List Nat × Nat := fol n c (List.range' 0 d) (List.range' 0 n) k
theorem asc_range' : ∀ (m b : Nat), Asc (List.range' b m) := fun m b => List.pairwise_lt_range'
theorem mem_range0 {n x : Nat} : x ∈ List.range' 0 n ↔ x < n := by
  rw [List.mem_range']
  exact ⟨fun ⟨i, h1, h2⟩ => by omega, fun h => ⟨x, h, by omega⟩⟩
theorem path_ok {n d c k : Nat} (h : Std n d c) (hk : k < c) : FolOk n c (List.range' 0 d) (List.range' 0 n) k :=
  folOk_path h.dvd h.c0 h.dn d 0 _ _ (by omega) (asc_range' n 0) (fun x hx => mem_range0.mp hx) (by rw [List.length_range']; omega) fun hd => by
    rw [Nat.sub_zero, wd_zero (h.dvd 0 hd)]
    exact hk
theorem fol_mem {n c : Nat} : ∀ {ss L : List Nat} {r : Nat}, FolOk n c ss L r → ∀ x ∈ (fol n c ss L r).1, x ∈ L
  | [], _, _, _, x, hx => by cases hx
  | s :: ss, L, r, ok, x, hx => by
    rw [fol_cons] at hx
    obtain ⟨_, h2, _, ok2⟩ := ok
    rcases List.mem_cons.mp hx with rfl | hx
    · exact List.mem_of_getElem? (getD_of h2)
    · exact List.mem_of_mem_eraseIdx (fol_mem ok2 x hx)
theorem nodup_inj {L : List Nat} (hn : L.Nodup) {i j x : Nat} (h1 : L[i]? = some x) (h2 : L[j]? = some x) : i = j := by
  obtain ⟨a1, a2⟩ := List.getElem?_eq_some_iff.mp h1
  obtain ⟨b1, b2⟩ := List.getElem?_eq_some_iff.mp h2
  rcases Nat.lt_trichotomy i j with c | c | c
  · exact absurd (a2.trans b2.symm) (List.pairwise_iff_getElem.mp hn i j a1 b1 c)
  · exact c
  · exact absurd (b2.trans a2.symm) (List.pairwise_iff_getElem.mp hn j i b1 a1 c)
theorem not_mem_erase {L : List Nat} {i x : Nat} (hn : L.Nodup) (h : L[i]? = some x) : x ∉ L.eraseIdx i := by
  intro hm
  obtain ⟨k, hk⟩ := List.getElem?_of_mem hm
  rw [List.getElem?_eraseIdx] at hk
  split at hk
  · have := nodup_inj hn hk h
    omega
  · have := nodup_inj hn hk h
    omega
theorem fol_nodup {n c : Nat} : ∀ {ss L : List Nat} {r : Nat}, FolOk n c ss L r → L.Nodup → (fol n c ss L r).1.Nodup
  | [], _, _, _, _ => List.nodup_nil
  | s :: ss, L, r, ok, hn => by
    rw [fol_cons]
    obtain ⟨_, h2, _, ok2⟩ := ok
    refine List.nodup_cons.mpr ⟨fun hx => not_mem_erase hn (getD_of h2) (fol_mem ok2 _ hx), fol_nodup ok2 (hn.sublist (List.eraseIdx_sublist _ _))⟩
theorem asc_nodup {L : List Nat} (h : Asc L) : L.Nodup := h.imp fun z => Nat.ne_of_lt z
theorem path_nodup {n d c k : Nat} (h : Std n d c) (hk : k < c) : (path n d c k).1.Nodup := fol_nodup (path_ok h hk) (asc_nodup (asc_range' n 0))
theorem path_lt {n d c k : Nat} (h : Std n d c) (hk : k < c) : ∀ x ∈ (path n d c k).1, x < n := fun x hx => mem_range0.mp (fol_mem (path_ok h hk) x hx)
theorem path_len (n d c k : Nat) : (path n d c k).1.length = d := by
  unfold path
  rw [fol_len, List.length_range']
theorem fol_rest {n c d : Nat} (hd : ∀ b, b < d → n * C (n - 1) b ∣ c) (hc : 0 < c) (hdn : d ≤ n) : ∀ (m b : Nat) (L : List Nat) (r : Nat), b + m = d → Asc L → (∀ x ∈ L, x < n) → L.length = n - b → (b < d → r < wd n c b * (n - b)) → r < c → (fol n c (List.range' b m) L r).2 < c
  | 0, _, _, _, _, _, _, _, _, h => h
  | m + 1, b, L, r, e, a, hl, hlen, hr, h => by
    have hb := hd b (by omega)
    have w0 := wd_pos hb hc
    have hr2 := hr (by omega)
    have hi : r / wd n c b < L.length := by
      rw [hlen]
      exact Nat.div_lt_of_lt_mul hr2
    have hx := getD_of hi
    have g1 := asc_ge a hx
    have g2 := asc_le a hl hx
    have h1 : r % wd n c b < wd n c b := Nat.mod_lt _ w0
    have h2 : L.getD (r / wd n c b) 0 - r / wd n c b ≤ b := by omega
    have h3 : wd n c b * (L.getD (r / wd n c b) 0 - r / wd n c b) ≤ wd n c b * b := Nat.mul_le_mul_left _ h2
    have h4 : wd n c b * (L.getD (r / wd n c b) 0 - r / wd n c b) + r % wd n c b < wd n c b * (b + 1) := by
      rw [Nat.mul_add, Nat.mul_one]
      omega
    have h5 : wd n c b * (b + 1) ≤ c := by
      have p : 0 < C (n - 1) b := C_pos _ _ (by omega)
      have p2 : b + 1 ≤ n * C (n - 1) b := Nat.le_trans (show b + 1 ≤ n * 1 by omega) (Nat.mul_le_mul_left n p)
      have := Nat.mul_le_mul_left (wd n c b) p2
      rw [wd_eq hb] at this
      exact this
    rw [List.range'_succ, fol_cons]
    refine fol_rest hd hc hdn m (b + 1) _ _ (by omega) (asc_erase a _) (fun x hx => hl x (List.mem_of_mem_eraseIdx hx)) ?_ (fun hlt => ?_) (by omega)
    · rw [List.length_eraseIdx, if_pos hi]
      omega
    · rw [← wd_step hb (hd (b + 1) hlt) (by omega)]
      exact h4
theorem path_rest {n d c k : Nat} (h : Std n d c) (hk : k < c) : (path n d c k).2 < c :=
  fol_rest h.dvd h.c0 h.dn d 0 _ _ (by omega) (asc_range' n 0) (fun x hx => mem_range0.mp hx) (by rw [List.length_range']; omega) (fun hd => by
    rw [Nat.sub_zero, wd_zero (h.dvd 0 hd)]
    exact hk) hk
theorem asc_unique {L M : List Nat} (a : Asc L) (b : Asc M) (p : L.Perm M) : L = M :=
  List.Perm.eq_of_pairwise (le := (· ≤ ·)) (fun a b _ _ h1 h2 => Nat.le_antisymm h1 h2) (a.imp fun z => Nat.le_of_lt z) (b.imp fun z => Nat.le_of_lt z) p
theorem std_of {n d : Nat} (h6 : n ≤ 60) (h1 : 1 ≤ n) (hd : d ≤ n) (q : Nat) (hq : 0 < q) : Std n d (leastL n d * q) := ⟨h6, h1, hd, Nat.mul_pos (leastL_pos hd) hq, ⟨q, rfl⟩⟩
/-! what stands outside a set, and the places in it -/
theorem below_at : ∀ {M : List Nat}, Asc M → ∀ {j s : Nat}, M[j]? = some s → (M.filter fun x => decide (x < s)).length = j
  | [], _, _, _, h => by cases h
  | y :: M, a, 0, s, h => by
    obtain rfl : y = s := Option.some.inj h
    rw [List.filter_cons_of_neg (by simp), List.filter_eq_nil_iff.mpr]
    · rfl
    · intro x hx
      have := (List.pairwise_cons.mp a).1 x hx
      simp
      omega
  | y :: M, a, j + 1, s, h => by
    have h1 : M[j]? = some s := h
    have h2 := (List.pairwise_cons.mp a).1 s (List.mem_of_getElem? h1)
    rw [List.filter_cons_of_pos (by simpa using h2)]
    exact congrArg (· + 1) (below_at (List.pairwise_cons.mp a).2 h1)
/-- L: the servers outside I, ascending -/
structure Compl (n : Nat) (I L : List Nat) : Prop where
  aI : Asc I
  aL : Asc L
  bI : ∀ x ∈ I, x < n
  mem : ∀ x, x ∈ L ↔ x < n ∧ x ∉ I
theorem Compl.count {n : Nat} {I L : List Nat} (h : Compl n I L) {i s : Nat} (e : L[i]? = some s) : (I.filter fun x => decide (x < s)).length + i = s := by
  have hs := (h.mem s).mp (List.mem_of_getElem? e)
  have p : ((I.filter fun x => decide (x < s)) ++ (L.filter fun x => decide (x < s))).Perm (List.range' 0 s) := by
    refine (List.perm_ext_iff_of_nodup ?_ (asc_nodup (asc_range' s 0))).mpr fun x => ?_
    · refine List.nodup_append.mpr ⟨(asc_nodup h.aI).filter _, (asc_nodup h.aL).filter _, fun x hx y hy e2 => ?_⟩
      subst e2
      exact ((h.mem x).mp (List.mem_filter.mp hy).1).2 (List.mem_filter.mp hx).1
    · rw [List.mem_append, List.mem_filter, List.mem_filter, mem_range0, h.mem]
      simp only [decide_eq_true_eq]
      constructor
      · rintro (⟨_, h⟩ | ⟨_, h⟩) <;> exact h
      · intro hx
        by_cases c : x ∈ I
        · exact .inl ⟨c, hx⟩
        · exact .inr ⟨⟨by omega, c⟩, hx⟩
  have l := p.length_eq
  rw [List.length_append, below_at h.aL e, List.length_range'] at l
  exact l
theorem Compl.start (n : Nat) : Compl n [] (List.range' 0 n) := ⟨List.Pairwise.nil, asc_range' n 0, fun x hx => absurd hx List.not_mem_nil, fun x => by rw [mem_range0]; simp⟩
theorem Compl.next {n : Nat} {I L I' : List Nat} (h : Compl n I L) {i s : Nat} (e : L[i]? = some s) (hp : I'.Perm (I ++ [s])) (ha : Asc I') : Compl n I' (L.eraseIdx i) := by
  have hs := (h.mem s).mp (List.mem_of_getElem? e)
  refine ⟨ha, asc_erase h.aL i, fun x hx => ?_, fun x => ?_⟩
  · rcases List.mem_append.mp (hp.mem_iff.mp hx) with hx | hx
    · exact h.bI x hx
    · rw [List.mem_singleton.mp hx]
      exact hs.1
  · constructor
    · intro hx
      have h1 := (h.mem x).mp (List.mem_of_mem_eraseIdx hx)
      refine ⟨h1.1, fun hx2 => ?_⟩
      rcases List.mem_append.mp (hp.mem_iff.mp hx2) with z | z
      · exact h1.2 z
      · rw [List.mem_singleton.mp z] at hx
        exact not_mem_erase (asc_nodup h.aL) e hx
    · rintro ⟨h1, h2⟩
      have h3 : x ∉ I := fun z => h2 (hp.mem_iff.mpr (List.mem_append_left _ z))
      have h4 : x ≠ s := fun z => h2 (hp.mem_iff.mpr (List.mem_append_right _ (by rw [z]; exact List.mem_singleton_self s)))
      obtain ⟨k, hk⟩ := List.getElem?_of_mem ((h.mem x).mpr ⟨h1, h3⟩)
      have hki : k ≠ i := fun z => by
        rw [z, e] at hk
        exact h4 (Option.some.inj hk).symm
      rcases Nat.lt_or_gt_of_ne hki with hlt | hgt
      · exact List.mem_of_getElem? (i := k) (by rw [List.getElem?_eraseIdx, if_pos hlt]; exact hk)
      · exact List.mem_of_getElem? (i := k - 1) (by rw [List.getElem?_eraseIdx, if_neg (by omega), show k - 1 + 1 = k by omega]; exact hk)
/-- the place of the new one -/
theorem Compl.index {n : Nat} {I L I' : List Nat} (h : Compl n I L) {i j s : Nat} (e : L[i]? = some s) (hp : I'.Perm (I ++ [s])) (ha : Asc I') (hj : I'[j]? = some s) : j + i = s := by
  have h1 := h.count e
  have h2 := below_at ha hj
  have h3 := (hp.filter fun x => decide (x < s)).length_eq
  rw [List.filter_append, List.length_append] at h3
  have h4 : (List.filter (fun x => decide (x < s)) [s]).length = 0 := by
    rw [List.filter_cons_of_neg (by simp)]
    rfl
  omega
theorem Compl.free {n : Nat} {I L : List Nat} (h : Compl n I L) : (List.range' 0 n).filter (fun x => !decide (x ∈ I)) = L := by
  have a1 : Asc ((List.range' 0 n).filter (fun x => !decide (x ∈ I))) := (asc_range' n 0).filter _
  refine List.Perm.eq_of_pairwise (le := (· ≤ ·)) (fun a b _ _ h1 h2 => Nat.le_antisymm h1 h2) (a1.imp fun z => Nat.le_of_lt z) (h.aL.imp fun z => Nat.le_of_lt z) ?_
  refine (List.perm_ext_iff_of_nodup (asc_nodup a1) (asc_nodup h.aL)).mpr fun x => ?_
  rw [List.mem_filter, mem_range0, h.mem]
  simp
end Ef
namespace Ef
/-! ### the sets of a size among ascending servers -/
def combs : List Nat → Nat → List (List Nat)
  | _, 0 => [[]]
  | [], _ + 1 => []
  | x :: r, k + 1 => (combs r k).map (x :: ·) ++ combs r (k + 1)
theorem combs_zero (l : List Nat) : combs l 0 = [[]] := by cases l <;> rfl
theorem combs_short : ∀ (l : List Nat) (k : Nat), l.length < k → combs l k = []
  | _, 0, h => absurd h (Nat.not_lt_zero _)
  | [], k + 1, _ => rfl
  | x :: r, k + 1, h => by
    have h2 : r.length < k := by
      simp only [List.length_cons] at h
      omega
    show (combs r k).map _ ++ combs r (k + 1) = []
    rw [combs_short r k h2, combs_short r (k + 1) (by omega)]
    rfl
theorem combs_good : ∀ (l : List Nat) (k : Nat), ∀ c ∈ combs l k, c.length = k ∧ c.Sublist l
  | l, 0, c, h => by
    rw [combs_zero] at h
    rw [List.mem_singleton.mp h]
    exact ⟨rfl, List.nil_sublist _⟩
  | [], k + 1, c, h => by cases h
  | x :: r, k + 1, c, h => by
    rcases List.mem_append.mp h with h | h
    · obtain ⟨d, hd, rfl⟩ := List.mem_map.mp h
      obtain ⟨h1, h2⟩ := combs_good r k d hd
      exact ⟨by rw [List.length_cons, h1], h2.cons_cons x⟩
    · obtain ⟨h1, h2⟩ := combs_good r (k + 1) c h
      exact ⟨h1, h2.cons x⟩
theorem combs_ne : ∀ (l : List Nat) (k : Nat), k ≤ l.length → combs l k ≠ []
  | l, 0, _ => by rw [combs_zero]; simp
  | [], k + 1, h => by simp at h
  | x :: r, k + 1, h => by
    have h2 : k ≤ r.length := by
      simp only [List.length_cons] at h
      omega
    show (combs r k).map _ ++ combs r (k + 1) ≠ []
    intro e
    have := (List.append_eq_nil_iff.mp e).1
    exact combs_ne r k h2 (List.map_eq_nil_iff.mp this)
theorem combs_mem : ∀ (l c : List Nat), c.Sublist l → c ∈ combs l c.length
  | l, [], _ => by
    show [] ∈ combs l 0
    rw [combs_zero]
    exact List.mem_singleton.mpr rfl
  | [], _ :: _, h => by cases h
  | x :: r, y :: c, h => by
    show y :: c ∈ (combs r c.length).map (x :: ·) ++ combs r (c.length + 1)
    cases h with
    | cons _ h => exact List.mem_append_right _ (combs_mem r (y :: c) h)
    | cons_cons _ h => exact List.mem_append_left _ (List.mem_map.mpr ⟨c, combs_mem r c h, rfl⟩)
/-- by the place of the first one -/
theorem combs_from (l : List Nat) (m : Nat) : ∀ (d s : Nat), l.length + 1 ≤ s + d + (m + 1) → s + d + (m + 1) ≤ l.length + 1 ∨ d = 0 → combs (l.drop s) (m + 1) = (List.range' s d).flatMap fun i => (combs (l.drop (i + 1)) m).map (l.getD i 0 :: ·)
  | 0, s, h1, _ => by
    rw [combs_short _ _ (by rw [List.length_drop]; omega)]
    rfl
  | d + 1, s, h1, h2 => by
    have hs : s < l.length := by omega
    rw [List.drop_eq_getElem_cons hs]
    show (combs (l.drop (s + 1)) m).map _ ++ combs (l.drop (s + 1)) (m + 1) = _
    rw [combs_from l m d (s + 1) (by omega) (by omega), List.range'_succ, List.flatMap_cons]
    congr 2
    funext c
    rw [List.getD_eq_getElem?_getD, List.getElem?_eq_getElem hs]
    rfl
/-- one server more, in the order of the law -/
def moreC (l : List Nat) (c : List Nat) : List (List Nat) := (l.filter fun y => decide (c = [] ∨ c.getLastD 0 < y)).map fun y => c ++ [y]
theorem last_cons (x : Nat) (c : List Nat) (h : c ≠ []) : (x :: c).getLastD 0 = c.getLastD 0 := by
  cases c with
  | nil => exact absurd rfl h
  | cons a r => rfl
theorem last_mem (c : List Nat) (h : c ≠ []) : c.getLastD 0 ∈ c := by
  cases c with
  | nil => exact absurd rfl h
  | cons a r =>
    have e : (a :: r).getLastD 0 = (a :: r).getLast h := by
      rw [List.getLastD_cons, List.getLast_eq_getLastD]
    rw [e]
    exact List.getLast_mem h
theorem flat_congr {α β : Type} {f g : α → List β} : ∀ {l : List α}, (∀ a ∈ l, f a = g a) → l.flatMap f = l.flatMap g
  | [], _ => rfl
  | a :: l, h => by rw [List.flatMap_cons, List.flatMap_cons, h a List.mem_cons_self, flat_congr fun b hb => h b (List.mem_cons_of_mem _ hb)]
theorem combs_more : ∀ (l : List Nat) (t : Nat), Asc l → (combs l t).flatMap (moreC l) = combs l (t + 1)
  | [], 0, _ => rfl
  | [], t + 1, _ => rfl
  | x :: r, 0, h => by
    obtain ⟨h1, h2⟩ := List.pairwise_cons.mp h
    have ih := combs_more r 0 h2
    rw [combs_zero] at ih ⊢
    rw [List.flatMap_cons, List.flatMap_nil, List.append_nil] at ih ⊢
    show _ = (combs r 0).map (x :: ·) ++ combs r 1
    rw [← ih, combs_zero]
    unfold moreC
    rw [List.filter_cons_of_pos (by simp)]
    rfl
  | x :: r, t + 1, h => by
    obtain ⟨h1, h2⟩ := List.pairwise_cons.mp h
    show ((combs r t).map (x :: ·) ++ combs r (t + 1)).flatMap (moreC (x :: r)) = (combs r (t + 1)).map (x :: ·) ++ combs r (t + 2)
    rw [List.flatMap_append]
    have e2 : (combs r (t + 1)).flatMap (moreC (x :: r)) = combs r (t + 2) := by
      rw [← combs_more r (t + 1) h2]
      refine flat_congr fun c hc => ?_
      obtain ⟨g1, g2⟩ := combs_good r (t + 1) c hc
      have ne : c ≠ [] := fun e => by rw [e] at g1; cases g1
      have hl := h1 _ (g2.subset (last_mem c ne))
      unfold moreC
      rw [List.filter_cons_of_neg]
      simp only [decide_eq_true_eq, not_or]
      exact ⟨ne, by omega⟩
    have e1 : ((combs r t).map (x :: ·)).flatMap (moreC (x :: r)) = (combs r (t + 1)).map (x :: ·) := by
      rw [← combs_more r t h2, List.flatMap_map, List.map_flatMap]
      refine flat_congr fun c hc => ?_
      obtain ⟨g1, g2⟩ := combs_good r t c hc
      unfold moreC
      rw [List.map_map]
      by_cases ne : c = []
      · subst ne
        rw [List.filter_cons_of_neg (by simp)]
        have e : (r.filter fun y => decide (([x] : List Nat) = [] ∨ ([x] : List Nat).getLastD 0 < y)) = r.filter fun y => decide (([] : List Nat) = [] ∨ ([] : List Nat).getLastD 0 < y) := by
          refine List.filter_congr fun y hy => ?_
          have := h1 y hy
          simp [this]
        rw [e]
        rfl
      · have hl := h1 _ (g2.subset (last_mem c ne))
        rw [List.filter_cons_of_neg (by
          simp only [decide_eq_true_eq, not_or]
          exact ⟨by simp, by rw [last_cons x c ne]; omega⟩)]
        have e : (r.filter fun y => decide (x :: c = [] ∨ (x :: c).getLastD 0 < y)) = r.filter fun y => decide (c = [] ∨ c.getLastD 0 < y) := by
          refine List.filter_congr fun y hy => ?_
          rw [last_cons x c ne]
          simp [ne]
        rw [e]
        rfl
    rw [e1, e2]
/-! the program's beginnings -/
def stepB (l : List Nat) (m : Nat) (b : List Nat × Nat) : List (List Nat × Nat) := (List.range' b.2 (l.length + 1 - m - b.2)).map fun i => (b.1 ++ [l.getD i 0], i + 1)
def begB (l : List Nat) (k : Nat) : Nat → List (List Nat × Nat)
  | 0 => [([], 0)]
  | t + 1 => (begB l k t).flatMap (stepB l (k - t))
def restB (l : List Nat) (m : Nat) (b : List Nat × Nat) : List (List Nat) := (combs (l.drop b.2) m).map (b.1 ++ ·)
theorem step_rest (l : List Nat) (m : Nat) (b : List Nat × Nat) : (stepB l (m + 1) b).flatMap (restB l m) = restB l (m + 1) b := by
  unfold stepB restB
  rw [combs_from l m (l.length + 1 - (m + 1) - b.2) b.2 (by omega) (by omega), List.flatMap_map, List.map_flatMap]
  refine flat_congr fun i _ => ?_
  rw [List.map_map]
  refine List.map_congr_left fun c _ => ?_
  show b.1 ++ [l.getD i 0] ++ c = b.1 ++ (l.getD i 0 :: c)
  rw [List.append_assoc]
  rfl
theorem flat_flat {α β γ : Type} (f : α → List β) (g : β → List γ) : ∀ l : List α, (l.flatMap f).flatMap g = l.flatMap fun a => (f a).flatMap g
  | [] => rfl
  | a :: l => by rw [List.flatMap_cons, List.flatMap_append, List.flatMap_cons, flat_flat f g l]
theorem beg_rest (l : List Nat) (k : Nat) : ∀ t, t ≤ k → (begB l k t).flatMap (restB l (k - t)) = combs l k
  | 0, _ => by
    show restB l k ([], 0) ++ [] = _
    unfold restB
    rw [List.append_nil]
    show (combs l k).map _ = _
    exact List.map_id _
  | t + 1, h => by
    rw [← beg_rest l k t (by omega)]
    show ((begB l k t).flatMap (stepB l (k - t))).flatMap _ = _
    rw [flat_flat]
    refine flat_congr fun b _ => ?_
    have e : k - t = (k - (t + 1)) + 1 := by omega
    rw [e]
    exact step_rest l _ b
theorem map_flat {α β : Type} (f : α → β) : ∀ l : List α, l.flatMap (fun a => [f a]) = l.map f
  | [] => rfl
  | a :: l => by rw [List.flatMap_cons, map_flat f l]; rfl
theorem beg_end (l : List Nat) (k : Nat) : (begB l k k).map (·.1) = combs l k := by
  rw [← beg_rest l k k (Nat.le_refl _), ← map_flat]
  refine flat_congr fun b _ => ?_
  unfold restB
  rw [Nat.sub_self, combs_zero]
  show _ = [b.1 ++ []]
  rw [List.append_nil]
theorem beg_fit (l : List Nat) (k : Nat) : ∀ t, t < k → ∀ b ∈ begB l k (t + 1), b.2 + (k - (t + 1)) ≤ l.length := fun t ht b hb => by
  obtain ⟨a, _, hb⟩ := List.mem_flatMap.mp hb
  obtain ⟨i, hi, rfl⟩ := List.mem_map.mp hb
  rw [List.mem_range'_1] at hi
  show i + 1 + _ ≤ _
  omega
theorem len_flat {α β : Type} (f : α → List β) : ∀ l : List α, (∀ a ∈ l, f a ≠ []) → l.length ≤ (l.flatMap f).length
  | [], _ => Nat.zero_le _
  | a :: l, h => by
    rw [List.flatMap_cons, List.length_append, List.length_cons]
    have h1 := len_flat f l fun b hb => h b (List.mem_cons_of_mem _ hb)
    have h2 := List.length_pos_iff.mpr (h a List.mem_cons_self)
    omega
theorem beg_len (l : List Nat) (k : Nat) : ∀ t, t ≤ k → (begB l k t).length ≤ (combs l k).length + 1
  | 0, _ => by show 1 ≤ _; omega
  | t + 1, h => by
    rw [← beg_rest l k (t + 1) h]
    refine Nat.le_succ_of_le (len_flat _ _ fun b hb => ?_)
    have := beg_fit l k t h b hb
    unfold restB
    intro e
    exact combs_ne _ _ (by rw [List.length_drop]; omega) (List.map_eq_nil_iff.mp e)
theorem beg_good (l : List Nat) (k : Nat) : ∀ t, ∀ b ∈ begB l k t, b.1.length = t ∧ b.2 ≤ l.length + 1
  | 0, b, hb => by
    rw [List.mem_singleton.mp hb]
    exact ⟨rfl, Nat.zero_le _⟩
  | t + 1, b, hb => by
    obtain ⟨a, ha, hb⟩ := List.mem_flatMap.mp hb
    obtain ⟨i, hi, rfl⟩ := List.mem_map.mp hb
    rw [List.mem_range'_1] at hi
    obtain ⟨h1, h2⟩ := beg_good l k t a ha
    exact ⟨by show (a.1 ++ _).length = _; rw [List.length_append, h1]; rfl, by show i + 1 ≤ _; omega⟩
theorem fm_le {α β : Type} (f : α → List β) : ∀ (l : List α) (i : Nat), ((l.take i).flatMap f).length ≤ (l.flatMap f).length
  | [], i => by rw [List.take_nil]; exact Nat.le_refl _
  | a :: l, 0 => Nat.zero_le _
  | a :: l, i + 1 => by
    rw [List.take_succ_cons, List.flatMap_cons, List.flatMap_cons, List.length_append, List.length_append]
    have := fm_le f l i
    omega
theorem fm_step {α β : Type} {f : α → List β} {l : List α} {i : Nat} {a : α} (h : l[i]? = some a) : (l.take (i + 1)).flatMap f = (l.take i).flatMap f ++ f a := by
  rw [List.take_add_one, h, List.flatMap_append]
  show _ ++ [a].flatMap f = _
  rw [List.flatMap_cons, List.flatMap_nil, List.append_nil]
theorem take_snoc {α : Type} {l : List α} {i : Nat} {a : α} (h : l[i]? = some a) : l.take (i + 1) = l.take i ++ [a] := by
  rw [List.take_add_one, h]
  rfl
theorem combsLen : ∀ (l : List Nat) (k : Nat), (combs l k).length = C l.length k
  | l, 0 => by rw [combs_zero]; cases l <;> rfl
  | [], k + 1 => rfl
  | x :: r, k + 1 => by
    show ((combs r k).map _ ++ combs r (k + 1)).length = C (r.length + 1) (k + 1)
    rw [List.length_append, List.length_map, combsLen r k, combsLen r (k + 1)]
    rfl
theorem combsNodup : ∀ (l : List Nat) (k : Nat), l.Nodup → (combs l k).Nodup
  | l, 0, _ => by
    rw [combs_zero]
    exact List.nodup_cons.mpr ⟨List.not_mem_nil, List.nodup_nil⟩
  | [], k + 1, _ => List.nodup_nil
  | x :: r, k + 1, h => by
    obtain ⟨h1, h2⟩ := List.nodup_cons.mp h
    refine List.nodup_append.mpr ⟨?_, combsNodup r (k + 1) h2, fun c hc d hd e => ?_⟩
    · refine List.Pairwise.map _ (fun a b hab z => hab ?_) (combsNodup r k h2)
      exact (List.cons.inj z).2
    · obtain ⟨c', _, rfl⟩ := List.mem_map.mp hc
      obtain ⟨_, g⟩ := combs_good r (k + 1) d hd
      rw [← e] at g
      exact h1 (g.subset List.mem_cons_self)
theorem ascSub : ∀ {b a : List Nat}, Asc a → Asc b → (∀ x ∈ a, x ∈ b) → a.Sublist b
  | [], [], _, _, _ => List.Sublist.slnil
  | [], x :: a, _, _, h => absurd (h x List.mem_cons_self) List.not_mem_nil
  | y :: b, [], _, _, _ => List.nil_sublist _
  | y :: b, x :: a, ha, hb, h => by
    obtain ⟨a1, a2⟩ := List.pairwise_cons.mp ha
    obtain ⟨b1, b2⟩ := List.pairwise_cons.mp hb
    by_cases e : x = y
    · subst e
      refine (ascSub a2 b2 fun z hz => ?_).cons_cons x
      rcases List.mem_cons.mp (h z (List.mem_cons_of_mem _ hz)) with rfl | h2
      · have := a1 z hz
        omega
      · exact h2
    · refine (ascSub (a := x :: a) ha b2 fun z hz => ?_).cons y
      rcases List.mem_cons.mp (h z hz) with rfl | h2
      · rcases List.mem_cons.mp hz with rfl | hz
        · exact absurd rfl e
        · have h3 := a1 z hz
          rcases List.mem_cons.mp (h x List.mem_cons_self) with h4 | h4
          · exact absurd h4 e
          · have := b1 x h4
            omega
      · exact h2
/-- all (set, server) with the server outside -/
def without (n x : Nat) : List Nat := (List.range n).filter fun y => !decide (y = x)
def allE (n sz : Nat) : List (List Nat × Nat) := (List.range n).flatMap fun x => (combs (without n x) sz).map fun c => (c, x)
theorem without_len {n x : Nat} (h : x < n) : (without n x).length = n - 1 := by
  unfold without
  have hp : ∀ l : List Nat, (l.filter fun y => !decide (y = x)).length + (l.filter fun y => decide (y = x)).length = l.length := by
    intro l
    induction l with
    | nil => rfl
    | cons a l ih =>
      by_cases e : a = x
      · rw [List.filter_cons_of_neg (by simpa using e), List.filter_cons_of_pos (by simpa using e), List.length_cons, List.length_cons]
        omega
      · rw [List.filter_cons_of_pos (by simpa using e), List.filter_cons_of_neg (by simpa using e), List.length_cons, List.length_cons]
        omega
  replace hp := hp (List.range n)
  rw [List.length_range] at hp
  have h1 : ((List.range n).filter fun y => decide (y = x)).length = 1 := by
    rw [← List.countP_eq_length_filter]
    have e : (List.range n).countP (fun y => decide (y = x)) = (List.range n).count x := by
      unfold List.count
      refine List.countP_congr fun y _ => ?_
      simp
    rw [e]
    exact List.Nodup.count List.nodup_range |>.trans (if_pos (List.mem_range.mpr h))
  omega
theorem without_asc (n x : Nat) : Asc (without n x) := List.Pairwise.filter _ (by
  have := List.pairwise_lt_range (n := n)
  exact this)
theorem flat_const {α β : Type} (f : α → List β) (k : Nat) : ∀ l : List α, (∀ a ∈ l, (f a).length = k) → (l.flatMap f).length = l.length * k
  | [], _ => by simp
  | a :: l, h => by
    rw [List.flatMap_cons, List.length_append, h a List.mem_cons_self, flat_const f k l fun b hb => h b (List.mem_cons_of_mem _ hb), List.length_cons, Nat.succ_mul]
    omega
theorem allE_len (n sz : Nat) : (allE n sz).length = n * C (n - 1) sz := by
  unfold allE
  rw [flat_const _ (C (n - 1) sz) _ fun x hx => ?_, List.length_range]
  rw [List.length_map, combsLen, without_len (List.mem_range.mp hx)]
theorem allE_mem {n sz x : Nat} {c : List Nat} (hx : x < n) (hl : c.length = sz) (ha : Asc c) (hc : ∀ y ∈ c, y < n ∧ y ≠ x) : (c, x) ∈ allE n sz := by
  refine List.mem_flatMap.mpr ⟨x, List.mem_range.mpr hx, List.mem_map.mpr ⟨c, ?_, rfl⟩⟩
  have := combs_mem (without n x) c (ascSub ha (without_asc n x) fun y hy => List.mem_filter.mpr ⟨List.mem_range.mpr (hc y hy).1, by simpa using (hc y hy).2⟩)
  rw [hl] at this
  exact this
theorem subG_len {α : Type} [DecidableEq α] : ∀ {ks ns : List α}, ks.Nodup → (∀ k ∈ ks, k ∈ ns) → ks.length ≤ ns.length
  | [], _, _, _ => Nat.zero_le _
  | k :: r, ns, h, hs => by
    have hk := hs k List.mem_cons_self
    have h1 := subG_len (ks := r) (ns := ns.erase k) (List.nodup_cons.mp h).2 fun x hx => (List.mem_erase_of_ne (fun e : x = k => (List.nodup_cons.mp h).1 (e ▸ hx))).mpr (hs x (List.mem_cons_of_mem _ hx))
    have h2 := List.length_erase_of_mem hk
    have h3 := List.length_pos_of_mem hk
    show r.length + 1 ≤ ns.length
    omega
/-! sorted -/
def srt (l : List Nat) : List Nat := l.mergeSort fun a b => decide (a ≤ b)
theorem srt_perm (l : List Nat) : (srt l).Perm l := List.mergeSort_perm l _
theorem srt_le (l : List Nat) : (srt l).Pairwise (· ≤ ·) := (List.pairwise_mergeSort (le := fun a b : Nat => decide (a ≤ b)) (fun a b c h1 h2 => by simp at *; omega) (fun a b => by simp; omega) l).imp fun h => of_decide_eq_true h
theorem srt_asc {l : List Nat} (h : l.Nodup) : Asc (srt l) := ((srt_le l).and ((srt_perm l).nodup_iff.mpr h)).imp fun ⟨a, b⟩ => by omega
theorem srt_of {l m : List Nat} (p : m.Perm l) (h : m.Pairwise (· ≤ ·)) : m = srt l :=
  List.Perm.eq_of_pairwise (le := fun a b : Nat => a ≤ b) (fun a b _ _ h1 h2 => Nat.le_antisymm h1 h2) h (srt_le l) (p.trans (srt_perm l).symm)
end Ef
namespace Ef
/-! ### the least numbers once more: common multiples of n, n - 1, .. -/
def leastP (n : Nat) : Nat → Nat
  | 0 => 1
  | d + 1 => stepL (leastP n d) (n - d)
theorem parts_ok : rowsOk (fun n d a => Nat.beq (leastP n d) a) 60 1 row0 = true := by decide +kernel
theorem leastP_eq {n d : Nat} (h1 : 1 ≤ n) (h6 : n ≤ 60) (hd : d ≤ n) : leastP n d = leastL n d :=
  Nat.eq_of_beq_eq_true (rows_all 60 1 row0 row0_is (by decide) parts_ok n h1 (by omega) h6 d hd)
theorem stepL_lcm (a b : Nat) : stepL a b = Nat.lcm a b := by
  unfold stepL Nat.lcm
  exact Nat.div_mul_right_comm (Nat.gcd_dvd_left a b) b
theorem stepL_dvd (a b c : Nat) : stepL a b ∣ c ↔ a ∣ c ∧ b ∣ c := by
  rw [stepL_lcm]
  exact ⟨fun h => ⟨Nat.dvd_trans (Nat.dvd_lcm_left a b) h, Nat.dvd_trans (Nat.dvd_lcm_right a b) h⟩, fun h => Nat.lcm_dvd h.1 h.2⟩
theorem leastP_dvd (n c : Nat) : ∀ d, leastP n d ∣ c ↔ ∀ i, i < d → (n - i) ∣ c
  | 0 => ⟨fun _ i h => absurd h (Nat.not_lt_zero i), fun _ => Nat.one_dvd c⟩
  | d + 1 => by
    show stepL (leastP n d) (n - d) ∣ c ↔ _
    rw [stepL_dvd, leastP_dvd n c d]
    constructor
    · intro h i hi
      by_cases e : i = d
      · rw [e]
        exact h.2
      · exact h.1 i (by omega)
    · intro h
      exact ⟨fun i hi => h i (by omega), h d (by omega)⟩
/-- a number is a multiple of the least one exactly if n, n - 1, .. divide it -/
theorem least_parts {n d : Nat} (h1 : 1 ≤ n) (h6 : n ≤ 60) (hd : d ≤ n) (c : Nat) : leastL n d ∣ c ↔ ∀ i, i < d → (n - i) ∣ c := by
  rw [← leastP_eq h1 h6 hd]
  exact leastP_dvd n c d
def partsV (n d : Nat) : List Nat := (List.range d).map fun i => n - i
theorem parts_at {n d i : Nat} (h : i < d) : (partsV n d)[i]? = some (n - i) := by
  unfold partsV
  rw [List.getElem?_map, List.getElem?_range h]
  rfl
theorem parts_len (n d : Nat) : (partsV n d).length = d := by
  unfold partsV
  rw [List.length_map, List.length_range]
def wdsL (n c d : Nat) : List Nat := (List.range d).map (wd n c)
theorem wds_step (n c d : Nat) : wdsL n c (d + 1) = wdsL n c d ++ [wd n c d] := by
  unfold wdsL
  rw [List.range_succ, List.map_append]
  rfl
theorem wds_len (n c d : Nat) : (wdsL n c d).length = d := by
  unfold wdsL
  rw [List.length_map, List.length_range]
/-- one step of the edges -/
theorem edge_step {n s : Nat} (h : s < n) : n * C (n - 1) s * (n - 1 - s) / (s + 1) = n * C (n - 1) (s + 1) := by
  rw [Nat.mul_assoc, ← C_step (n - 1) s (by omega), ← Nat.mul_assoc, Nat.mul_div_cancel _ (Nat.succ_pos s)]
end Ef
namespace Ef
/-! ### from a place back to a number -/
/-- what is left of the servers -/
def folL (n c : Nat) : List Nat → List Nat → Nat → List Nat
  | [], L, _ => L
  | s :: ss, L, r => folL n c ss (L.eraseIdx (r / wd n c s)) (wd n c s * (L.getD (r / wd n c s) 0 - r / wd n c s) + r % wd n c s)
theorem fol_snoc (n c : Nat) (s : Nat) : ∀ (ss L : List Nat) (r : Nat), fol n c (ss ++ [s]) L r =
    ((fol n c ss L r).1 ++ [(folL n c ss L r).getD ((fol n c ss L r).2 / wd n c s) 0],
      wd n c s * ((folL n c ss L r).getD ((fol n c ss L r).2 / wd n c s) 0 - (fol n c ss L r).2 / wd n c s) + (fol n c ss L r).2 % wd n c s)
  | [], L, r => rfl
  | t :: ss, L, r => by
    rw [List.cons_append, fol_cons, fol_snoc n c s ss, fol_cons]
    rfl
theorem folL_snoc (n c : Nat) (s : Nat) : ∀ (ss L : List Nat) (r : Nat), folL n c (ss ++ [s]) L r = (folL n c ss L r).eraseIdx ((fol n c ss L r).2 / wd n c s)
  | [], L, r => rfl
  | t :: ss, L, r => by
    rw [List.cons_append]
    show folL n c (ss ++ [s]) _ _ = _
    rw [folL_snoc n c s ss]
    rfl
theorem wd_back {n c b : Nat} (h : n * C (n - 1) b ∣ c) (hb : b < n) : c / C n (b + 1) = wd n c b * (b + 1) := by
  have e := wd_eq h
  obtain ⟨m, rfl⟩ : ∃ m, n = m + 1 := ⟨n - 1, by omega⟩
  have a := C_absorb m b
  rw [Nat.add_sub_cancel] at e
  rw [← a] at e
  have p := C_pos (m + 1) (b + 1) (by omega)
  generalize wd (m + 1) c b = w at e ⊢
  have e2 : c = w * (b + 1) * C (m + 1) (b + 1) := by
    rw [← e, Nat.mul_comm (C (m + 1) (b + 1)), Nat.mul_assoc]
  rw [e2, Nat.mul_div_cancel _ p]
theorem wd_out {n c b : Nat} (h : n * C (n - 1) b ∣ c) (hb : b < n) : wd n c b * (n - b) * C n b = c := by
  have e := wd_eq h
  obtain ⟨m, rfl⟩ : ∃ m, n = m + 1 := ⟨n - 1, by omega⟩
  have a := C_absorb m b
  have s := C_step (m + 1) b (by omega)
  rw [Nat.add_sub_cancel] at e
  rw [Nat.mul_assoc, Nat.mul_comm (m + 1 - b), ← s, a]
  exact e
theorem erasePerm : ∀ (l : List Nat) (k x : Nat), l[k]? = some x → (x :: l.eraseIdx k).Perm l
  | [], _, _, h => by cases h
  | a :: r, 0, x, h => by
    obtain rfl : a = x := Option.some.inj h
    exact List.Perm.refl _
  | a :: r, k + 1, x, h => (List.Perm.swap a x _).trans ((erasePerm r k x h).cons a)
theorem range'_end (b : Nat) : List.range' 0 (b + 1) = List.range' 0 b ++ [b] := by
  rw [← List.range_eq_range', ← List.range_eq_range', List.range_succ]
theorem rev_range (b : Nat) : (List.range' 0 (b + 1)).reverse = b :: (List.range' 0 b).reverse := by
  rw [range'_end, List.reverse_append]
  rfl
/-- one step back -/
structure Place (n c b : Nat) (ms : List Nat) (r : Nat) : Prop where
  asc : Asc ms
  lt : ∀ x ∈ ms, x < n
  len : ms.length = b
  rest : r < c / C n b
theorem Place.ix {n c b r : Nat} {ms : List Nat} (h : Place n c (b + 1) ms r) (hd : n * C (n - 1) b ∣ c) (hb : b < n) : r / wd n c b < ms.length := by
  have h1 := h.rest
  rw [wd_back hd hb] at h1
  rw [h.len]
  exact Nat.div_lt_of_lt_mul h1
theorem Place.prev {n c b r : Nat} {ms : List Nat} (h : Place n c (b + 1) ms r) (hd : ∀ k, k ≤ b → n * C (n - 1) k ∣ c) (hb : b < n) (hc : 0 < c) :
    Place n c b (ms.eraseIdx (r / wd n c b)) (wd n c b * (ms.getD (r / wd n c b) 0 - r / wd n c b) + r % wd n c b) := by
  have hi := h.ix (hd b (Nat.le_refl _)) hb
  have w0 := wd_pos (hd b (Nat.le_refl _)) hc
  have hx := getD_of hi
  have g1 := asc_ge h.asc hx
  have g2 := asc_le h.asc h.lt hx
  have hl := h.len
  refine ⟨asc_erase h.asc _, fun x hx => h.lt x (List.mem_of_mem_eraseIdx hx), ?_, ?_⟩
  · rw [List.length_eraseIdx, if_pos hi, hl]
    rfl
  · have h1 : r % wd n c b < wd n c b := Nat.mod_lt _ w0
    have h2 : ms.getD (r / wd n c b) 0 - r / wd n c b + 1 ≤ n - b := by omega
    have h3 : wd n c b * (ms.getD (r / wd n c b) 0 - r / wd n c b + 1) ≤ wd n c b * (n - b) := Nat.mul_le_mul_left _ h2
    have h4 : c / C n b = wd n c b * (n - b) := by
      have e := wd_out (hd b (Nat.le_refl _)) hb
      have p := C_pos n b (by omega)
      conv => lhs; rw [← e]
      exact Nat.mul_div_cancel _ p
    rw [h4]
    rw [Nat.mul_add, Nat.mul_one] at h3
    omega
theorem back_ok {n c : Nat} (hc : 0 < c) : ∀ (b : Nat) (ms : List Nat) (r : Nat), b ≤ n → (∀ k, k < b → n * C (n - 1) k ∣ c) → Place n c b ms r → FolOk n c (List.range' 0 b).reverse ms r
  | 0, _, _, _, _, _ => trivial
  | b + 1, ms, r, hb, hd, h => by
    rw [rev_range]
    have hi := h.ix (hd b (by omega)) (by omega)
    exact ⟨wd_pos (hd b (by omega)) hc, hi, asc_ge h.asc (getD_of hi), back_ok hc b _ _ (by omega) (fun k hk => hd k (by omega)) (h.prev (fun k hk => hd k (by omega)) (by omega) hc)⟩
theorem Std.less {n d c : Nat} (h : Std n (d + 1) c) : Std n d c := by
  have hd := h.dn
  exact ⟨h.n60, h.n1, by omega, h.c0, Nat.dvd_trans (stepL_left _ _ (leastL_pos (by omega))) h.dv⟩
/-- the number of the list that has this place -/
def back (n c : Nat) (ms : List Nat) (r : Nat) : Nat := (fol n c (List.range' 0 ms.length).reverse ms r).2
theorem back_fwd {n c : Nat} (hc : 0 < c) : ∀ (b : Nat) (ms : List Nat) (r : Nat), b ≤ n → (∀ k, k < b → n * C (n - 1) k ∣ c) → Place n c b ms r →
    (fol n c (List.range' 0 b).reverse ms r).2 < c ∧
    (fol n c (List.range' 0 b) (List.range' 0 n) (fol n c (List.range' 0 b).reverse ms r).2).1.Perm ms ∧
    (fol n c (List.range' 0 b) (List.range' 0 n) (fol n c (List.range' 0 b).reverse ms r).2).2 = r ∧
    Compl n ms (folL n c (List.range' 0 b) (List.range' 0 n) (fol n c (List.range' 0 b).reverse ms r).2)
  | 0, ms, r, _, _, h => by
    have e : ms = [] := List.length_eq_zero_iff.mp h.len
    have hr := h.rest
    rw [C_zero, Nat.div_one] at hr
    subst e
    exact ⟨hr, List.Perm.refl _, rfl, Compl.start n⟩
  | b + 1, ms, r, hb, hd, h => by
    have hi := h.ix (hd b (by omega)) (by omega)
    have w0 := wd_pos (hd b (by omega)) hc
    have hx := getD_of hi
    have g1 := asc_ge h.asc hx
    have pv := h.prev (fun k hk => hd k (by omega)) (by omega) hc
    obtain ⟨i1, i2, i3, i4⟩ := back_fwd hc b _ _ (by omega) (fun k hk => hd k (by omega)) pv
    rw [rev_range, fol_cons]
    show (fol n c (List.range' 0 b).reverse (ms.eraseIdx (r / wd n c b)) (wd n c b * (ms.getD (r / wd n c b) 0 - r / wd n c b) + r % wd n c b)).2 < c ∧ _
    generalize (fol n c (List.range' 0 b).reverse (ms.eraseIdx (r / wd n c b)) (wd n c b * (ms.getD (r / wd n c b) 0 - r / wd n c b) + r % wd n c b)).2 = k at i1 i2 i3 i4 ⊢
    show k < c ∧ (fol n c (List.range' 0 (b + 1)) (List.range' 0 n) k).1.Perm ms ∧ (fol n c (List.range' 0 (b + 1)) (List.range' 0 n) k).2 = r ∧ Compl n ms (folL n c (List.range' 0 (b + 1)) (List.range' 0 n) k)
    rw [range'_end, fol_snoc, folL_snoc, i3]
    have hm : r % wd n c b < wd n c b := Nat.mod_lt _ w0
    have e1 : (wd n c b * (ms.getD (r / wd n c b) 0 - r / wd n c b) + r % wd n c b) / wd n c b = ms.getD (r / wd n c b) 0 - r / wd n c b := by
      rw [Nat.mul_add_div w0, Nat.div_eq_of_lt hm, Nat.add_zero]
    have e2 : (wd n c b * (ms.getD (r / wd n c b) 0 - r / wd n c b) + r % wd n c b) % wd n c b = r % wd n c b := by
      rw [Nat.mul_add_mod, Nat.mod_mod]
    rw [e1, e2]
    generalize folL n c (List.range' 0 b) (List.range' 0 n) k = L at i4
    have hdm := Nat.div_add_mod r (wd n c b)
    generalize r / wd n c b = i at hi hx g1 pv i1 i2 i3 i4 hdm e1 e2 ⊢
    generalize ms.getD i 0 = x at hx g1 pv i1 i2 i3 i4 e1 e2 ⊢
    have pm : ms.Perm (ms.eraseIdx i ++ [x]) := ((List.perm_append_singleton x _).trans (erasePerm ms i x hx)).symm
    have hmem : x ∈ L := (i4.mem _).mpr ⟨h.lt _ (List.mem_of_getElem? hx), not_mem_erase (asc_nodup h.asc) hx⟩
    obtain ⟨j, hj⟩ := List.getElem?_of_mem hmem
    have hjx := i4.index hj pm h.asc hx
    obtain rfl : x - i = j := by omega
    have ex : L.getD (x - i) 0 = x := by
      have := getD_of (L := L) (i := x - i) (List.getElem?_eq_some_iff.mp hj).1
      rw [hj] at this
      exact (Option.some.inj this).symm
    rw [ex]
    refine ⟨i1, (i2.append_right _).trans pm.symm, ?_, i4.next hj pm h.asc⟩
    show wd n c b * (x - (x - i)) + r % wd n c b = r
    rw [show x - (x - i) = i by omega]
    exact hdm
end Ef
namespace Ef
/-! ### counts by formula -/
def sumTo (g : Nat → Nat) : Nat → Nat
  | 0 => 0
  | n + 1 => sumTo g n + g n
theorem sumTo_congr {g h : Nat → Nat} : ∀ {n : Nat}, (∀ i, i < n → g i = h i) → sumTo g n = sumTo h n
  | 0, _ => rfl
  | n + 1, e => by
    show sumTo g n + g n = sumTo h n + h n
    rw [sumTo_congr (n := n) fun i hi => e i (by omega), e n (by omega)]
theorem sumTo_add (g h : Nat → Nat) : ∀ n : Nat, sumTo (fun i => g i + h i) n = sumTo g n + sumTo h n
  | 0 => rfl
  | n + 1 => by
    show sumTo _ n + (g n + h n) = sumTo g n + g n + (sumTo h n + h n)
    rw [sumTo_add g h n]
    omega
theorem sumTo_mul (k : Nat) (g : Nat → Nat) : ∀ n : Nat, sumTo (fun i => k * g i) n = k * sumTo g n
  | 0 => rfl
  | n + 1 => by
    show sumTo _ n + k * g n = k * (sumTo g n + g n)
    rw [sumTo_mul k g n, Nat.mul_add]
theorem sumTo_zero {g : Nat → Nat} : ∀ {n : Nat}, (∀ i, i < n → g i = 0) → sumTo g n = 0
  | 0, _ => rfl
  | n + 1, e => by
    show sumTo g n + g n = 0
    rw [sumTo_zero (n := n) fun i hi => e i (by omega), e n (by omega)]
theorem sumTo_shift (g : Nat → Nat) : ∀ n : Nat, sumTo g (n + 1) = g 0 + sumTo (fun i => g (i + 1)) n
  | 0 => by
    show 0 + g 0 = g 0 + 0
    omega
  | n + 1 => by
    show sumTo g (n + 1) + g (n + 1) = g 0 + (sumTo (fun i => g (i + 1)) n + g (n + 1))
    rw [sumTo_shift g n]
    omega
theorem sumTo_cut (g : Nat → Nat) (a : Nat) : ∀ b : Nat, sumTo g (a + b) = sumTo g a + sumTo (fun i => g (a + i)) b
  | 0 => rfl
  | b + 1 => by
    show sumTo g (a + b) + g (a + b) = sumTo g a + (sumTo (fun i => g (a + i)) b + g (a + b))
    rw [sumTo_cut g a b]
    omega
theorem edge_alt {n i : Nat} (h : i < n) : C n i * (n - i) = n * C (n - 1) i := by
  obtain ⟨m, rfl⟩ : ∃ m, n = m + 1 := ⟨n - 1, by omega⟩
  have s := C_step (m + 1) i (by omega)
  have a := C_absorb m i
  rw [← s, a, Nat.add_sub_cancel]
theorem edge_alt2 {n i : Nat} (h : i < n) : C n (i + 1) * (i + 1) = n * C (n - 1) i := by
  obtain ⟨m, rfl⟩ : ∃ m, n = m + 1 := ⟨n - 1, by omega⟩
  rw [C_absorb m i, Nat.add_sub_cancel]
/-- the harmonic triangle -/
theorem leib {n i T : Nat} (hi : i < n) (h1 : (n + 1) * C n i ∣ T) (h2 : (n + 1) * C n (i + 1) ∣ T) : n * C (n - 1) i ∣ T ∧ wd n T i = wd (n + 1) T i + wd (n + 1) T (i + 1) := by
  have e1 : wd (n + 1) T i * ((n + 1) * C n i) = T := Nat.div_mul_cancel h1
  have e2 : wd (n + 1) T (i + 1) * ((n + 1) * C n (i + 1)) = T := Nat.div_mul_cancel h2
  have a1 := edge_alt hi
  have a2 := edge_alt2 hi
  have key : (wd (n + 1) T i + wd (n + 1) T (i + 1)) * (n * C (n - 1) i) = T := by
    refine Nat.eq_of_mul_eq_mul_left (show 0 < n + 1 by omega) ?_
    generalize wd (n + 1) T i = a at e1
    generalize wd (n + 1) T (i + 1) = b at e2
    have x1 : (n + 1) * (a * (n * C (n - 1) i)) = T * (n - i) := by
      rw [← a1, ← e1]
      simp only [Nat.mul_assoc, Nat.mul_comm, Nat.mul_left_comm]
    have x2 : (n + 1) * (b * (n * C (n - 1) i)) = T * (i + 1) := by
      rw [← a2, ← e2]
      simp only [Nat.mul_assoc, Nat.mul_comm, Nat.mul_left_comm]
    have x3 : (n + 1) * ((a + b) * (n * C (n - 1) i)) = (n + 1) * (a * (n * C (n - 1) i)) + (n + 1) * (b * (n * C (n - 1) i)) := by
      rw [Nat.add_mul a b, Nat.mul_add (n + 1)]
    rw [x3, x1, x2, ← Nat.mul_add T, Nat.mul_comm T]
    congr 1
    omega
  have p : 0 < n * C (n - 1) i := edge_pos hi
  refine ⟨⟨_, by rw [Nat.mul_comm]; exact key.symm⟩, ?_⟩
  show T / (n * C (n - 1) i) = _
  conv => lhs; rw [← key]
  exact Nat.mul_div_cancel _ p
theorem sum_leib {T u f : Nat} (hf : f < u) : ∀ m : Nat, (∀ i, i ≤ m + f → (u + m) * C (u + m - 1) i ∣ T) → (u * C (u - 1) f ∣ T) ∧ sumTo (fun j => C m j * wd (u + m) T (j + f)) (m + 1) = wd u T f
  | 0, h => by
    have h0 := h f (by omega)
    refine ⟨h0, ?_⟩
    show 0 + C 0 0 * wd (u + 0) T (0 + f) = wd u T f
    rw [Nat.zero_add, Nat.zero_add, C_zero, Nat.one_mul, Nat.add_zero]
  | m + 1, h => by
    have hd : ∀ i, i ≤ m + f → (u + m) * C (u + m - 1) i ∣ T ∧ wd (u + m) T i = wd (u + m + 1) T i + wd (u + m + 1) T (i + 1) := fun i hi => by
      have a := h i (by omega)
      have b := h (i + 1) (by omega)
      rw [show u + (m + 1) = u + m + 1 from rfl, Nat.add_sub_cancel] at a b
      exact leib (show i < u + m by omega) a b
    obtain ⟨r1, r2⟩ := sum_leib hf m fun i hi => (hd i hi).1
    refine ⟨r1, ?_⟩
    rw [← r2]
    -- the right side split by the triangle
    have e1 : sumTo (fun j => C m j * wd (u + m) T (j + f)) (m + 1) = sumTo (fun j => C m j * wd (u + m + 1) T (j + f)) (m + 1) + sumTo (fun j => C m j * wd (u + m + 1) T (j + 1 + f)) (m + 1) := by
      rw [← sumTo_add]
      refine sumTo_congr fun j hj => ?_
      rw [(hd (j + f) (by omega)).2, Nat.mul_add, show j + f + 1 = j + 1 + f by omega]
    -- the left side split by Pascal
    have e2 : sumTo (fun j => C (m + 1) j * wd (u + (m + 1)) T (j + f)) (m + 1 + 1) = sumTo (fun j => C m j * wd (u + m + 1) T (j + f)) (m + 1 + 1) + sumTo (fun j => C m j * wd (u + m + 1) T (j + 1 + f)) (m + 1) := by
      rw [sumTo_shift, sumTo_shift (fun j => C m j * wd (u + m + 1) T (j + f)), Nat.add_assoc, ← sumTo_add, C_zero, C_zero]
      congr 1
      refine sumTo_congr fun j hj => ?_
      show C (m + 1) (j + 1) * wd (u + m + 1) T (j + 1 + f) = C m (j + 1) * wd (u + m + 1) T (j + 1 + f) + C m j * wd (u + m + 1) T (j + 1 + f)
      rw [C_ss, Nat.add_mul, Nat.add_comm]
    have e3 : sumTo (fun j => C m j * wd (u + m + 1) T (j + f)) (m + 1 + 1) = sumTo (fun j => C m j * wd (u + m + 1) T (j + f)) (m + 1) := by
      show sumTo _ (m + 1) + C m (m + 1) * _ = _
      rw [C_big m (m + 1) (by omega), Nat.zero_mul, Nat.add_zero]
    rw [e2, e3, e1]
/-- in how many lists the live server number f + 1 stands at index i -/
def fndAt (n T u f i : Nat) : Nat := if i < f ∨ n - u + f < i then 0 else C u f * C (n - u) (i - f) * (u - f) * wd n T i
theorem fnd_sum {n T u f : Nat} (hu : u ≤ n) (hf : f < u) (h : ∀ i, i ≤ n - u + f → n * C (n - 1) i ∣ T) : sumTo (fndAt n T u f) n = T := by
  have en : n = u + (n - u) := by omega
  obtain ⟨r1, r2⟩ := sum_leib (T := T) hf (n - u) fun i hi => by
    rw [← en]
    exact h i hi
  rw [← en] at r2
  have e1 : sumTo (fndAt n T u f) n = sumTo (fndAt n T u f) f + sumTo (fun i => fndAt n T u f (f + i)) (n - f) := by
    have := sumTo_cut (fndAt n T u f) f (n - f)
    rw [show f + (n - f) = n by omega] at this
    exact this
  have e2 : sumTo (fndAt n T u f) f = 0 := sumTo_zero fun i hi => if_pos (.inl hi)
  have e3 : sumTo (fun i => fndAt n T u f (f + i)) (n - f) = sumTo (fun i => fndAt n T u f (f + i)) (n - u + 1) + sumTo (fun i => fndAt n T u f (f + (n - u + 1 + i))) (n - f - (n - u + 1)) := by
    have := sumTo_cut (fun i => fndAt n T u f (f + i)) (n - u + 1) (n - f - (n - u + 1))
    rw [show n - u + 1 + (n - f - (n - u + 1)) = n - f by omega] at this
    exact this
  have e4 : sumTo (fun i => fndAt n T u f (f + (n - u + 1 + i))) (n - f - (n - u + 1)) = 0 := sumTo_zero fun i hi => if_pos (.inr (by omega))
  have e5 : sumTo (fun i => fndAt n T u f (f + i)) (n - u + 1) = (C u f * (u - f)) * sumTo (fun j => C (n - u) j * wd n T (j + f)) (n - u + 1) := by
    rw [← sumTo_mul]
    refine sumTo_congr fun i hi => ?_
    show fndAt n T u f (f + i) = _
    unfold fndAt
    rw [if_neg (by omega), show f + i - f = i by omega, show f + i = i + f by omega]
    simp only [Nat.mul_assoc, Nat.mul_comm, Nat.mul_left_comm]
  rw [e1, e2, e3, e4, e5, r2, Nat.zero_add, Nat.add_zero, edge_alt hf, Nat.mul_comm]
  exact wd_eq r1
end Ef
namespace Ef
/-! ### the numbers of the lists with a beginning -/
/-- what 'numbers_with' keeps on its way: the numbers from lo to hi - 1 have the beginning, the rest of number k is k + mv, L is left -/
structure Wst where
  lo : Int
  hi : Int
  mv : Int
  L : List Nat
def wStep (n c b s : Nat) (x : Wst) : Wst :=
  ⟨max x.lo ((wd n c b : Int) * (x.L.idxOf s : Int) - x.mv), min x.hi ((wd n c b : Int) * ((x.L.idxOf s : Int) + 1) - x.mv), x.mv + (wd n c b : Int) * ((s : Int) - (x.L.idxOf s : Int) - (x.L.idxOf s : Int)), x.L.eraseIdx (x.L.idxOf s)⟩
/-- from level b on -/
def wRun (n c : Nat) : Nat → List Nat → Wst → Option Wst
  | _, [], x => some x
  | b, s :: r, x => if s ∈ x.L then (if (wStep n c b s x).hi ≤ (wStep n c b s x).lo then none else wRun n c (b + 1) r (wStep n c b s x)) else none
/-- the lists whose beginning is t, in the table of depth b -/
structure Beg (n c : Nat) (t : List Nat) (x : Wst) : Prop where
  nd : x.L.Nodup
  asc : Asc x.L
  lo0 : 0 ≤ x.lo
  hic : x.hi ≤ (c : Int)
  iff : ∀ k : Nat, k < c → ((fol n c (List.range' 0 t.length) (List.range' 0 n) k).1 = t ↔ x.lo ≤ (k : Int) ∧ (k : Int) < x.hi)
  rest : ∀ k : Nat, x.lo ≤ (k : Int) → (k : Int) < x.hi → ((fol n c (List.range' 0 t.length) (List.range' 0 n) k).2 : Int) = (k : Int) + x.mv ∧ folL n c (List.range' 0 t.length) (List.range' 0 n) k = x.L
  len : x.L.length = n - t.length
  lt : ∀ y ∈ x.L, y < n
  mem : ∀ z, z ∈ x.L ↔ z < n ∧ z ∉ t
theorem Beg.start (n c : Nat) : Beg n c [] ⟨0, (c : Int), 0, List.range' 0 n⟩ :=
  ⟨asc_nodup (asc_range' n 0), asc_range' n 0, Int.le_refl _, Int.le_refl _, fun k hk => ⟨fun _ => ⟨by show (0 : Int) ≤ _; omega, by show (k : Int) < (c : Int); omega⟩, fun _ => rfl⟩, fun k h1 h2 => ⟨by show (k : Int) = (k : Int) + 0; omega, rfl⟩, by rw [List.length_range']; rfl, fun y hy => mem_range0.mp hy, fun z => by rw [mem_range0]; simp⟩
theorem mem_erase_iff {L : List Nat} {i s : Nat} (nd : L.Nodup) (e : L[i]? = some s) (z : Nat) : z ∈ L.eraseIdx i ↔ z ∈ L ∧ z ≠ s := by
  have pm := erasePerm L i s e
  constructor
  · intro h
    refine ⟨List.mem_of_mem_eraseIdx h, fun c => ?_⟩
    rw [c] at h
    exact not_mem_erase nd e h
  · rintro ⟨h1, h2⟩
    rcases List.mem_cons.mp (pm.mem_iff.mpr h1) with h | h
    · exact absurd h h2
    · exact h
theorem idx_at {L : List Nat} {s : Nat} (h : s ∈ L) : L[L.idxOf s]? = some s := by
  rw [List.getElem?_eq_getElem (List.idxOf_lt_length_of_mem h), List.getElem_idxOf]
theorem div_block {w r i : Nat} (w0 : 0 < w) : r / w = i ↔ w * i ≤ r ∧ r < w * (i + 1) := by
  rw [Nat.div_eq_iff w0]
  rw [Nat.mul_comm i w]
  constructor
  · rintro ⟨h1, h2⟩
    rw [Nat.mul_add, Nat.mul_one]
    exact ⟨h1, by omega⟩
  · rintro ⟨h1, h2⟩
    rw [Nat.mul_add, Nat.mul_one] at h2
    exact ⟨h1, by omega⟩
/-- the rest stays within its bounds, on every way -/
theorem fwd_bound {n c d : Nat} (hd : ∀ b, b < d → n * C (n - 1) b ∣ c) (hc : 0 < c) (hdn : d ≤ n) {k : Nat} (hk : k < c) : ∀ b, b ≤ d →
    (folL n c (List.range' 0 b) (List.range' 0 n) k).length = n - b ∧ Asc (folL n c (List.range' 0 b) (List.range' 0 n) k) ∧ (∀ y ∈ folL n c (List.range' 0 b) (List.range' 0 n) k, y < n) ∧ (fol n c (List.range' 0 b) (List.range' 0 n) k).2 < c / C n b
  | 0, _ => ⟨by show (List.range' 0 n).length = n; rw [List.length_range'], asc_range' n 0, fun y hy => mem_range0.mp hy, by rw [C_zero, Nat.div_one]; exact hk⟩
  | b + 1, h => by
    obtain ⟨h1, h2, h3, h4⟩ := fwd_bound hd hc hdn hk b (by omega)
    have dv := hd b (by omega)
    have w0 := wd_pos dv hc
    have e := wd_out dv (show b < n by omega)
    have p := C_pos n b (by omega)
    have h5 : c / C n b = wd n c b * (n - b) := by
      conv => lhs; rw [← e]
      exact Nat.mul_div_cancel _ p
    rw [h5] at h4
    rw [range'_end, folL_snoc, fol_snoc]
    have hi : (fol n c (List.range' 0 b) (List.range' 0 n) k).2 / wd n c b < (folL n c (List.range' 0 b) (List.range' 0 n) k).length := by
      rw [h1]
      exact Nat.div_lt_of_lt_mul h4
    have hm : (fol n c (List.range' 0 b) (List.range' 0 n) k).2 % wd n c b < wd n c b := Nat.mod_lt _ w0
    have hx := getD_of hi
    have g2 := asc_le h2 h3 hx
    refine ⟨?_, asc_erase h2 _, fun y hy => h3 y (List.mem_of_mem_eraseIdx hy), ?_⟩
    · rw [List.length_eraseIdx, if_pos hi]
      omega
    · rw [wd_back dv (by omega)]
      show wd n c b * _ + _ < _
      have h6 : (folL n c (List.range' 0 b) (List.range' 0 n) k).getD ((fol n c (List.range' 0 b) (List.range' 0 n) k).2 / wd n c b) 0 - (fol n c (List.range' 0 b) (List.range' 0 n) k).2 / wd n c b ≤ b := by omega
      have h7 := Nat.mul_le_mul_left (wd n c b) h6
      rw [Nat.mul_add, Nat.mul_one]
      omega
theorem Beg.step {n c d : Nat} {t : List Nat} {x : Wst} (h : Beg n c t x) (hd : ∀ b, b < d → n * C (n - 1) b ∣ c) (hc : 0 < c) (hdn : d ≤ n) (hb : t.length < d) {s : Nat} (hs : s ∈ x.L) : Beg n c (t ++ [s]) (wStep n c t.length s x) := by
  have dv := hd t.length hb
  have w0 := wd_pos dv hc
  have hix := idx_at hs
  have hil := List.idxOf_lt_length_of_mem hs
  have his := asc_ge h.asc hix
  have ea : (t ++ [s]).length = t.length + 1 := by rw [List.length_append]; rfl
  have e := wd_out dv (show t.length < n by omega)
  have p := C_pos n t.length (by omega)
  have h5 : c / C n t.length = wd n c t.length * (n - t.length) := by
    conv => lhs; rw [← e]
    exact Nat.mul_div_cancel _ p
  -- where the rest lies
  have key : ∀ k : Nat, k < c → x.lo ≤ (k : Int) → (k : Int) < x.hi → ((fol n c (List.range' 0 t.length) (List.range' 0 n) k).2 / wd n c t.length = x.L.idxOf s ↔ (wd n c t.length : Int) * (x.L.idxOf s : Int) - x.mv ≤ (k : Int) ∧ (k : Int) < (wd n c t.length : Int) * ((x.L.idxOf s : Int) + 1) - x.mv) := by
    intro k hk h1 h2
    obtain ⟨r1, _⟩ := h.rest k h1 h2
    rw [div_block w0]
    have c1 : ((wd n c t.length * x.L.idxOf s : Nat) : Int) = (wd n c t.length : Int) * (x.L.idxOf s : Int) := Int.natCast_mul _ _
    have c2 : ((wd n c t.length * (x.L.idxOf s + 1) : Nat) : Int) = (wd n c t.length : Int) * ((x.L.idxOf s : Int) + 1) := Int.natCast_mul _ _
    constructor
    · rintro ⟨a, b⟩
      exact ⟨by omega, by omega⟩
    · rintro ⟨a, b⟩
      exact ⟨by omega, by omega⟩
  have got : ∀ k : Nat, k < c → x.lo ≤ (k : Int) → (k : Int) < x.hi → ((folL n c (List.range' 0 t.length) (List.range' 0 n) k).getD ((fol n c (List.range' 0 t.length) (List.range' 0 n) k).2 / wd n c t.length) 0 = s ↔ (fol n c (List.range' 0 t.length) (List.range' 0 n) k).2 / wd n c t.length = x.L.idxOf s) := by
    intro k hk h1 h2
    obtain ⟨r1, r2⟩ := h.rest k h1 h2
    obtain ⟨b1, _, _, b4⟩ := fwd_bound hd hc hdn hk t.length (by omega)
    rw [h5] at b4
    have hi : (fol n c (List.range' 0 t.length) (List.range' 0 n) k).2 / wd n c t.length < x.L.length := by
      rw [h.len]
      exact Nat.div_lt_of_lt_mul b4
    rw [r2]
    constructor
    · intro z
      have h8 := getD_of hi
      rw [z] at h8
      exact nodup_inj h.nd h8 hix
    · intro z
      rw [z]
      have h8 := getD_of hil
      rw [hix] at h8
      exact (Option.some.inj h8).symm
  refine ⟨h.nd.sublist (List.eraseIdx_sublist _ _), asc_erase h.asc _, ?_, ?_, fun k hk => ?_, fun k h1 h2 => ?_, ?_, fun y hy => h.lt y (List.mem_of_mem_eraseIdx hy), fun z => ?_⟩
  · have := h.lo0
    show 0 ≤ max x.lo _
    omega
  · have := h.hic
    show min x.hi _ ≤ _
    omega
  · rw [ea, range'_end, fol_snoc]
    show _ ++ [_] = t ++ [s] ↔ max x.lo _ ≤ (k : Int) ∧ (k : Int) < min x.hi _
    constructor
    · intro z
      obtain ⟨z1, z2⟩ := List.append_inj' z rfl
      obtain ⟨a, b⟩ := (h.iff k hk).mp z1
      have z3 := (got k hk a b).mp (List.singleton_inj.mp z2)
      have z4 := (key k hk a b).mp z3
      omega
    · intro z
      have a : x.lo ≤ (k : Int) ∧ (k : Int) < x.hi := by omega
      have z3 := (key k hk a.1 a.2).mpr (by omega)
      have z4 := (got k hk a.1 a.2).mpr z3
      rw [(h.iff k hk).mpr a, z4]
  · have h1' : max x.lo ((wd n c t.length : Int) * (x.L.idxOf s : Int) - x.mv) ≤ (k : Int) := h1
    have h2' : (k : Int) < min x.hi ((wd n c t.length : Int) * ((x.L.idxOf s : Int) + 1) - x.mv) := h2
    have a : x.lo ≤ (k : Int) ∧ (k : Int) < x.hi := by omega
    have hk : k < c := by
      have := h.hic
      omega
    have z3 := (key k hk a.1 a.2).mpr (by omega)
    have z4 := (got k hk a.1 a.2).mpr z3
    obtain ⟨r1, r2⟩ := h.rest k a.1 a.2
    rw [ea, range'_end, fol_snoc, folL_snoc, z3, r2]
    rw [z3, r2] at z4
    refine ⟨?_, rfl⟩
    show ((wd n c t.length * (x.L.getD (x.L.idxOf s) 0 - x.L.idxOf s) + (fol n c (List.range' 0 t.length) (List.range' 0 n) k).2 % wd n c t.length : Nat) : Int) = (k : Int) + (x.mv + (wd n c t.length : Int) * ((s : Int) - (x.L.idxOf s : Int) - (x.L.idxOf s : Int)))
    rw [z4]
    have dm := Nat.div_add_mod (fol n c (List.range' 0 t.length) (List.range' 0 n) k).2 (wd n c t.length)
    rw [z3] at dm
    generalize (fol n c (List.range' 0 t.length) (List.range' 0 n) k).2 % wd n c t.length = u at dm
    generalize x.L.idxOf s = i at *
    generalize wd n c t.length = w at *
    rw [Int.natCast_add, Int.natCast_mul, Int.natCast_sub his]
    have dm2 : (w : Int) * (i : Int) + (u : Int) = (k : Int) + x.mv := by
      rw [← r1, ← dm, Int.natCast_add, Int.natCast_mul]
    rw [Int.mul_sub, Int.mul_sub, Int.mul_sub]
    omega
  · rw [ea]
    show (x.L.eraseIdx _).length = _
    rw [List.length_eraseIdx, if_pos hil, h.len]
    omega
  · show z ∈ x.L.eraseIdx _ ↔ _
    rw [mem_erase_iff h.nd hix, h.mem, List.mem_append, List.mem_singleton]
    constructor
    · rintro ⟨⟨a, b⟩, e⟩
      exact ⟨a, fun q => q.elim b e⟩
    · rintro ⟨a, b⟩
      exact ⟨⟨a, fun q => b (.inl q)⟩, fun q => b (.inr q)⟩
theorem fol_take (n c k : Nat) (b : Nat) : ∀ m : Nat, (fol n c (List.range' 0 (b + m)) (List.range' 0 n) k).1.take b = (fol n c (List.range' 0 b) (List.range' 0 n) k).1
  | 0 => by
    have := fol_len n c (List.range' 0 b) (List.range' 0 n) k
    rw [List.length_range'] at this
    exact List.take_of_length_le (by rw [Nat.add_zero]; omega)
  | m + 1 => by
    rw [show b + (m + 1) = b + m + 1 from rfl, range'_end, fol_snoc]
    have := fol_len n c (List.range' 0 (b + m)) (List.range' 0 n) k
    rw [List.length_range'] at this
    show (_ ++ [_]).take b = _
    rw [List.take_append_of_le_length (by omega)]
    exact fol_take n c k b m
theorem wRun_some {n c d : Nat} (hd : ∀ b, b < d → n * C (n - 1) b ∣ c) (hc : 0 < c) (hdn : d ≤ n) {k : Nat} (hk : k < c) : ∀ (r t : List Nat) (x : Wst), t.length + r.length ≤ d → Beg n c t x → (fol n c (List.range' 0 (t.length + r.length)) (List.range' 0 n) k).1 = t ++ r → ∃ y, wRun n c t.length r x = some y ∧ Beg n c (t ++ r) y
  | [], t, x, _, h, _ => ⟨x, rfl, by rw [List.append_nil]; exact h⟩
  | s :: r, t, x, hl, h, he => by
    have el : (s :: r).length = r.length + 1 := rfl
    have e1 : (fol n c (List.range' 0 t.length) (List.range' 0 n) k).1 = t := by
      have := fol_take n c k t.length (s :: r).length
      rw [he, List.take_left] at this
      exact this.symm
    have ea : (t ++ [s]).length = t.length + 1 := by rw [List.length_append]; rfl
    have e2 : (fol n c (List.range' 0 (t.length + 1)) (List.range' 0 n) k).1 = t ++ [s] := by
      have := fol_take n c k (t.length + 1) r.length
      rw [show t.length + 1 + r.length = t.length + (s :: r).length by omega, he] at this
      rw [← this, show t ++ s :: r = (t ++ [s]) ++ r by simp, ← ea, List.take_left]
    have in1 := (h.iff k hk).mp e1
    obtain ⟨r1, r2⟩ := h.rest k in1.1 in1.2
    have dv := hd t.length (by omega)
    have w0 := wd_pos dv hc
    obtain ⟨b1, b2, b3, b4⟩ := fwd_bound hd hc hdn hk t.length (by omega)
    have hs : s ∈ x.L := by
      have e3 := e2
      rw [range'_end, fol_snoc] at e3
      obtain ⟨_, z2⟩ := List.append_inj' e3 rfl
      have z3 := List.singleton_inj.mp z2
      rw [← r2, ← z3]
      refine List.mem_of_getElem? (getD_of ?_)
      rw [b1]
      have e := wd_out dv (show t.length < n by omega)
      have p := C_pos n t.length (by omega)
      have h5 : c / C n t.length = wd n c t.length * (n - t.length) := by
        conv => lhs; rw [← e]
        exact Nat.mul_div_cancel _ p
      rw [h5] at b4
      exact Nat.div_lt_of_lt_mul b4
    have st := h.step hd hc hdn (by omega) hs
    have in2 := (st.iff k hk).mp (by rw [ea]; exact e2)
    obtain ⟨y, y1, y2⟩ := wRun_some hd hc hdn hk r (t ++ [s]) _ (by rw [ea]; omega) st (by rw [ea, show t.length + 1 + r.length = t.length + (s :: r).length by omega, he]; simp)
    refine ⟨y, ?_, by rw [show t ++ s :: r = (t ++ [s]) ++ r by simp]; exact y2⟩
    show (if s ∈ x.L then _ else none) = _
    rw [if_pos hs, if_neg (by omega)]
    rw [ea] at y1
    exact y1
theorem wRun_snoc (n c s : Nat) : ∀ (r : List Nat) (b : Nat) (x : Wst), wRun n c b (r ++ [s]) x = (wRun n c b r x).bind fun y => wRun n c (b + r.length) [s] y
  | [], b, x => rfl
  | u :: r, b, x => by
    show (if u ∈ x.L then _ else none) = Option.bind (if u ∈ x.L then _ else none) _
    by_cases h1 : u ∈ x.L
    · rw [if_pos h1, if_pos h1]
      by_cases h2 : (wStep n c b u x).hi ≤ (wStep n c b u x).lo
      · rw [if_pos h2, if_pos h2]
        rfl
      · rw [if_neg h2, if_neg h2]
        have := wRun_snoc n c s r (b + 1) (wStep n c b u x)
        rw [show (u :: r).length = r.length + 1 from rfl, show b + (r.length + 1) = b + 1 + r.length by omega]
        exact this
    · rw [if_neg h1, if_neg h1]
      rfl
/-- where the numbers of the first i continuations end -/
def cutAt (w : Nat) (y : Wst) (i : Nat) : Int := min y.hi (max y.lo ((w : Int) * (i : Int) - y.mv))
end Ef
namespace Ef
/-! ### sets and their numbers -/
def many (k : Nat) : Nat → Nat
  | 0 => 0
  | j + 1 => C k j
theorem C_many (k j : Nat) : C (k + 1) j = many k j + C k j := by
  cases j with
  | zero => rw [C_zero, C_zero]; rfl
  | succ j => exact C_ss k j
theorem binZ_many (k j : Nat) : binZ (k : Int) ((j : Int) - 1) = (many k j : Int) := by
  cases j with
  | zero => exact if_pos (.inl (by decide))
  | succ j =>
    rw [show ((j + 1 : Nat) : Int) - 1 = (j : Int) by omega]
    exact binZ_nat k j
/-- the set with the number r among those of j of the k servers from s on -/
def unr : Nat → Nat → Nat → Nat → List Nat
  | _, 0, _, _ => []
  | s, k + 1, j, r => if r < many k j then s :: unr (s + 1) k (j - 1) r else unr (s + 1) k j (r - many k j)
/-- the number of a set among those of its size of the k servers from s on -/
def rnk : Nat → Nat → List Nat → Nat
  | _, 0, _ => 0
  | s, k + 1, ms => if ms.head? = some s then rnk (s + 1) k ms.tail else many k ms.length + rnk (s + 1) k ms
def Sub (s k : Nat) (ms : List Nat) : Prop := ms.Pairwise (· < ·) ∧ ∀ m ∈ ms, s ≤ m ∧ m < s + k
theorem unr_spec : ∀ (k s j r : Nat), r < C k j → (unr s k j r).length = j ∧ Sub s k (unr s k j r) ∧ rnk s k (unr s k j r) = r
  | 0, s, j, r, h => by
    cases j with
    | zero =>
      have h0 : r < 1 := h
      exact ⟨rfl, ⟨List.Pairwise.nil, fun m hm => absurd hm List.not_mem_nil⟩, by show 0 = r; omega⟩
    | succ j => exact absurd h (Nat.not_lt_zero _)
  | k + 1, s, j, r, h => by
    rw [C_many] at h
    by_cases c : r < many k j
    · have e : unr s (k + 1) j r = s :: unr (s + 1) k (j - 1) r := if_pos c
      cases j with
      | zero => exact absurd c (Nat.not_lt_zero _)
      | succ j =>
        obtain ⟨h1, h2, h3⟩ := unr_spec k (s + 1) j r c
        rw [e]
        refine ⟨?_, ⟨?_, ?_⟩, ?_⟩
        · show (unr (s + 1) k j r).length + 1 = j + 1
          rw [h1]
        · refine List.Pairwise.cons (fun m hm => ?_) h2.1
          have := h2.2 m hm
          omega
        · intro m hm
          rcases List.mem_cons.mp hm with rfl | hm
          · omega
          · have := h2.2 m hm
            omega
        · have e3 : rnk s (k + 1) (s :: unr (s + 1) k j r) = rnk (s + 1) k (unr (s + 1) k j r) := if_pos rfl
          exact e3.trans h3
    · have e : unr s (k + 1) j r = unr (s + 1) k j (r - many k j) := if_neg c
      obtain ⟨h1, h2, h3⟩ := unr_spec k (s + 1) j (r - many k j) (by omega)
      rw [e]
      refine ⟨h1, ⟨h2.1, fun m hm => by have := h2.2 m hm; omega⟩, ?_⟩
      have hh : ¬ (unr (s + 1) k j (r - many k j)).head? = some s := fun z => by
        have hm : s ∈ unr (s + 1) k j (r - many k j) := List.mem_of_mem_head? z
        have := h2.2 s hm
        omega
      show (if (unr (s + 1) k j (r - many k j)).head? = some s then _ else many k (unr (s + 1) k j (r - many k j)).length + rnk (s + 1) k (unr (s + 1) k j (r - many k j))) = r
      rw [if_neg hh, h1, h3]
      omega
theorem rnk_spec : ∀ (k s : Nat) (ms : List Nat), Sub s k ms → rnk s k ms < C k ms.length ∧ unr s k ms.length (rnk s k ms) = ms
  | 0, s, ms, h => by
    cases ms with
    | nil => exact ⟨Nat.one_pos, rfl⟩
    | cons m r =>
      have := h.2 m List.mem_cons_self
      omega
  | k + 1, s, ms, h => by
    by_cases c : ms.head? = some s
    · cases ms with
      | nil => cases c
      | cons m t =>
        obtain rfl : m = s := Option.some.inj c
        have ht : Sub (m + 1) k t := ⟨(List.pairwise_cons.mp h.1).2, fun x hx => by
          have h1 := (List.pairwise_cons.mp h.1).1 x hx
          have h2 := h.2 x (List.mem_cons_of_mem _ hx)
          omega⟩
        obtain ⟨h1, h2⟩ := rnk_spec k (m + 1) t ht
        have e : rnk m (k + 1) (m :: t) = rnk (m + 1) k t := if_pos rfl
        rw [e]
        have hm : rnk (m + 1) k t < many k (t.length + 1) := h1
        refine ⟨?_, ?_⟩
        · rw [C_many]
          exact Nat.lt_of_lt_of_le hm (Nat.le_add_right _ _)
        · show unr m (k + 1) (t.length + 1) (rnk (m + 1) k t) = m :: t
          have e2 : unr m (k + 1) (t.length + 1) (rnk (m + 1) k t) = m :: unr (m + 1) k t.length (rnk (m + 1) k t) := if_pos hm
          rw [e2, h2]
    · have hs : Sub (s + 1) k ms := ⟨h.1, fun x hx => by
        have h2 := h.2 x hx
        have hne : x ≠ s := fun z => by
          subst z
          cases ms with
          | nil => cases hx
          | cons m t =>
            rcases List.mem_cons.mp hx with z | hx
            · exact c (by rw [z]; rfl)
            · have h3 := (List.pairwise_cons.mp h.1).1 x hx
              have h4 := h.2 m List.mem_cons_self
              omega
        omega⟩
      obtain ⟨h1, h2⟩ := rnk_spec k (s + 1) ms hs
      have e : rnk s (k + 1) ms = many k ms.length + rnk (s + 1) k ms := if_neg c
      rw [e]
      refine ⟨by rw [C_many]; omega, ?_⟩
      have e2 : unr s (k + 1) ms.length (many k ms.length + rnk (s + 1) k ms) = unr (s + 1) k ms.length (many k ms.length + rnk (s + 1) k ms - many k ms.length) := if_neg (by omega)
      rw [e2, Nat.add_sub_cancel_left, h2]
/-! the small sets, one after the other -/
def allG (few : Nat) : Nat → List (List Nat)
  | 0 => [[]]
  | i + 1 => allG few i ++ ((allG few i).filter fun s => decide (s.length < few)).map fun s => s ++ [i]
def allS (n few : Nat) : List (List Nat) := (allG few n).filter fun s => decide (s.length = few)
def inOrder (n few : Nat) : List (List Nat) := (List.range (C n few)).map (unr 0 n few)
def codeN : List Nat → Nat
  | [] => 0
  | d :: r => d * 8 ^ r.length + codeN r
def smallOk (n few : Nat) : Bool := (allS n few).isPerm (inOrder n few) && decide ((inOrder n few).Pairwise fun a b => codeN a < codeN b)
theorem small_sets : ((List.range 6).all fun i => (List.range (i + 3)).all fun few => smallOk (i + 2) few) = true := by decide +kernel
theorem small_lens : ((List.range 6).all fun i => (List.range (i + 3)).all fun few => decide (C (i + 2) few < 64) && (allS (i + 2) few).all fun s => decide (s.length = few) && s.all fun m => decide (m < 8)) = true := by decide +kernel
theorem gen_lens : ((List.range 6).all fun i => (List.range (i + 3)).all fun few => (List.range (i + 3)).all fun t => decide ((allG few t).length ≤ 200) && (allG few t).all fun s => decide (s.length ≤ 8)) = true := by decide +kernel
theorem small_sets' {n k : Nat} (h2 : 2 ≤ n) (h7 : n ≤ 7) (hk : k ≤ n) : (allS n k).Perm (inOrder n k) ∧ (inOrder n k).Pairwise (fun a b => codeN a < codeN b) ∧ C n k < 64 ∧ ∀ s ∈ allS n k, s.length = k ∧ ∀ m ∈ s, m < 8 := by
  obtain ⟨i, rfl⟩ : ∃ i, n = i + 2 := ⟨n - 2, by omega⟩
  have h1 := List.all_eq_true.mp (List.all_eq_true.mp small_sets i (List.mem_range.mpr (by omega))) k (List.mem_range.mpr (by omega))
  unfold smallOk at h1
  rw [Bool.and_eq_true] at h1
  have h3 := List.all_eq_true.mp (List.all_eq_true.mp small_lens i (List.mem_range.mpr (by omega))) k (List.mem_range.mpr (by omega))
  rw [Bool.and_eq_true] at h3
  refine ⟨List.isPerm_iff.mp h1.1, of_decide_eq_true h1.2, of_decide_eq_true h3.1, fun s hs => ?_⟩
  have h4 := List.all_eq_true.mp h3.2 s hs
  rw [Bool.and_eq_true] at h4
  exact ⟨of_decide_eq_true h4.1, fun m hm => of_decide_eq_true (List.all_eq_true.mp h4.2 m hm)⟩
theorem gen_lens' {n k t : Nat} (h2 : 2 ≤ n) (h7 : n ≤ 7) (hk : k ≤ n) (ht : t ≤ n) : (allG k t).length ≤ 200 ∧ ∀ s ∈ allG k t, s.length ≤ 8 := by
  obtain ⟨i, rfl⟩ : ∃ i, n = i + 2 := ⟨n - 2, by omega⟩
  have h1 := List.all_eq_true.mp (List.all_eq_true.mp (List.all_eq_true.mp gen_lens i (List.mem_range.mpr (by omega))) k (List.mem_range.mpr (by omega))) t (List.mem_range.mpr (by omega))
  rw [Bool.and_eq_true] at h1
  exact ⟨of_decide_eq_true h1.1, fun s hs => of_decide_eq_true (List.all_eq_true.mp h1.2 s hs)⟩
theorem code_inj {L : List (List Nat)} (h : L.Pairwise fun a b => codeN a < codeN b) {a b : List Nat} (ha : a ∈ L) (hb : b ∈ L) (e : codeN a = codeN b) : a = b := by
  induction L with
  | nil => cases ha
  | cons x r ih =>
    obtain ⟨h1, h2⟩ := List.pairwise_cons.mp h
    rcases List.mem_cons.mp ha with e1 | ha2
    · rcases List.mem_cons.mp hb with e2 | hb2
      · rw [e1, e2]
      · have := h1 b hb2
        rw [← e1] at this
        omega
    · rcases List.mem_cons.mp hb with e2 | hb2
      · have := h1 a ha2
        rw [← e2] at this
        omega
      · exact ih h2 ha2 hb2
theorem order_unique {L M : List (List Nat)} (hM : M.Pairwise fun a b => codeN a < codeN b) (hL : L.Pairwise fun a b => codeN a ≤ codeN b) (h : L.Perm M) : L = M := by
  induction M generalizing L with
  | nil => exact List.perm_nil.mp h
  | cons x r ih =>
    cases L with
    | nil => exact absurd h.length_eq (by simp)
    | cons y t =>
      obtain ⟨h1, h2⟩ := List.pairwise_cons.mp hM
      obtain ⟨h3, h4⟩ := List.pairwise_cons.mp hL
      have hyx : y = x := by
        have hy : y ∈ x :: r := h.mem_iff.mp List.mem_cons_self
        have hx : x ∈ y :: t := h.mem_iff.mpr List.mem_cons_self
        rcases List.mem_cons.mp hy with e | hy
        · exact e
        · rcases List.mem_cons.mp hx with e | hx
          · exact e.symm
          · have h5 := h1 y hy
            have h6 := h3 x hx
            omega
      subst hyx
      rw [ih h2 h4 h.cons_inv]
end Ef
namespace Ef
open PySem PySem.Spec PyProof.Rows L2
/-! ### a call whose arguments are all given by name -/
def permL {α : Type} (perm : List Nat) (n : Nat) (us ws : List α) : List α :=
  if us.length = 0 ∧ ws.length = n then perm.filterMap (fun i => ws[i]?) else []
theorem paired_len {α β : Type} {F : α → β → Prop} : ∀ {l : List α} {m : List β}, Paired F l m → l.length = m.length
  | _, _, .nil => rfl
  | _, _, .cons _ t => congrArg (· + 1) (paired_len t)
theorem paired_at {α β : Type} {F : α → β → Prop} : ∀ {l : List α} {m : List β}, Paired F l m → ∀ i : Nat, (l[i]? = none ∧ m[i]? = none) ∨ ∃ x y, l[i]? = some x ∧ m[i]? = some y ∧ F x y
  | _, _, .nil, _ => .inl ⟨rfl, rfl⟩
  | _, _, .cons h _, 0 => .inr ⟨_, _, rfl, rfl, h⟩
  | _, _, .cons _ t, i + 1 => by
    rw [List.getElem?_cons_succ, List.getElem?_cons_succ]
    exact paired_at t i
theorem paired_pick {α β : Type} {F : α → β → Prop} {l : List α} {m : List β} (h : Paired F l m) : ∀ perm : List Nat, Paired F (perm.filterMap (fun i => l[i]?)) (perm.filterMap (fun i => m[i]?))
  | [] => .nil
  | i :: r => by
    rcases paired_at h i with ⟨e1, e2⟩ | ⟨x, y, e1, e2, f⟩
    · rw [List.filterMap_cons_none e1, List.filterMap_cons_none e2]
      exact paired_pick h r
    · rw [List.filterMap_cons_some e1, List.filterMap_cons_some e2]
      exact .cons f (paired_pick h r)
theorem permL_rel {perm : List Nat} {n : Nat} {vs zs : List V} {us ws : List Value} (r : Vals vs us) (rz : Vals zs ws) : Vals (permL perm n vs zs) (permL perm n us ws) := by
  unfold permL
  rw [paired_len r, paired_len rz]
  by_cases h : us.length = 0 ∧ ws.length = n
  · rw [if_pos h, if_pos h]
    exact paired_pick rz perm
  · rw [if_neg h, if_neg h]
    exact .nil
theorem kb_of {K : PySem.W.Frag} {fd : FuncData} {ps ks : List Str} {perm : List Nat} {n : Nat} (h0 : ps ≠ [])
    (h : ∀ ws : List Value, ws.length = n → bindArgs fd ⟨[], ks.zip ws⟩ = pure (ps.zip (perm.filterMap (fun i => ws[i]?)))) :
    KBinds K fd ps ks (permL perm n) (permL perm n) := by
  refine ⟨fun s us ws _ hl => ?_, fun r rz => permL_rel r rz⟩
  unfold permL at hl ⊢
  by_cases c : us.length = 0 ∧ ws.length = n
  · rw [if_pos c]
    have e : us = [] := List.length_eq_zero_iff.mp c.1
    subst e
    exact .of_eq (h ws c.2)
  · rw [if_neg c] at hl
    exact absurd (List.length_eq_zero_iff.mp hl.symm) h0
theorem Fun_kb {K : PySem.W.Frag} {x qual : Str} {st : Stmt} {f : Addr} {fd : FuncData} {ps ks : List Str} (perm : List Nat) (n : Nat) (F : Fun K x qual st f fd) (h0 : ps ≠ [])
    (h : ∀ (kV doc pm : Value) (an : Option Addr) (cdv ct : Value) (ws : List Value), ws.length = n → bindArgs (PySem.W.fnOf x qual (defArgs st) (defBody st) (defScope st) .none kV doc pm an cdv ct) ⟨[], ks.zip ws⟩ = pure (ps.zip (perm.filterMap (fun i => ws[i]?)))) :
    KBinds K fd ps ks (permL perm n) (permL perm n) := by
  obtain ⟨oc, od, kV, doc, pm, an, cdv, ct, osl, rfl, lk, hcd⟩ := F.ex
  exact kb_of h0 (h kV doc pm an cdv ct)
section
variable {X : Cx} {CX : CXT} {k : Nat} {f : Addr} {fd : FuncData} {ps ks : List Str} {sp : Sp} {E : XK} {x : Str} {p pos : Pos} {kws : List Keyword} {tk : TA}
variable {g : List Value → List Value → List Value} {gV : List V → List V → List V}
/-- f(k = v, ..) -/
theorem pe_kw (F : FnOk X.prog X.w X.K X.mg X.base CX k f fd ps sp) (hr : Room k X.A) (hg : Gl X x) (hm : X.mg x = some (.ref f))
    (hk : PySem.W.keepIn X.K (.ref f) = true) (hb : KBinds X.K fd ps ks g gV) (hx : Passes CX X E) (hkw : PK X kws tk)
    (a1 : (backToKw pos (keywordEach kws X.env)).all (fun z => z.1.isSome) = true := by rfl)
    (a2 : (backToKw pos (keywordEach kws X.env)).filterMap (fun z => z.1) = ks := by rfl)
    (a3 : (x == ("__debug__" : Str)) = false := by decide)
    (a4 : ((backTo pos (starEach [] X.env)).any (fun z => z.1) || (backToKw pos (keywordEach kws X.env)).any (fun z => z.1.isNone)) = false := by rfl) :
    PE X (.Call (.Name x p) [] kws pos) (tCallK sp gV E tNil tk) := by
  refine ⟨fun pins s σ H Q I h => wpAny_Call_Name_kw (ld_glob I hg hm ?_ a3)⟩
  refine PySem.W.callWith_KW0 (h₀ := X.base) I.ok.mod.kin hk a1 ?_ a4
  refine thn (hkw.run pos pins s σ H _ I h) fun ws s2 z => ?_
  obtain ⟨zs, H2, I2, rz, q2⟩ := z
  refine ⟨I2.kIn, ?_⟩
  rw [a2]
  exact run_fnk (us := []) (vs := []) F hr hb hx I2 .nil rz q2
end
/-! ### heaps -/
theorem same_new {H : Hp} {p : Addr} {o : HO} (h : H p = none) : Same H (upd H p o) := fun b x e => by
  rw [upd_ne (ne_of_none e h)]
  exact e
theorem keep_upd {H H1 : Hp} {p : Addr} {o : HO} (s : Same H H1) (h : H p = none) : Same H (upd H1 p o) := fun b x e => by
  rw [upd_ne (ne_of_none e h)]
  exact s b x e
/-- all but what stands at p is as it was -/
def But (p : Addr) (H H' : Hp) : Prop := ∀ b o, b ≠ p → H b = some o → H' b = some o
theorem But.refl (p : Addr) (H : Hp) : But p H H := fun _ _ _ e => e
theorem But.trans {p : Addr} {H H1 H2 : Hp} (s : But p H H1) (t : But p H1 H2) : But p H H2 := fun b o n e => t b o n (s b o n e)
theorem But.same {p : Addr} {H H1 H2 : Hp} (s : But p H H1) (t : Same H1 H2) : But p H H2 := fun b o n e => t b o (s b o n e)
theorem But.of {p : Addr} {H H1 : Hp} (t : Same H H1) : But p H H1 := fun b o _ e => t b o e
theorem But.upd {p : Addr} {H H1 : Hp} {o : HO} (s : But p H H1) : But p H (upd H1 p o) := fun b x n e => by
  rw [upd_ne n]
  exact s b x n e
theorem But.to {p : Addr} {H H1 : Hp} (s : But p H H1) (h : H p = none) : Same H H1 := fun b x e => s b x (ne_of_none e h) e
theorem But.seq {K : PySem.W.Frag} {p a : Addr} {H H' : Hp} {xs : List V} (e : But p H H') (n : a ≠ p) (h : SqL K H a xs) : SqL K H' a xs := by
  rcases h with (h | ⟨o, h⟩) | h
  · exact .inl (.inl (e _ _ n h))
  · exact .inl (.inr ⟨o, e _ _ n h⟩)
  · exact .inr h
end Ef
namespace Ef
open PySem PySem.Spec PyProof.Rows L2
/-! ### promises of defs that are called where no repr is under way -/
structure FnG (P : Program) (w : World) (K : PySem.W.Frag) (mg : Str → Option Value) (base : Heap) (CX : CXT) (k : Nat) (f : Addr) (fd : FuncData) (ps : List Str) (sp : Sp) : Prop where
  len : ∀ vs H Q E, sp vs H Q E → vs.length = ps.length
  run : ∀ (A : Around), A.guards = some [] → ∀ (outer : List Env) (s : Shared) (H : Hp) (args : Args) (us : List Value) (vs : List V) (Q : VK) (E : XK),
    Room k A → Env0 P w K mg base A outer s H → BindsTo s fd args (ps.zip us) → Vals vs us → sp vs H Q E →
      codeAny (model P w) A (.call (.ref f) args) (CR CX outer P w H s Q E) s
section
variable {P : Program} {w : World} {K : PySem.W.Frag} {mg : Str → Option Value} {base : Heap} {CX : CXT}
theorem FnG.of {k : Nat} {f : Addr} {fd : FuncData} {ps : List Str} {sp : Sp} (F : FnOk P w K mg base CX k f fd ps sp) : FnG P w K mg base CX k f fd ps sp :=
  ⟨F.len, fun A _ outer s H args us vs Q E => F.run A outer s H args us vs Q E⟩
theorem Fun_okG {x qual : Str} {st : Stmt} {f : Addr} {fd : FuncData} {N ps : List Str} {k : Nat} {sp : Sp} (F : Fun K x qual st f fd) (S : FnScope N ps (defScope st)) (len : ∀ vs H Q E, sp vs H Q E → vs.length = ps.length)
    (bod : ∀ (cdv : Value) (A : Around) (outer : List Env) (s : Shared) (H : Hp) (vs : List V) (Q : VK) (E : XK), A.guards = some [] → Room k (A.deeper (envOfC qual (defScope st) s.heap.objs.size f cdv)) → sp vs H Q E →
      ∃ t, PSs (cxOf CX P w K mg base N qual (defScope st) f cdv A outer s H E) (defBody st) t ∧ t { nx := fun _ H' => Q .non H', rt := Q } (start N vs) H) :
    FnG P w K mg base CX (k + 1) f fd ps sp := by
  obtain ⟨oc, od, kV, doc, pm, an, cdv, ct, osl, rfl, lk, hcd⟩ := F.ex
  refine ⟨len, fun A gd outer s H args us vs Q E room e0 bnd rel wish => ?_⟩
  have kin : K.In s.heap := e0.mod.kin.keeps fun b o z => (e0.bs b o z).1
  have nolim : s.heap.NoLimit := e0.mod.nolimit.keeps fun b o z => (e0.bs b o z).1
  refine codeAny_call_function room.depth (kin _ _ lk) rfl S.co S.gen rfl (PySem.W.codeRec_of kin hcd) (bnd _ _ _ _ ?_)
  refine wpAny_newFunctionEnv_cells S.kind ?_ fun env hev s1 ic => ?_
  · rintro ⟨n, v⟩ hy
    rcases S.par n (List.of_mem_zip hy).1 with z | z
    · exact .inl z
    · exact .inr ⟨z, PySem.W.cellsFrom_some _ _ _ (.inl z)⟩
  · subst hev
    refine ⟨nolim.keeps ic.toInCall.keep, codeAny_func ?_⟩
    obtain ⟨t, pt, rd⟩ := bod cdv A outer s H vs Q E gd (room.deeper _) wish
    have J0 := inv_start (CX := CX) (E := E) S room.hd e0 (len _ _ _ _ wish) rel ic
    refine wpAny_mono (pt.run [] s1 (start N vs) H _ J0 rd) (fun fl s' got => ?_) fun e s' got => got
    cases fl with
    | brk =>
      obtain ⟨_, _, _, z⟩ := got
      exact z.elim
    | cont =>
      obtain ⟨_, _, _, z⟩ := got
      exact z.elim
    | next =>
      obtain ⟨σ', H', J, z⟩ := got
      exact ⟨V.non, H', J.os, J.bare, J.base, J.hok, (rfl : RelV V.non Value.none), z⟩
    | ret u =>
      obtain ⟨v, σ', H', J, rv, z⟩ := got
      exact ⟨v, H', J.os, J.bare, J.base, J.hok, rv, z⟩
end
/-- the same of a def that lets no exception out -/
theorem Fun_ok0 {P : Program} {w : World} {K : PySem.W.Frag} {mg : Str → Option Value} {base : Heap} {x qual : Str} {st : Stmt} {f : Addr} {fd : FuncData} {N ps : List Str} {k : Nat} {sp : Sp} (F : Fun K x qual st f fd) (S : FnScope N ps (defScope st)) (len : ∀ vs H Q E, sp vs H Q E → vs.length = ps.length)
    (bod : ∀ (cdv : Value) (A : Around) (outer : List Env) (s : Shared) (H : Hp) (vs : List V) (Q : VK) (E : XK), A.guards = some [] → Room k (A.deeper (envOfC qual (defScope st) s.heap.objs.size f cdv)) → sp vs H Q E →
      ∃ t, PSs (cxOf CX0 P w K mg base N qual (defScope st) f cdv A outer s H E).nox (defBody st) t ∧ t { nx := fun _ H' => Q .non H', rt := Q } (start N vs) H) :
    FnG P w K mg base CX0 (k + 1) f fd ps sp :=
  Fun_okG F S len fun cdv A outer s H vs Q E gd room wish => by
    obtain ⟨t, pt, rd⟩ := bod cdv A outer s H vs Q E gd room wish
    exact ⟨t, pt.nox, rd⟩
section
variable {X : Cx} {CX : CXT} {k : Nat} {f : Addr} {fd : FuncData} {ps : List Str} {sp : Sp} {E : XK} {x : Str} {p pos : Pos} {e : Expr} {es : List Expr} {t : TA}
theorem run_G {pins : List (Addr × Obj)} {σ : L2.St} {H : Hp} {s : Shared} {Q : VK} {us : List Value} {vs : List V} (F : FnG X.prog X.w X.K X.mg X.base CX k f fd ps sp)
    (gd : X.A.guards = some []) (room : Room k X.A) (bnd : Binds X.K fd ps []) (pass : Passes CX X E) (I : Inv X pins σ H s) (rel : Vals vs us) (wish : sp vs H Q E) :
    wpAny (model X.prog X.w) X.A (call (.ref f) us) (EP X pins σ Q) X.xe s := by
  have hl : (us ++ []).length = ps.length := by
    rw [List.append_nil, ← rel.length]
    exact F.len _ _ _ _ wish
  have b1 := bnd s us I.kIn hl
  rw [List.append_nil] at b1
  refine wpAny_call (codeAny_mono (F.run X.A gd X.stack s H ⟨us, []⟩ us vs Q E room I.env0 b1 rel wish) fun res s' got => ?_)
  cases res with
  | error z => exact pass pins σ H s z s' I got
  | ok fl =>
    cases fl with
    | ret u => exact I.after got
    | next => exact got.elim
    | brk => exact got.elim
    | cont => exact got.elim
/-- f(e, ..) of a def whose promise holds where no repr is under way -/
theorem pe_callG (F : FnG X.prog X.w X.K X.mg X.base CX k f fd ps sp) (gd : X.A.guards = some []) (room : Room k X.A) (hg : Gl X x) (hm : X.mg x = some (.ref f))
    (hk : PySem.W.keepIn X.K (.ref f) = true) (bnd : Binds X.K fd ps []) (pass : Passes CX X E) (ha : PA X (e :: es) t)
    (a1 : (x == ("__debug__" : Str)) = false := by decide) (a2 : starEach (e :: es) X.env = (false, eval e X.env) :: starEach es X.env := by rfl)
    (a3 : (backTo pos (starEach es X.env)).any (fun z => z.1) = false := by rfl) :
    PE X (.Call (.Name x p) (e :: es) [] pos) (tCall sp [] E t) := by
  refine ⟨fun pins s σ H Q I h => wpAny_Call_Name_kw (ld_glob I hg hm ?_ a1)⟩
  refine PySem.W.callWith_K (h₀ := X.base) I.ok.mod.kin hk (thn (ha.run pos pins s σ H _ I h) fun us s1 z => ?_) a2 a3
  obtain ⟨vs, H1, I1, r, q⟩ := z
  rw [List.append_nil] at q
  exact ⟨I1.kIn, run_G F gd room bnd pass I1 r q⟩
end
/-! ### the law's own end, where no repr is under way -/
def scriptObj (vs : List Value) : Obj := { cls := .type "list", data := .seq vs.toArray }
def scriptHp (K : PySem.W.Frag) (a : Addr) (vs : List Value) (ns : List Int) : Hp := fun b => if b = a ∧ K.lookup a = none then some (.frz (scriptObj vs) (.lst (ns.map V.int))) else none
section
variable {K : PySem.W.Frag} {a : Addr} {vs : List Value} {ns : List Int}
theorem scriptHp_only : Only (scriptHp K a vs ns) := fun b => by
  unfold scriptHp
  by_cases c : b = a ∧ K.lookup a = none
  · exact .inr ⟨_, _, if_pos c⟩
  · exact .inl (if_neg c)
theorem scriptHp_some {b : Addr} {u : HO} (h : scriptHp K a vs ns b = some u) : b = a ∧ K.lookup a = none ∧ u = .frz (scriptObj vs) (.lst (ns.map V.int)) := by
  unfold scriptHp at h
  by_cases c : b = a ∧ K.lookup a = none
  · rw [if_pos c] at h
    exact ⟨c.1, c.2, (Option.some.inj h).symm⟩
  · rw [if_neg c] at h
    cases h
theorem scriptHp_none {b : Addr} {o : Obj} {h : Heap} (ha : h.get? a = some (scriptObj vs)) (e : h.get? b = some o) (hd : ∀ its n, o.data ≠ .seq its n) : scriptHp K a vs ns b = none := by
  cases q : scriptHp K a vs ns b with
  | none => rfl
  | some u =>
    obtain ⟨rfl, _, _⟩ := scriptHp_some q
    rw [ha] at e
    cases e
    exact absurd rfl (hd vs.toArray _)
theorem lawG {l : PySem.W.OpenLaw} {n k : Nat} {q : Program} {loose : List Str} {XP : (Str → Option Value) → Heap → Prop} {YP : World → Heap → Prop} {d : DefRec} {K : Params → PySem.W.Frag} {sp : World → Sp} {x : Str}
    (hn : l.most = some n) (hn2 : n ≤ sizeLine) (hdf : d.params.defaults = []) (room : Room k callerA)
    (hY : ∀ (w : World) (h : Heap), YP w h → (K w.params).In h)
    (F : ∀ (w : World) (mg : Str → Option Value) (fa : Addr) (h : Heap), (K w.params).In h → h.Ns mainGlobals mg → mg d.name = some (.ref fa) →
      ∃ fd : FuncData, (∀ (s : Shared) (u : Value), BindsTo s fd ⟨[u], []⟩ [(x, u)]) ∧
        ∀ base : Heap, (K w.params).In base → base.Ns mainGlobals mg → FnG l.prog w (K w.params) mg base CX0 k fa fd [x] (sp w))
    (hsp : ∀ (w : World) (H : Hp) (a : Addr) (ns : List Int), ns.length ≤ n → Only H → SqL (K w.params) H a (ns.map V.int) → sp w [.ref a] H (fun v _ => v = .bl true) fun _ _ _ => False) :
    PySem.W.WalkO q loose XP YP l.row.toRowW d [] (fun f vs => PySem.call f vs) := by
  refine Att.attach_call hn hdf fun w s₀ s₁ mg mb fa o pm cd doc a vs ns G Y ho hd hcd hmg hobj hints hlen hgen => ?_
  have kin := hY w _ Y
  obtain ⟨fd, bnd, FF⟩ := F w mg fa _ kin G.T.g hmg
  have ha : s₁.heap.get? a = some (scriptObj vs) := hobj
  have short : ns.length ≤ sizeLine := Nat.le_trans hlen hn2
  have keep0 : ∀ {b : Addr} {o : Obj}, s₁.heap.get? b = some o → scriptHp (K w.params) a vs ns b = none → (hidT s₁.heap (scriptHp (K w.params) a vs ns)).get? b = some o := fun e z => hidT_get e z
  have nsK : ∀ {b : Addr} {m : Str → Option Value}, s₁.heap.Ns b m → (hidT s₁.heap (scriptHp (K w.params) a vs ns)).Ns b m := by
    rintro b m ⟨o, es, ep, e, dd, r⟩
    exact ⟨o, es, ep, keep0 e (scriptHp_none ha e fun its n z => by rw [dd] at z; cases z), dd, r⟩
  have kinB : (K w.params).In (hidT s₁.heap (scriptHp (K w.params) a vs ns)) := fun b o e => keep0 (kin b o e) (by
    cases z : scriptHp (K w.params) a vs ns b with
    | none => rfl
    | some u =>
      obtain ⟨rfl, z2, _⟩ := scriptHp_some z
      rw [z2] at e
      cases e)
  have hM : Mod (K w.params) mg (hidT s₁.heap (scriptHp (K w.params) a vs ns)) := by
    obtain ⟨mc, h1, h2⟩ := G.T.nolimit
    exact ⟨kinB, nsK G.T.g, ⟨mb, nsK G.T.b, G.T.builtins⟩, ⟨mc, nsK h1, h2⟩⟩
  have hok : HOk l.prog w (scriptHp (K w.params) a vs ns) s₁.heap := fun b u z => by
    obtain ⟨rfl, _, rfl⟩ := scriptHp_some z
    exact ⟨ha, by rw [List.length_map]; exact short, vs, _, vals_ints hints, ha⟩
  have hS : SqL (K w.params) (scriptHp (K w.params) a vs ns) a (ns.map V.int) := by
    cases hk : (K w.params).lookup a with
    | none => exact .inl (.inr ⟨scriptObj vs, if_pos ⟨rfl, hk⟩⟩)
    | some o =>
      have e := kin a o hk
      rw [ha] at e
      obtain rfl := Option.some.inj e
      exact .inr ⟨_, vs.toArray, _, hk, rfl, rfl, rfl, by rw [List.size_toArray, hints.length]; exact short, by simpa using vals_ints hints⟩
  have e0 : Env0 l.prog w (K w.params) mg (hidT s₁.heap (scriptHp (K w.params) a vs ns)) callerA [] s₁ (scriptHp (K w.params) a vs ns) :=
    ⟨rfl, hM, fun b o e => of_hidT e, Nat.le_of_eq (hidT_size _ _), trivial, fun b z => absurd (show b ∈ ([] : List Addr) from z) (by simp), hok, .of_eq hgen⟩
  refine codeAny_mono ((FF _ kinB (nsK G.T.g)).run callerA rfl [] s₁ _ ⟨[.ref a], []⟩ [.ref a] [.ref a] _ _ room e0 (bnd s₁ (.ref a)) (.cons rfl .nil) (hsp w _ a ns hlen scriptHp_only hS)) fun r s' got => ?_
  cases r with
  | error e => exact got.elim
  | ok fl =>
    cases fl with
    | next => exact got.elim
    | brk => exact got.elim
    | cont => exact got.elim
    | ret u =>
      obtain ⟨v, H', os, bare, un, hok', rv, z⟩ := got
      obtain rfl : v = .bl true := z
      obtain rfl : u = Value.bool true := rv
      refine ⟨rfl, OldK.of_keep fun b o e => ?_, os, bare⟩
      cases z : scriptHp (K w.params) a vs ns b with
      | none => exact un.keep b o e z (fun y => absurd (show b ∈ ([] : List Addr) from y) (by simp)) (by simp)
      | some u =>
        obtain ⟨_, _, rfl⟩ := scriptHp_some z
        have z2 := un.frzs b _ _ z
        obtain ⟨e1, _⟩ := hok b _ z
        obtain ⟨e2, _⟩ := hok' b _ z2
        rw [e] at e1
        obtain rfl := Option.some.inj e1
        exact e2
end
/-! ### repr of data -/
theorem Dp_ref {K : PySem.W.Frag} {H : Hp} {v : V} {d : PyData} (h : Dp K H v d) : (∃ a, v = .ref a) ∨ (v = .non ∧ d = .none) ∨ (∃ b, v = .bl b ∧ d = .bool b) ∨ (∃ i, v = .int i ∧ d = .int i) ∨ ∃ x, v = .str x ∧ d = .str x := by
  cases h with
  | non => exact .inr (.inl ⟨rfl, rfl⟩)
  | bl b => exact .inr (.inr (.inl ⟨b, rfl, rfl⟩))
  | int i => exact .inr (.inr (.inr (.inl ⟨i, rfl, rfl⟩)))
  | str x => exact .inr (.inr (.inr (.inr ⟨x, rfl, rfl⟩)))
  | lst _ _ => exact .inl ⟨_, rfl⟩
  | tup _ _ => exact .inl ⟨_, rfl⟩
/-- data that can be shown: not deeper than dp, not heavier than wt -/
structure Sh (dp wt : Nat) (d : PyData) : Prop where
  can : d.canLay0 = true
  dep : d.depth ≤ dp
  shw : d.showable = true
  lvs : d.leavesShort 200 = true
  wgt : d.weight ≤ wt
structure ShAll (dp wt : Nat) (ds : List PyData) : Prop where
  can : PyData.canLayAll0 ds = true
  dep : PyData.depthAll ds ≤ dp
  shw : PyData.showableAll ds = true
  lvs : PyData.leavesShortAll 200 ds = true
  wgt : PyData.weightAll ds ≤ wt
theorem Sh.mono {dp wt dp' wt' : Nat} {d : PyData} (h : Sh dp wt d) (h1 : dp ≤ dp') (h2 : wt ≤ wt') : Sh dp' wt' d := ⟨h.can, Nat.le_trans h.dep h1, h.shw, h.lvs, Nat.le_trans h.wgt h2⟩
theorem ShAll.mono {dp wt dp' wt' : Nat} {ds : List PyData} (h : ShAll dp wt ds) (h1 : dp ≤ dp') (h2 : wt ≤ wt') : ShAll dp' wt' ds := ⟨h.can, Nat.le_trans h.dep h1, h.shw, h.lvs, Nat.le_trans h.wgt h2⟩
theorem Sh.none : Sh 0 0 .none := ⟨rfl, Nat.le_refl _, rfl, rfl, Nat.le_refl _⟩
theorem Sh.bool (b : Bool) : Sh 0 0 (.bool b) := ⟨rfl, Nat.le_refl _, rfl, rfl, Nat.le_refl _⟩
theorem Sh.int {b : Nat} (h0 : 0 < b) (h6 : b ≤ 600) {i : Int} (h : i.natAbs < 2 ^ b) : Sh 0 b (.int i) := by
  have l2 := PySem.Flt.log2_lt_of h0 h
  refine ⟨rfl, Nat.le_refl _, decide_eq_true (by omega), decide_eq_true ?_, ?_⟩
  · have h1 : i.natAbs < 10 ^ 199 := Nat.lt_of_lt_of_le h (Nat.le_trans (Nat.pow_le_pow_right (by decide) h6) (by decide +kernel))
    have e := int_text_length_le10 (k := 199) (by decide) h1
    show (Str.ofString (toString i)).length ≤ 200
    rw [PySem.ofString_length]
    exact e
  · show (if i == 0 then 0 else i.natAbs.log2 + 1) ≤ b
    split <;> omega
theorem Sh.tup {dp wt : Nat} {ds : List PyData} (h : ShAll dp wt ds) : Sh (dp + 1) wt (.tuple ds) := ⟨h.can, Nat.add_le_add_right h.dep 1, h.shw, h.lvs, h.wgt⟩
theorem Sh.lst {dp wt : Nat} {ds : List PyData} (h : ShAll dp wt ds) : Sh (dp + 1) wt (.list ds) := ⟨h.can, Nat.add_le_add_right h.dep 1, h.shw, h.lvs, h.wgt⟩
theorem ShAll.nil : ShAll 0 0 [] := ⟨rfl, Nat.le_refl _, rfl, rfl, Nat.le_refl _⟩
theorem ShAll.cons {dp wt wt' : Nat} {d : PyData} {ds : List PyData} (h : Sh dp wt d) (t : ShAll dp wt' ds) : ShAll dp (wt + 1 + wt') (d :: ds) := by
  refine ⟨?_, Nat.max_le.mpr ⟨h.dep, t.dep⟩, ?_, ?_, ?_⟩
  · show (d.canLay0 && PyData.canLayAll0 ds) = true
    rw [h.can, t.can]
    rfl
  · show (d.showable && PyData.showableAll ds) = true
    rw [h.shw, t.shw]
    rfl
  · show (d.leavesShort 200 && PyData.leavesShortAll 200 ds) = true
    rw [h.lvs, t.lvs]
    rfl
  · show d.weight + 1 + PyData.weightAll ds ≤ wt + 1 + wt'
    have h1 := h.wgt
    have h2 := t.wgt
    omega
theorem ShAll.ints {b : Nat} (h0 : 0 < b) (h6 : b ≤ 600) : ∀ {ns : List Int}, (∀ x ∈ ns, x.natAbs < 2 ^ b) → ShAll 0 ((b + 1) * ns.length) (ns.map PyData.int)
  | [], _ => ShAll.nil
  | x :: r, h => by
    have h1 := ShAll.cons (Sh.int h0 h6 (h x List.mem_cons_self)) (ShAll.ints h0 h6 fun y hy => h y (List.mem_cons_of_mem _ hy))
    exact h1.mono (Nat.le_refl _) (by rw [List.length_cons, Nat.mul_succ]; omega)
theorem Sh.shaped {dp wt : Nat} {d : PyData} (h : Sh dp wt d) (h1 : dp ≤ 64) : SeqAt.shaped d = true := by
  unfold SeqAt.shaped
  rw [h.can]
  exact decide_eq_true (Nat.le_trans h.dep h1)
theorem Sh.fits {dp wt : Nat} {d : PyData} (h : Sh dp wt d) (h1 : wt ≤ 80000) : d.shown.length ≤ sizeLine := by
  have h2 := PyData.shown_le 200 (by decide) d h.lvs
  have h3 := h.wgt
  have h4 : (200 + 2) * d.weight ≤ 202 * 80000 := Nat.mul_le_mul (by omega) (by omega)
  have h5 : sizeLine = 16777216 := by decide
  omega
theorem dp_ints {K : PySem.W.Frag} {H : Hp} : ∀ ns : List Int, DpAll K H (ns.map V.int) (ns.map PyData.int)
  | [] => .nil
  | n :: r => .cons (.int n) (dp_ints r)
theorem eqvAll_ints : ∀ ns : List Int, PyData.eqvAll (ns.map PyData.int) (ns.map PyData.int) = true
  | [] => rfl
  | n :: r => by
    show (PyData.eqv (.int n) (.int n) && PyData.eqvAll (r.map PyData.int) (r.map PyData.int)) = true
    rw [eqvAll_ints r]
    show ((n == n) && true) = true
    rw [beq_self_eq_true]
    rfl
section
variable {X : Cx}
/-- repr(x), x data: its text -/
theorem call_reprD (gd : X.A.guards = some []) (hu : X.A.units + 66 < cLine) : CallR X (.builtin "repr") (fun xs H Q => ∃ v d, xs = [v] ∧ Dp X.K H v d ∧ Sh 60 80000 d ∧ Q (.str d.shown) H) := by
  intro pins s σ H xs us Q I r h
  obtain ⟨v, d, rfl, hD, hd, q⟩ := h
  have hsh := hd.shaped (by decide)
  have hsz := hd.fits (by decide)
  obtain ⟨u, rfl, ru⟩ := vals1 r
  rcases Dp_ref hD with ⟨a, rfl⟩ | ⟨rfl, rfl⟩ | ⟨b, rfl, rfl⟩ | ⟨i, rfl, rfl⟩ | ⟨x, rfl, rfl⟩
  · obtain rfl : u = Value.ref a := ru
    obtain ⟨as, rd⟩ := Dp.reads I d _ _ hD rfl
    have hdp := hd.dep
    refine repr_of_reads' rd hd.shw (PyData.noDict_hsm (PyData.hasDict_of_canLay d hd.can)) gd (by omega) (fun _ _ e => e) (fun h' u tk hk => ?_) hsz
    exact ⟨.str _, H, I.kept hk, ⟨u, rfl⟩, q⟩
  · obtain rfl : u = Value.none := ru
    exact P.repr_of_none ⟨.str _, H, I.tok _, ⟨_, rfl⟩, q⟩
  · obtain rfl : u = Value.bool b := ru
    exact P.repr_of_bool ⟨.str _, H, I.tok _, ⟨_, rfl⟩, q⟩
  · obtain ⟨t, rfl⟩ := ru
    exact P.repr_of_int (of_decide_eq_true hd.shw) ⟨.str _, H, I.tok _, ⟨_, rfl⟩, q⟩
  · obtain ⟨t, rfl⟩ := ru
    exact P.repr_of_str ⟨.str _, H, I.tok _, ⟨_, rfl⟩, q⟩ hsz
/-- a ** b of greater numbers -/
theorem op_powB : OpR X (binaryOp .Pow) (rI (fun i j => 0 ≤ j ∧ (Builtin.Int.intBits i : Int) * j ≤ 2 ^ 27) fun i j => .int (i ^ j.toNat)) := opI fun _ _ _ _ _ _ _ hc q => pow_int hc.1 hc.2 q
/-- set(t), t a tuple of ints -/
theorem cr_setT (hc : X.calm = true) : CallR X (.type "set") (fun xs H Q => ∃ (l : Addr) (ns : List Int), xs = [.ref l] ∧ SqT X.K H l (ns.map V.int) ∧ ns.length ≤ 1000 ∧
    ∀ (p : Addr) (c : Nat), H p = none → Q (.ref p) (upd H p (SetO X.w p (fun j => decide (j ∈ ns)) c))) := by
  intro pins s σ H xs us Q I r h
  obtain ⟨l, ns, rfl, hq, hl, q⟩ := h
  obtain ⟨u, rfl, ru⟩ := vals1 r
  obtain rfl : u = Value.ref l := ru
  obtain ⟨its, rv, pt, hz⟩ := I.tuple hq
  refine call_set_tupI ns (I.ok.hd hc) (show s.heap.IsTuple l its.toArray from pt) (ints_of_vals rv) (by unfold scanBound; omega) fun h' tk c R1 hcn k => ?_
  exact ⟨.ref _, _, I.laid (t' := tk) k (Nat.le_refl _) (setO_new R1), rfl, q _ c (I.hok.fresh (Nat.le_refl _))⟩
end

/-! ### the same rules with the written part as a letter (for comprehensions) -/
section
variable {X : Cx} (K : PySem.W.Frag)
theorem ix_listK (h : X.K = K := by rfl) : IxR X (rIxL K) := h ▸ ix_list
theorem ix_tupK (h : X.K = K := by rfl) : IxR X (rIxT K) := h ▸ ix_tup
theorem op_inK (h : X.K = K := by rfl) : OpR X (compareOp .In) (rIn K false) := h ▸ op_in_seq
theorem op_notInK (h : X.K = K := by rfl) : OpR X (compareOp .NotIn) (rIn K true) := h ▸ op_notIn_seq
def rLenK (K : PySem.W.Frag) : List V → Hp → VK → Prop := fun xs H Q => ∃ p ys, xs = [.ref p] ∧ (SqL K H p ys ∨ SqT K H p ys) ∧ Q (.int ys.length) H
theorem call_lenK (h : X.K = K := by rfl) : CallR X (.builtin "len") (rLenK K) := h ▸ call_len_seq
def rReprK (K : PySem.W.Frag) : List V → Hp → VK → Prop := fun xs H Q => ∃ v d, xs = [v] ∧ Dp K H v d ∧ Sh 60 80000 d ∧ Q (.str d.shown) H
theorem call_reprK (gd : X.A.guards = some []) (hu : X.A.units + 66 < cLine) (h : X.K = K := by rfl) : CallR X (.builtin "repr") (rReprK K) := h ▸ call_reprD gd hu
theorem call_isiK1 (h : X.K = K := by rfl) : CallR X (.builtin "isinstance") (rIsi K) := h ▸ call_isi
def rTupleK (K : PySem.W.Frag) : List V → Hp → VK → Prop := fun xs H Q => ∃ p ys, xs = [.ref p] ∧ ((SqL K H p ys ∧ ∀ l, H l = none → Q (.ref l) (upd H l (.tup ys))) ∨ (SqT K H p ys ∧ Q (.ref p) H))
theorem call_tupleK (h : X.K = K := by rfl) : CallR X (.type "tuple") (rTupleK K) := h ▸ call_tuple_of
def rListK (K : PySem.W.Frag) : List V → Hp → VK → Prop := fun xs H Q => ∃ p ys, xs = [.ref p] ∧ (SqL K H p ys ∨ SqT K H p ys) ∧ ∀ l, H l = none → Q (.ref l) (upd H l (.lst ys))
theorem call_listK (h : X.K = K := by rfl) : CallR X (.type "list") (rListK K) := h ▸ call_list_of
theorem op_eqDK (hu : X.A.units + 64 < cLine) (h : X.K = K := by rfl) : OpR X (compareOp .Eq) (rEqD K) := h ▸ op_eqD hu
theorem op_neDK (hu : X.A.units + 64 < cLine) (h : X.K = K := by rfl) : OpR X (compareOp .NotEq) (rNeD K) := h ▸ op_neD hu
end
end Ef
namespace Ef
open PySem PySem.Spec PyProof.Rows L2
/-! ### tuples: sums, parts, the other way round -/
theorem Same.seqT {K : PySem.W.Frag} {H H' : Hp} {a : Addr} {xs : List V} (e : Same H H') (h : SqT K H a xs) : SqT K H' a xs := by
  rcases h with (h | ⟨o, h⟩) | h
  · exact .inl (.inl (e _ _ h))
  · exact .inl (.inr ⟨o, e _ _ h⟩)
  · exact .inr h
theorem But.seqT {K : PySem.W.Frag} {p a : Addr} {H H' : Hp} {xs : List V} (e : But p H H') (n : ∀ o, H p = some o → a = p → False) (h : SqT K H a xs) : SqT K H' a xs := by
  rcases h with (h | ⟨o, h⟩) | h
  · exact .inl (.inl (e _ _ (fun z => n _ (z ▸ h) z) h))
  · exact .inl (.inr ⟨o, e _ _ (fun z => n _ (z ▸ h) z) h⟩)
  · exact .inr h
/-- t + u -/
def rCatS (K : PySem.W.Frag) : R2 := fun x y H Q => ∃ a b xs ys, x = .ref a ∧ y = .ref b ∧ SqT K H a xs ∧ SqT K H b ys ∧ xs.length + ys.length ≤ sizeLine ∧ ∀ p H', Same H H' → SqT K H' p (xs ++ ys) → Q (.ref p) H'
/-- t[lo:hi] -/
def rSlS (K : PySem.W.Frag) : V → Option Int → Option Int → Hp → VK → Prop := fun x lo hi H Q => ∃ a xs, x = .ref a ∧ SqT K H a xs ∧ ∀ p H', Same H H' → SqT K H' p (cutV xs lo hi) → Q (.ref p) H'
theorem cut_whole {xs : List V} {lo hi : Option Int} (h : HT.sIx xs.length 0 lo = 0 ∧ HT.sIx xs.length xs.length hi = xs.length) : cutV xs lo hi = xs := by
  unfold cutV
  rw [h.1, h.2]
  show (xs.drop 0).take (xs.length - 0) = xs
  rw [List.drop_zero, Nat.sub_zero]
  exact List.take_length
section
variable {X : Cx} (K : PySem.W.Frag)
theorem op_catS (h : X.K = K := by rfl) : OpR X (binaryOp .Add) (rCatS K) := by
  subst h
  intro pins s σ H x y v u Q I rx ry h
  obtain ⟨a, b, xs, ys, rfl, rfl, ha, hb, hz, q⟩ := h
  refine op_catA pins s σ H _ _ v u Q I rx ry ⟨a, b, xs, ys, rfl, rfl, ha, hb, hz, fun z => ?_, fun _ z => ?_, fun _ _ p np => ?_⟩
  · subst z
    exact q b H (Same.refl H) hb
  · subst z
    refine q a H (Same.refl H) ?_
    rw [List.append_nil]
    exact ha
  · exact q p _ (same_new np) (SqT.of upd_same)
theorem sl_tupS (h : X.K = K := by rfl) : SlR X (rSlS K) := by
  subst h
  intro pins s σ H x v vl vu lo hi sl Q I rx hs pl pu h
  obtain ⟨a, xs, rfl, hx, q⟩ := h
  refine sl_tupA pins s σ H _ v vl vu lo hi sl Q I rx hs pl pu ⟨a, xs, rfl, hx, fun z => ?_, fun _ p np => ?_⟩
  · refine q a H (Same.refl H) ?_
    rw [cut_whole z]
    exact hx
  · exact q p _ (same_new np) (SqT.of upd_same)
end
theorem fm_congr {α β : Type} {f g : α → Option β} : ∀ l : List α, (∀ x ∈ l, f x = g x) → l.filterMap f = l.filterMap g
  | [], _ => rfl
  | x :: r, h => by
    have h1 := h x List.mem_cons_self
    have h2 := fm_congr r fun y hy => h y (List.mem_cons_of_mem _ hy)
    cases e : f x with
    | none => rw [List.filterMap_cons_none e, List.filterMap_cons_none (h1 ▸ e), h2]
    | some b => rw [List.filterMap_cons_some e, List.filterMap_cons_some (h1 ▸ e), h2]
theorem range_pick {α : Type} : ∀ (n : Nat) (ys : List α), ys.length = n → (List.range n).filterMap (fun m => ys[m]?) = ys
  | 0, ys, h => by
    rw [List.length_eq_zero_iff.mp h]
    rfl
  | n + 1, ys, h => by
    have hne : ys ≠ [] := fun z => by
      rw [z] at h
      cases h
    have hl : ys.dropLast.length = n := by
      rw [List.length_dropLast]
      omega
    have e : ys = ys.dropLast ++ [ys.getLast hne] := (List.dropLast_concat_getLast hne).symm
    rw [List.range_succ, List.filterMap_append]
    have e1 : (List.range n).filterMap (fun m => ys[m]?) = ys.dropLast := by
      have e3 : (List.range n).filterMap (fun m => ys[m]?) = (List.range n).filterMap (fun m => ys.dropLast[m]?) := by
        refine fm_congr _ fun m hm => ?_
        have hm' : m < ys.dropLast.length := by
          rw [hl]
          exact List.mem_range.mp hm
        have e4 : (ys.dropLast ++ [ys.getLast hne])[m]? = ys.dropLast[m]? := List.getElem?_append_left hm'
        rw [← e4, List.dropLast_concat_getLast hne]
      rw [e3]
      exact range_pick n ys.dropLast hl
    have e2 : [n].filterMap (fun m => ys[m]?) = [ys.getLast hne] := by
      have : ys[n]? = some (ys.getLast hne) := by
        rw [List.getLast_eq_getElem hne, ← List.getElem?_eq_getElem]
        congr 1
        omega
      rw [List.filterMap_cons_some this]
      rfl
    rw [e1, e2]
    exact e.symm
theorem pick_back (xs : Array Value) : ((List.range xs.size).filterMap fun (m : Nat) => xs[(((xs.size : Int) - 1) + (m : Int) * (-1)).toNat]?).toArray = xs.toList.reverse.toArray := by
  congr 1
  have h : xs.toList.reverse.length = xs.size := by
    rw [List.length_reverse, Array.length_toList]
  rw [← range_pick xs.size xs.toList.reverse h]
  refine fm_congr _ fun m hm => ?_
  have hm' : m < xs.size := List.mem_range.mp hm
  have e : (((xs.size : Int) - 1) + (m : Int) * (-1)).toNat = xs.size - 1 - m := by omega
  rw [e, List.getElem?_reverse (by rw [Array.length_toList]; exact hm'), Array.length_toList, Array.getElem?_toList]
section
variable {prog : Program} {w : World} {A : Around} {E : Value → Shared → Prop} {s : Shared}
theorem tuple_back {t sl : Addr} {items : Array Value} {vl vu vs : Value} {Q : Value → Shared → Prop} (ht : IsTup s.heap t items) (hs : s.heap.IsSliceOf sl vl vu vs) (pl : PySem.IsPart vl none) (pu : PySem.IsPart vu none) (ps : PySem.IsPart vs (some (-1)))
    (h : Q (.ref s.heap.objs.size) { s with heap := s.heap.push { cls := .type "tuple", data := .seq items.toList.reverse.toArray } })
    (hsz : items.size ≤ sizeLine) : wpAny (model prog w) A (getItem (.ref t) (.ref sl)) Q E s := by
  have hfit : sizeOk (.seq items.toList.reverse.toArray) := by
    show items.toList.reverse.toArray.size ≤ sizeLine
    rw [List.size_toArray, List.length_reverse, Array.length_toList]
    exact hsz
  obtain ⟨os, hos, hcs, hds⟩ := id hs
  have tys : s.TypeIs (.ref sl) "slice" := ⟨os, hos, hcs⟩
  unfold getItem
  try with_reducible refine wpAny_holding ?_
  first | refine wpAny_bind (wpAny_pure ?_) | skip
  refine wpAny_bind (wpAny_sequenceKey ht.typeIs (by decide) ?_)
  refine wpAny_bind (wpAny_callSpecial?_slot (name := Str.ofString "__getitem__") ht.typeIs PyProof.Rows.slot_tuple_getitem
    (wpAny_call_entry PyProof.Rows.slot_tuple_getitem ht.typeIs PyProof.Rows.entry_tuple_getitem ?_ (PyProof.Rows.args_tuple_getitem _ _)))
  show wpAny _ _ (Builtin.Tuple.tupleItemsOf (.ref t) >>= _) _ _ s
  refine wpAny_bind (PyProof.Rows.tupleItemsOf_ ht ?_)
  refine wpAny_bind (wpAny_typeOf tys ?_)
  rw [if_pos (by decide)]
  have look : ∀ {B : Around} {E : Value → Shared → Prop} {R : Int × Int × Nat → Shared → Prop}, R (((items.size : Int) - 1), -1, items.size) s → wpAny (model prog w) B (Builtin.Slice.sliceApplied (.ref sl) (pure (items.size : Int))) R E s := fun {B E R} hR => by
    unfold Builtin.Slice.sliceApplied Builtin.Slice.sliceFields
    refine wpAny_bind (wpAny_bind (wpAny_field hos hds (x := vl) rfl (wpAny_bind (wpAny_field hos hds (x := vu) rfl (wpAny_bind (wpAny_field hos hds (x := vs) rfl (wpAny_pure ?_)))))))
    refine wpAny_bind (HT.slicePart_ ps ?_)
    show wpAny _ _ (if ((-1 : Int) == 0) = true then _ else _) _ _ s
    rw [if_neg (by decide)]
    refine wpAny_bind (HT.slicePart_ pl (wpAny_bind (HT.slicePart_ pu (wpAny_bind (wpAny_pure ?_)))))
    show wpAny _ _ (pure (((items.size : Int) - 1), (-1 : Int), Builtin.Slice.slicePlaces ((items.size : Int) - 1) (-1) (-1))) _ _ s
    have e : Builtin.Slice.slicePlaces ((items.size : Int) - 1) (-1) (-1) = items.size := by
      unfold Builtin.Slice.slicePlaces
      rw [if_neg (by decide)]
      by_cases c : ((items.size : Int) - 1) > -1
      · rw [if_pos c, show -(-1 : Int) = 1 from rfl, Int.ediv_one]
        omega
      · rw [if_neg c]
        omega
    rw [e]
    exact wpAny_pure hR
  refine wpAny_bind (look ?_)
  have no : ¬ ((((items.size : Int) - 1) == 0 && (-1 : Int) == 1 && items.size == items.size) = true) := by
    intro z
    rw [Bool.and_eq_true, Bool.and_eq_true] at z
    exact absurd z.1.2 (by decide)
  show wpAny _ _ (if (((items.size : Int) - 1) == 0 && (-1 : Int) == 1 && items.size == items.size) = true then _ else _) _ _ s
  rw [if_neg no, pick_back]
  first
    | exact wpAny_bind (m := Builtin.Tuple.tupleExact _) (wpAny_newObj_type (wpAny_pure ⟨_, rfl, wpAny_pure h⟩) hfit)
    | exact wpAny_bind (m := Builtin.Tuple.tupleExact _) (wpAny_newObj_type (wpAny_bind (wpAny_pure (wpAny_pure ⟨_, rfl, wpAny_pure h⟩))) hfit)
    | exact wpAny_bind (wpAny_bind (m := Builtin.Tuple.tupleExact _) (wpAny_newObj_type (wpAny_pure (wpAny_pure ⟨_, rfl, wpAny_pure h⟩)) hfit))
    | exact wpAny_bind (wpAny_bind (m := Builtin.Tuple.tupleExact _) (wpAny_newObj_type (wpAny_pure ⟨_, rfl, wpAny_pure h⟩) hfit))
end
/-! ### t[::-1] -/
def tRevT (K : PySem.W.Frag) (te : TE) : TE := fun σ H Q => te σ H fun x H1 => ∃ a xs, x = .ref a ∧ SqT K H1 a xs ∧ ∀ p, H1 p = none → Q (.ref p) (upd H1 p (.tup xs.reverse))
theorem pe_revT {X : Cx} {e : Expr} {te : TE} {k : Nat} {p1 p2 p3 pos : Pos} (he : PE X e te) : PE X (.Subscript e (.Slice none none (some (.UnaryOp .USub (.Constant (.int 1) k p1) p2)) p3) pos) (tRevT X.K te) := by
  refine ⟨fun pins s σ H Q I h => ?_⟩
  refine Subscript_ (thn (he.run pins s σ H _ I h) fun v s1 z1 => ?_)
  obtain ⟨x, H1, I1, r1, a, xs, ex, hx, q⟩ := z1
  subst ex
  cases r1
  have hst : PO X (some (.UnaryOp .USub (.Constant (.int 1) k p1) p2)) (tPart (tUn (rU fun i => .int (-i)) (tC (.int 1)))) := po_some (pe_un un_neg pe_int)
  refine wpAny_Slice (thn (po_none.run pins s1 σ H1 (fun o H2 => o = none ∧ H2 = H1) I1 ⟨rfl, rfl⟩) fun vl s2 z2 => ?_)
  obtain ⟨l, H2, I2, pl, rfl, rfl⟩ := z2
  refine thn (po_none.run pins s2 σ H2 (fun o H3 => o = none ∧ H3 = H2) I2 ⟨rfl, rfl⟩) fun vu s3 z3 => ?_
  obtain ⟨u, H3, I3, pu, rfl, rfl⟩ := z3
  refine thn (hst.run pins s3 σ H3 (fun o H4 => o = some (-1) ∧ H4 = H3) I3 ⟨1, rfl, -1, rfl, rfl, rfl⟩) fun vs s4 z4 => ?_
  obtain ⟨o, H4, I4, ps, rfl, rfl⟩ := z4
  have I5 : Inv X pins σ H4 { s4 with heap := s4.heap.push { cls := .type "slice", data := .fields #[vl, vu, vs] } } := I4.kept (t' := s4.toks) fun b ob z => Heap.get?_push_of_some _ z
  obtain ⟨its, r, ht, hz⟩ := I5.tuple hx
  show wpAny (model X.prog X.w) X.A (subscriptTail e (.Slice none none (some (.UnaryOp .USub (.Constant (.int 1) k p1) p2)) p3) (.ref a) (.ref s4.heap.objs.size)) (EP X pins σ Q) X.xe _
  refine tail_any (ops := [.ref a, .ref s4.heap.objs.size]) ht.typeIs (PyProof.Rows.slot_tuple_getitem.lookup) ?_ (by with_unfolding_all rfl)
  refine tuple_back ht (Heap.IsSliceOf.new _ vl vu vs) pl pu ps ?_ (by rw [List.size_toArray, ← r.length]; exact hz)
  refine ⟨.ref _, _, I5.laid (t' := s4.toks) (o := .tup xs.reverse) (fun b ob z => Heap.get?_push_of_some _ z) (Nat.le_refl _) ?_, rfl, q _ (I5.hok.fresh (Nat.le_refl _))⟩
  exact ⟨by rw [List.length_reverse]; exact hz, _, r.reverse, IsTup.new _ _⟩
end Ef
namespace Ef
open PySem PySem.Spec PyProof.Rows L2
/-! ### values of all sorts -/
mutual
theorem Dp.mono {K : PySem.W.Frag} {H H' : Hp} (s : Same H H') : ∀ {v : V} {d : PyData}, Dp K H v d → Dp K H' v d
  | _, _, .non => .non
  | _, _, .bl b => .bl b
  | _, _, .int i => .int i
  | _, _, .str x => .str x
  | _, _, .lst h t => .lst (s.seq h) (DpAll.mono s t)
  | _, _, .tup h t => .tup (Same.seqT s h) (DpAll.mono s t)
theorem DpAll.mono {K : PySem.W.Frag} {H H' : Hp} (s : Same H H') : ∀ {vs : List V} {ds : List PyData}, DpAll K H vs ds → DpAll K H' vs ds
  | _, _, .nil => .nil
  | _, _, .cons h t => .cons (Dp.mono s h) (DpAll.mono s t)
end
theorem DpAll.app {K : PySem.W.Frag} {H : Hp} : ∀ {xs ys : List V} {ds es : List PyData}, DpAll K H xs ds → DpAll K H ys es → DpAll K H (xs ++ ys) (ds ++ es)
  | _, _, _, _, .nil, t => t
  | _, _, _, _, .cons h r, t => .cons h (DpAll.app r t)
theorem dpAll_at {K : PySem.W.Frag} {H : Hp} : ∀ {xs : List V} {ds : List PyData}, DpAll K H xs ds → ∀ {i : Nat} {x : V}, xs[i]? = some x → ∃ d, ds[i]? = some d ∧ Dp K H x d
  | _, _, .nil, _, _, h => by cases h
  | _, _, .cons h _, 0, x, e => ⟨_, rfl, by rw [← Option.some.inj e]; exact h⟩
  | _, _, .cons _ t, i + 1, x, e => by
    rw [List.getElem?_cons_succ] at e ⊢
    exact dpAll_at t e
theorem dpAll_len {K : PySem.W.Frag} {H : Hp} : ∀ {xs : List V} {ds : List PyData}, DpAll K H xs ds → ds.length = xs.length
  | _, _, .nil => rfl
  | _, _, .cons _ t => congrArg (· + 1) (dpAll_len t)
theorem ShAll.app {dp w1 w2 : Nat} : ∀ {ds es : List PyData}, ShAll dp w1 ds → ShAll dp w2 es → ShAll dp (w1 + w2) (ds ++ es)
  | [], es, _, t => t.mono (Nat.le_refl _) (by omega)
  | d :: r, es, h, t => by
    have hc : (d.canLay0 && PyData.canLayAll0 r) = true := h.can
    have hs : (d.showable && PyData.showableAll r) = true := h.shw
    have hl : (d.leavesShort 200 && PyData.leavesShortAll 200 r) = true := h.lvs
    have hw : d.weight + 1 + PyData.weightAll r ≤ w1 := h.wgt
    have hd : max d.depth (PyData.depthAll r) ≤ dp := h.dep
    rw [Bool.and_eq_true] at hc hs hl
    rw [Nat.max_le] at hd
    have h1 : Sh dp d.weight d := ⟨hc.1, hd.1, hs.1, hl.1, Nat.le_refl _⟩
    have h2 : ShAll dp (PyData.weightAll r) r := ⟨hc.2, hd.2, hs.2, hl.2, Nat.le_refl _⟩
    exact (ShAll.cons h1 (ShAll.app h2 t)).mono (Nat.le_refl _) (by omega)
/-- all but what stands at p -/
def hide (p : Addr) (H : Hp) : Hp := fun b => if b = p then none else H b
theorem hide_ne {p b : Addr} {H : Hp} (n : b ≠ p) : hide p H b = H b := if_neg n
theorem hide_same (p : Addr) (H : Hp) : Same (hide p H) H := fun b o e => by
  by_cases c : b = p
  · unfold hide at e
    rw [if_pos c] at e
    cases e
  · rw [hide_ne c] at e
    exact e
theorem But.hide {p : Addr} {H H' : Hp} (s : But p H H') : Same (Ef.hide p H) (Ef.hide p H') := fun b o e => by
  by_cases c : b = p
  · unfold Ef.hide at e
    rw [if_pos c] at e
    cases e
  · rw [hide_ne c] at e ⊢
    exact s b o c e
theorem hide_lst {K : PySem.W.Frag} {p a : Addr} {H : Hp} {xs : List V} (n : a ≠ p) (h : H a = some (.lst xs)) : SqL K (hide p H) a xs := SqL.of (by rw [hide_ne n]; exact h)
theorem hide_tup {K : PySem.W.Frag} {p a : Addr} {H : Hp} {xs ys : List V} (hp : H p = some (.lst ys)) (h : SqT K H a xs) : SqT K (hide p H) a xs := by
  rcases h with (h | ⟨o, h⟩) | h
  · have n : a ≠ p := fun z => by
      rw [z, hp] at h
      cases h
    exact .inl (.inl (by rw [hide_ne n]; exact h))
  · have n : a ≠ p := fun z => by
      rw [z, hp] at h
      cases h
    exact .inl (.inr ⟨o, by rw [hide_ne n]; exact h⟩)
  · exact .inr h
/-- data, or an empty dict -/
def ItemV (K : PySem.W.Frag) (H : Hp) (v : V) (d : PyData) : Prop := (Dp K H v d ∧ Sh 60 80000 d) ∨ (d = .dict [] ∧ ∃ p, v = .ref p ∧ H p = some (.dK []))
theorem ItemV.mono {K : PySem.W.Frag} {H H' : Hp} {v : V} {d : PyData} (s : Same H H') (h : ItemV K H v d) : ItemV K H' v d := by
  rcases h with ⟨h, h2⟩ | ⟨e, p, e2, h⟩
  · exact .inl ⟨Dp.mono s h, h2⟩
  · exact .inr ⟨e, p, e2, s _ _ h⟩
def tyN : PyData → String
  | .none => "NoneType"
  | .bool _ => "bool"
  | .int _ => "int"
  | .str _ => "str"
  | .list _ => "list"
  | .tuple _ => "tuple"
  | .dict _ => "dict"
theorem Dp.ty {K : PySem.W.Frag} {H : Hp} {v : V} {d : PyData} (h : Dp K H v d) : TyX K H v (.type (tyN d)) := by
  cases h with
  | non => exact .base .non
  | bl b => exact .base (.bl b)
  | int i => exact .base (.int i)
  | str x => exact .base (.str x)
  | lst h _ =>
    rcases h with (h | ⟨o, h⟩) | ⟨o, its, n, h1, h2, _⟩
    · exact .base (.lst h)
    · exact .base (.frz h)
    · exact .kList h1 h2
  | tup h _ =>
    rcases h with (h | ⟨o, h⟩) | ⟨o, its, n, h1, h2, _⟩
    · exact .base (.tup h)
    · exact .fTuple h
    · exact .kTuple h1 h2
theorem ItemV.ty {K : PySem.W.Frag} {H : Hp} {v : V} {d : PyData} (h : ItemV K H v d) : TyX K H v (.type (tyN d)) := by
  rcases h with ⟨h, _⟩ | ⟨rfl, p, rfl, h⟩
  · exact Ef.Dp.ty h
  · exact .base (.dK h)
section
variable {X : Cx} (K : PySem.W.Frag)
def rReprI (K : PySem.W.Frag) : List V → Hp → VK → Prop := fun xs H Q => ∃ v d, xs = [v] ∧ ItemV K H v d ∧ Q (.str d.shown) H
theorem call_reprI (gd : X.A.guards = some []) (hu : X.A.units + 66 < cLine) (h : X.K = K := by rfl) : CallR X (.builtin "repr") (rReprI K) := by
  subst h
  intro pins s σ H xs us Q I r h
  obtain ⟨v, d, rfl, hI, q⟩ := h
  rcases hI with ⟨hD, hS⟩ | ⟨rfl, p, rfl, hp⟩
  · exact call_reprD gd hu pins s σ H _ us Q I r ⟨v, d, rfl, hD, hS, q⟩
  · obtain ⟨u, rfl, ru⟩ := vals1 r
    obtain rfl : u = Value.ref p := ru
    obtain ⟨_, hsys, vs, kv, o, es, ep, ho, hx, hd, hk, hpr, hn⟩ := dk_of I.hok hp
    have e1 : vs = [] := by
      cases kv
      rfl
    subst e1
    have e2 : es.toList = [] := by
      generalize es.toList = l at hpr ⊢
      cases hpr
      rfl
    have dep : PyData.depth (.dict []) ≤ 2 := by decide
    have rd : Reads s.heap (.ref p) (.dict []) (p :: [] ++ []) := by
      refine .dict ho hx.1 hd ?_ ?_
      · rw [e2]
        exact .nil
      · rw [e2]
        exact .nil
    refine repr_of_reads' rd rfl (fun _ hm => ?_) gd (by omega) (fun _ _ e => e) (fun h' u tk hk => ?_) (by decide +kernel)
    · have e3 : sysModules = p := by simpa using hm
      rw [← e3] at hsys
      exact absurd hsys (by simp)
    · exact ⟨.str _, H, I.kept hk, ⟨u, rfl⟩, q⟩
end
end Ef
set_option maxHeartbeats 4000000
namespace Ef
open PySem PySem.Spec PyProof.Rows L2
/-! ### Base.__init__(self, ..) where Base is an own class without an __init__ of its own -/
section
variable {X : Cx} {e : Expr} {es : List Expr} {ta : TA} {x : Str} {p1 p2 pos : Pos} {B : Addr}
theorem pe_baseInit {pl : Sem Bool} (hg : Gl X x) (hm : X.mg x = some (.ref B))
    (h1 : PySem.W.specialIn X.K (.ref B) "__getattribute__" = some (some (.builtin "type.__getattribute__")))
    (h2 : PySem.W.typeIn X.K (.ref B) = some (.type "type")) (h3 : PySem.W.readsIn X.K B (.type "type") = true)
    (h4 : PySem.W.findCls X.K (.ref B) (.type "type") "__init__" = some (.val (.builtin "ValueError.__init__"))) (ha : PA X (e :: es) ta)
    (a1 : eval (.Call (.Attribute (.Name x p1) "__init__" p2) (e :: es) [] pos) X.env = (do
      let bv ← eval (.Name x p1) X.env
      standAt p2.atName
      let (g, first) ← holding [bv] (getMethod bv "__init__" pl)
      callWith pos g first (backTo pos (starEach (e :: es) X.env)) (backToKw pos (keywordEach [] X.env))) := by rfl)
    (a2 : starEach (e :: es) X.env = (false, eval e X.env) :: starEach es X.env := by rfl)
    (a3 : (backTo pos (starEach es X.env)).any (fun z => z.1) = false := by rfl) (a4 : (x == ("__debug__" : Str)) = false := by decide) :
    PE X (.Call (.Attribute (.Name x p1) "__init__" p2) (e :: es) [] pos) (tVeI X.K ta) := by
  refine ⟨fun pins s σ H Q I h => ?_⟩
  refine PySem.W.methodCall_KW (ld_glob I hg hm ?_ a4) a1
  obtain ⟨m, fr⟩ := I.fr
  refine PySem.W.method_of_cls fr I.ok.mod.kin h1 ?_
  refine PySem.W.cls_val fr I.ok.mod.kin h2 h3 h4 (by decide +kernel) ?_
  show wpAny _ _ (callWith pos (Value.builtin "ValueError.__init__") [] (backTo pos (starEach (e :: es) X.env)) []) _ _ _
  refine PyProof.Rows.callWith_method1 (thn (ha.run pos pins _ σ H _ (I.tok _) h) fun us s1 got => ?_) a2 a3
  obtain ⟨vs, H1, I1, r1, a, C, ws, rfl, hl, T, ea, q⟩ := got
  cases r1 with
  | @cons _ u0 _ ur ra rest =>
    obtain rfl : u0 = Value.ref a := ra
    refine oinit_ok T I1 ea ?_ fun s' J => ⟨.non, H1, J, rfl, q⟩
    have hl2 := Paired.length rest
    rw [sizeLine_eq]
    omega
end
/-! ### an exception that is kept as a value -/
/-- at a: an exception of the class cls, its dict at d -/
def exk (a : Addr) (cls : Value) (d : Option Addr) : HO := .ext fun h => ∃ oe vs, h.get? a = some oe ∧ oe.cls = cls ∧ oe.dict = d ∧ oe.data = .fields vs
theorem exk_ok {P : Program} {w : World} {H : Hp} {h : Heap} {a : Addr} {cls : Value} {d : Option Addr} {oe : Obj} {vs : Array Value} (he : h.get? a = some oe) (hc : oe.cls = cls) (hd : oe.dict = d) (hv : oe.data = .fields vs) : ObjOk P w H h a (exk a cls d) :=
  ⟨⟨oe, vs, he, hc, hd, hv⟩, ⟨oe, he⟩, fun h1 h2 z k => by
    obtain ⟨o, v, z1, z2⟩ := z
    exact ⟨o, v, k _ z1, z2⟩⟩
theorem exk_at {P : Program} {w : World} {H : Hp} {h : Heap} {a : Addr} {cls : Value} {d : Option Addr} (hok : HOk P w H h) (e : H a = some (exk a cls d)) : ∃ oe vs, h.get? a = some oe ∧ oe.cls = cls ∧ oe.dict = d ∧ oe.data = .fields vs := by
  have z : ObjOk P w H h a (.ext fun h => ∃ oe vs, h.get? a = some oe ∧ oe.cls = cls ∧ oe.dict = d ∧ oe.data = .fields vs) := hok a _ e
  exact z.1
theorem Inv_track {X : Cx} {pins : List (Addr × Obj)} {σ : L2.St} {H : Hp} {s : Shared} {a : Addr} {oe : Obj} {vs : Array Value} {cls : Value} {d : Option Addr} (I : L2.Inv X ((a, oe) :: pins) σ H s)
    (hc : oe.cls = cls) (hd : oe.dict = d) (hv : oe.data = .fields vs) (new : X.s_0.heap.get? a = none) (hp : ∀ p ∈ X.pn ++ pins, p.1 ≠ a) : L2.Inv X pins σ (upd H a (exk a cls d)) s := by
  obtain ⟨ha, na, nL, nF, nc⟩ := I.pin (a, oe) (List.mem_append_right _ List.mem_cons_self)
  have kp : ∀ {b : Addr} {u : HO}, H b = some u → upd H a (exk a cls d) b = some u := fun {b u} z => by
    rw [upd_ne (ne_of_none z na)]
    exact z
  refine ⟨I.ok, I.os, I.bare, ⟨I.base.keep, I.base.slot, fun b o z n hx => ?_, I.base.there, fun b xs z => kp (I.base.tups b xs z), fun b o u z => kp (I.base.frzs b o u z), fun b ps z => ?_⟩, I.loc, I.cell, ?_, fun y c z => ?_, fun p q => ?_, fun b o z => ?_, I.len⟩
  · rw [upd_ne (fun y => by rw [y, new] at z; cases z)]
    exact I.base.free b o z n hx
  · obtain ⟨more, z2⟩ := I.base.tbls b ps z
    exact ⟨more, kp z2⟩
  · rw [upd_ne nL.symm]
    exact I.free
  · have nca : c ≠ a := fun y2 => by
      obtain ⟨v, oc, z3, z4⟩ := I.cell y c z
      rw [y2, ha] at z3
      obtain rfl := Option.some.inj z3
      first
        | exact nc _ z4
        | exact nc _ z4.2
        | exact nc _ z4.1
    rw [upd_ne nca]
    exact I.freeC y c z
  · obtain ⟨z1, z2, z3, z4, z5⟩ := I.pin p (by
      rcases List.mem_append.mp q with q | q
      · exact List.mem_append_left _ q
      · exact List.mem_append_right _ (List.mem_cons_of_mem _ q))
    exact ⟨z1, by rw [upd_ne (hp p q)]; exact z2, z3, z4, z5⟩
  · by_cases hb : b = a
    · subst hb
      rw [upd_same] at z
      obtain rfl := Option.some.inj z
      exact exk_ok ha hc hd hv
    · rw [upd_ne hb] at z
      exact (I.hok b o z).stay (fun _ _ _ y => y) (fun c y => kp y) fun c xs y => kp y
/-- what 'except x as n: suite' wishes of an exception of the body, the exception being kept: slot i is n's -/
def wKeep (K : PySem.W.Frag) (c : Value) (i : Nat) (ts : Addr → Value → Option Addr → TS) (Wout : WX) (D : Ends) : WX := fun cls d σ H =>
  ∃ b, PySem.W.exmOne K cls c = some b ∧ (b = true → ∀ a, H a = none → ts a cls d { nx := fun σ' H' => D.nx (σ'.set i none) (upd H' a (exk a cls d)), rt := fun _ _ => False } (σ.set i (some (.ref a))) H) ∧
    (b = false → Wout cls d σ H)
section
variable {X : Cx} {x n : Str} {c : Value} {i : Nat} {body suite : List Stmt} {b₀ : Stmt} {np pos pos' : Pos} {tb : WX → TS} {ts : Addr → Value → Option Addr → TS} {Wout : WX}
theorem ps_try_keep (stk : X.stack = X.env :: X.outer) (frm : X.env.frame = some X.env.locals) (hex : X.ex = []) (hN : X.N.Nodup) (hi : X.N[i]? = some n) (hln : X.env.kindOf n = some .local) (nm : Names X x c) (tk : Takes X Wout)
    (hb : ∀ (W : WX) (pn : List (Addr × Obj)) (xe : Value → Shared → Prop), Takes (X.tr pn xe) W → PassesOwn (model X.prog X.w) X.A X.env xe → PSs (X.tr pn xe) body (tb W))
    (hsu : ∀ (a : Addr) (oe : Obj) (cls : Value) (d : Option Addr) (pn : List (Addr × Obj)), Zc cls d oe → (∃ vs, oe.data = .fields vs) → PSs (X.suite a ((a, oe) :: pn)) (b₀ :: suite) (ts a cls d)) :
    PS X (.Try body [.ExceptHandler (some (.Name x np)) (some n) (b₀ :: suite) pos'] [] [] pos) (fun D σ H => tb (wKeep X.K c i ts Wout D) D σ H) := by
  refine ⟨fun pins s σ H D I wish => ?_⟩
  have okX := I.ok
  have frs1 : X.A.frames = some (X.env :: X.outer) := by rw [okX.frames, stk]
  refine wpAny_Try_except ?_
  refine wpAny_mono ((hb (wKeep X.K c i ts Wout D) (X.pn ++ pins) (fun z s₁ => wpAny (model X.prog X.w) X.A (noteFrame z X.env) (fun _ s₂ => wpAny (model X.prog X.w) X.A (setFlight z none) (fun _ s₃ =>
    wpAny (model X.prog X.w) X.A (handleBy z X.env [.ExceptHandler (some (.Name x np)) (some n) (b₀ :: suite) pos']) (SP X pins D) X.xe s₃) X.xe s₂) X.xe s₁) (fun u s' air => ?_) PassesOwn.looking).run [] s σ H D (I.toTry _) wish) (fun fl s1 got => ?_) (fun z s1 got => got)
  · obtain ⟨a, B, sI, pins', σ', H', cls, d, rfl, J', nb, up, sky, na, os, ag, b, hb1, hyes, hno⟩ := air
    have J : L2.Inv X pins σ' H' sI := J'.ofTry okX
    have sky1 : Sky B (X.env :: X.outer) a (Zc cls d) X.env.locals s'.heap := by rw [← stk]; exact sky
    show wpAny (model X.prog X.w) X.A (noteFrame (.ref a) X.env) _ _ _
    refine Sky.land Zc.steady frs1 frm sky1 fun h3 fl3 up3 => ?_
    have J3 : L2.Inv X pins σ' H' { s' with heap := h3 } := J.landed nb fl3.1 (up.trans up3) os ag
    obtain ⟨oe3, vs3, he3, hz3, hd3⟩ := fl3.there
    have nfr : a ∉ frs (X.env :: X.outer) := fun hm => by
      obtain ⟨_, o', e', hnf⟩ := fl3.2.2.1.mem hm
      rw [he3] at e'
      cases e'
      exact hnf _ hd3
    have nL : a ≠ X.env.locals := fun z => nfr (List.mem_filterMap.mpr ⟨X.env, List.mem_cons_self, by rw [frm, z]⟩)
    have nF : a ∉ X.fs := fun hm => by
      obtain ⟨en, hen, y⟩ := List.mem_filterMap.mp hm
      exact nfr (List.mem_filterMap.mpr ⟨en, List.mem_cons_of_mem _ hen, y⟩)
    have newI : ∀ o, sI.heap.get? a = some o → False := fun o y => by
      have y2 := nb a o y (by rw [stk]; exact nfr)
      rw [fl3.2.1] at y2
      cases y2
    have new0 : X.s_0.heap.get? a = none := by
      cases y : X.s_0.heap.get? a with
      | none => rfl
      | some o =>
        obtain ⟨o', y2⟩ := J.base.there a o y (by rw [hex]; exact List.not_mem_nil)
        exact (newI o' y2).elim
    have apart : ∀ p ∈ X.pn ++ pins, p.1 ≠ a := fun p hp y => newI p.2 (by rw [← y]; exact (J.pin p hp).1)
    have S3 := J3.suite he3 hd3 na nL nF
    refine wpAny_handleBy_cons (codeAny_handlers_test ?_) (by intro y; cases y)
    have LT : PySem.W.Looks (model X.prog X.w) h3 (typeOf (.ref a)) cls := fun A Q E s k y => wpAny_typeOf_ref (k _ _ he3) (by rw [hz3.1]; exact y)
    have LM := PySem.W.exm_one (M := model X.prog X.w) (J3.kIn) LT hb1
    have asked : ∀ {Q : Value → Shared → Prop} {E : Value → Shared → Prop}, Q c { s' with heap := h3 } → wpAny (model X.prog X.w) (X.A.mark (some (.ref a))) (eval (.Name x np) X.env) Q E { s' with heap := h3 } := fun {Q E} y => by
      obtain ⟨hg, hdbg, hm | ⟨hm, hv, hnn⟩⟩ := nm
      · exact ld_glob (X := X.suite a ((a, oe3) :: (X.pn ++ pins))) S3 hg hm y hdbg
      · exact ld_blt (X := X.suite a ((a, oe3) :: (X.pn ++ pins))) S3 hg hm hv y hnn hdbg
    refine asked (LM.here ?_)
    cases b with
    | true =>
      refine codeAny_handlers_suite_as ?_
      refine HandSPX.lands_againZ fl3 fun h4 fl4 up4 => ?_
      have J4 : L2.Inv X pins σ' H' { s' with heap := h4 } := J.landed nb fl4.1 ((up.trans up3).trans up4) os ag
      obtain ⟨oe4, vs4, he4, hz4, hd4⟩ := fl4.there
      have S4 := J4.suite he4 hd4 na nL nF
      refine store_ok (X := X.suite a ((a, oe4) :: (X.pn ++ pins))) (v := .ref a) S4 hN hi (.inl hln) rfl (fun s5 S5 => ?_) (.inr hln)
      refine wpAny_mono ((hsu a oe4 cls d (X.pn ++ pins) hz4 ⟨_, hd4⟩).run [] s5 _ H' _ S5 (hyes rfl a na)) (fun fl s6 got => ?_) (fun _ _ y => False.elim y)
      cases fl with
      | next =>
        obtain ⟨σ6, H6, S6, q6⟩ := got
        have P6 := S6.pin (a, oe4) (List.mem_append_left _ List.mem_cons_self)
        have J6 : L2.Inv X ((a, oe4) :: pins) σ6 H6 s6 := (S6.unsuite okX).pins_of fun p hp => by
          rcases List.mem_cons.mp hp with rfl | hp
          · exact P6
          · exact (S6.unsuite okX).pin p (List.mem_append_right _ hp)
        exact gone_ok J6 hN hi hln fun s7 J7 => ⟨_, _, Inv_track J7 hz4.1 hz4.2 hd4 new0 apart, q6⟩
      | brk =>
        obtain ⟨σ6, H6, S6, q6⟩ := got
        exact q6.elim
      | cont =>
        obtain ⟨σ6, H6, S6, q6⟩ := got
        exact q6.elim
      | ret u =>
        obtain ⟨v6, σ6, H6, S6, r6, q6⟩ := got
        exact q6.elim
    | false =>
      show wpAny _ X.A (handleBy (.ref a) X.env []) _ _ _
      refine wpAny_handleBy_nil ?_
      obtain ⟨k1, k2, k3, oe, vs, T, oT, ts', he, hz, hd, h1, hr⟩ := id fl3
      unfold PySem.passOn
      refine wpAny_bind (wpAny_field he hd h1 ?_)
      rw [if_neg (show ¬ ((Value.ref T == Value.none) = true) from by simp)]
      have fin : wpAny (model X.prog X.w) X.A (setFlight (.ref a) X.env.frame) (fun _ s4 => wpAny (model X.prog X.w) X.A (throw (.ref a) : Sem Flow) (SP X pins D) X.xe s4) X.xe { s' with heap := h3 } := by
        rw [frm]
        refine HandSPX.setFlight_upZ fl3 fun h4 hh4 up4 => wpAny_throw (tk _ _ ?_)
        exact ⟨a, B, sI, pins, σ', H', cls, d, rfl, J, nb, (up.trans up3).trans up4, .inr (.inr (by rw [stk]; exact hh4)), na, os, ag, hno rfl⟩
      first
        | exact wpAny_bind (wpAny_pure (wpAny_bind fin))
        | exact wpAny_bind fin
  · cases fl with
    | next =>
      obtain ⟨σ', H', J', q⟩ := got
      exact wpAny_execs_nil ⟨σ', H', J'.ofTry okX, q⟩
    | brk =>
      obtain ⟨σ', H', J', q⟩ := got
      exact ⟨σ', H', J'.ofTry okX, q⟩
    | cont =>
      obtain ⟨σ', H', J', q⟩ := got
      exact ⟨σ', H', J'.ofTry okX, q⟩
    | ret u =>
      obtain ⟨v, σ', H', J', r, q⟩ := got
      exact ⟨v, σ', H', J'.ofTry okX, r, q⟩
end
theorem takesF {X : Cx} : Takes X (fun _ _ _ _ => False) := fun _ _ x => by
  obtain ⟨_, _, _, _, _, _, _, _, _, _, _, _, _, _, _, _, z⟩ := x
  exact z.elim
theorem passF {X : Cx} : Passes (L2.CX X.prog X.w) X (fun _ _ _ => False) := fun _ _ _ _ _ _ _ x => by
  obtain ⟨_, _, _, _, _, _, _, _, _, _, _, _, z⟩ := x
  exact z.elim
/-! ### what is asked of an exception that was kept -/
section
open PySem.W PySem.Calls
variable {prog : Program} {w : World} {A : Around} {E : Value → Shared → Prop} {s : Shared} {K : PySem.W.Frag} {y D : Addr} {oy : Obj} {od : Option Obj}
theorem class_of_exc {Q : Option Value → Shared → Prop} (T : ExcC K D) (kin : K.In s.heap) (I : InstAt s.heap y oy D od) (hod : od.isSome = true) (h : Q (some (.ref D)) { s with toks := s.toks + 1 }) :
    wpAny (model prog w) A (getAttr? (.ref y) "__class__") Q E s := by
  obtain ⟨oo, rfl⟩ := Option.isSome_iff_exists.mp hod
  have ff : findObj K D (some oo) "__class__" = some (.bind (.builtin "getset_descriptor.__get__") (.builtin "object.__class__")) := findObj_data (by obtain ⟨cd, hc, _⟩ := any_some T.hd; rw [hc]; rfl) T.ha T.hn T.ht
  obtain ⟨hp, g, d, t, os⟩ := s
  have T0 := I.type (M := model prog w)
  have T1 := looks_findIn (M := model prog w) kin T.hg
  have T2 := looks_findIn (M := model prog w) kin T.hk
  have T3 := looks_find (M := model prog w) kin I ff
  have inB : Looks (model prog w) hp (isInstance (.ref y) (.type "BaseException")) true := T0.andThen (looks_subIn kin T.hs)
  have b0 : (false && onTheHeap (Value.builtin "BaseException.__getattribute__")) = false := rfl
  have b2 : (Value.builtin "BaseException.__getattribute__" == Value.builtin "object.__getattribute__") = false := by decide +kernel
  have b1 : (onTheHeap (Value.ref D) && Value.builtin "BaseException.__getattribute__" == Value.builtin "object.__getattribute__") = false := by rw [b2]; rfl
  unfold getAttr? getAttrBy? getAttrBy
  refine wpAny_bind (wpAny_mkText (wpAny_bind (wpAny_attempt (wpAny_holding (wpAny_bind (T0.at (wpAny_bind (T1.at ?_))))))))
  show wpAny _ _ (if (onTheHeap (Value.ref D) && Value.builtin "BaseException.__getattribute__" == Value.builtin "object.__getattribute__") = true then _ else _) _ _ ⟨hp, g, d, t + 1, os⟩
  rw [b1, if_neg Bool.false_ne_true]
  unfold getAttrByItsOwn hookBefore
  refine wpAny_bind ?_
  rw [if_pos (show onTheHeap (Value.ref D) = true from rfl)]
  refine T2.at ?_
  refine wpAny_bind (wpAny_attempt (wpAny_holding ?_))
  unfold callGetattribute
  rw [b0, if_neg Bool.false_ne_true]
  unfold boundAndCalled
  rw [PySem.F.excAttr_ValueError.ga.bind (.ref y)]
  refine wpAny_bind (wpAny_pure ?_)
  show wpAny _ _ (call (.builtin "BaseException.__getattribute__") [.ref y, .str "__class__" t]) _ _ _
  refine wpAny_call (codeAny_call_builtin PySem.F.excAttr_ValueError.ga.plain PySem.F.entry_bexc_ga ?_)
  refine @check_slot (model prog w) _ _ ⟨hp, g, d, t + 1, os⟩ "BaseException.__getattribute__" "BaseException" "__getattribute__" (.ref y) [.str "__class__" t] [] _ (by decide +kernel) (by decide +kernel) inB (PySem.F.args_bexc_ga (.ref y) (.str "__class__" t)) ?_
  unfold Builtin.«object.__getattribute__»
  refine wpAny_bind (wpAny_of_eq (a := ((Value.ref y : Value), [Value.str "__class__" t])) (by first | rfl | (simp only [slotArgs]; rfl)) ?_)
  refine wpAny_bind (wpAny_pure (wpAny_bind (T0.at (wpAny_bind (T3.at ?_)))))
  show wpAny _ _ (holding [Value.builtin "object.__class__"] (call (.builtin "getset_descriptor.__get__") [.builtin "object.__class__", .ref y, .ref D]) >>= ret) _ _ ⟨hp, g, d, t + 1, os⟩
  refine wpAny_bind (wpAny_holding (wpAny_call (class_get (s := ⟨hp, g, d, t + 1, os⟩) (ox := oy) (od := some oo) kin I T.hm ?_)))
  refine wpAny_pure ?_
  show wpAny _ _ (handedOut (.ref D)) _ _ ⟨hp, g, d, t + 1, os⟩
  rw [handedOut_of (v := .ref D) rfl]
  first
    | exact wpAny_pure (wpAny_pure h)
    | exact wpAny_pure h
    | exact wpAny_pure (wpAny_bind (wpAny_pure (wpAny_pure h)))
theorem kit_kept (T : ExcC K D) : KitX K (.ref y) (.ref D) (fun h => ∃ oy oo, InstAt h y oy D (some oo)) where
  ty := fun _ _ _ I => by
    obtain ⟨_, _, I⟩ := I
    exact I.type
  it := fun _ _ kin _ => by
    obtain ⟨cd, hc, _⟩ := any_some T.hd
    unfold clsIn at hc
    split at hc
    · rename_i c' d' cd' sl' ho
      intro A' Q' E' s' k q
      unfold isType loadHead
      exact wpAny_bind (wpAny_loadPart (k _ _ (kin _ _ ho)) (wpAny_pure q))
    · cases hc
  ne := fun h tp dd its n sl kin htp => by
    obtain ⟨cd, hc, _⟩ := any_some T.hd
    refine Bool.eq_false_iff.mpr fun q => ?_
    obtain rfl : D = tp := Value.ref.inj (beq_iff_eq.mp q)
    unfold clsIn at hc
    split at hc
    · rename_i c' d' cd' sl' ho
      have z := (kin _ _ ho).symm.trans htp
      cases z
    · cases hc
  ca := fun kin I k => by
    obtain ⟨_, _, I⟩ := I
    exact class_of_exc T kin I rfl k
end
section
variable {X : Cx} {pins : List (Addr × Obj)} {σ : L2.St} {H : Hp} {s : Shared}
theorem kept_inst {a D d : Addr} {fs : List (Str × V)} (I : L2.Inv X pins σ H s) (e : H a = some (exk a (.ref D) (some d))) (ed : H d = some (.xd fs)) : ∃ oy oo, PySem.W.InstAt s.heap a oy D (some oo) ∧ ∃ mA : Str → Option Value, (∀ f, RelO (fs.lookup f) (mA f)) ∧ ∀ n, PySem.W.lookIn n oo = some (mA n) := by
  obtain ⟨oe, vs, h1, h2, h3, h4⟩ := exk_at I.hok e
  obtain ⟨mA, hns, hr⟩ := (show ObjOk X.prog X.w H s.heap d (.xd fs) from I.hok d _ ed)
  obtain ⟨oo, ho, hl⟩ := lookIn_ns hns
  exact ⟨oe, oo, ⟨h1, h2, by unfold PySem.W.notCls; rw [h4] <;> rfl, by rw [h3]; exact ho⟩, mA, hr, hl⟩
end
/-- isinstance(x, c), x an exception that was kept -/
def rIsX (K : PySem.W.Frag) : List V → Hp → VK → Prop := fun xs H Q => ∃ (a D d : Addr) (fs : List (Str × V)) (c : V) (u : Value) (b : Bool), xs = [.ref a, c] ∧ H a = some (exk a (.ref D) (some d)) ∧ H d = some (.xd fs) ∧ ExcC K D ∧ ClsV c u ∧ PySem.W.kitOne K (.ref D) u = some b ∧ Q (.bl b) H
/-- isinstance(x, (c1, ..)) -/
def rIsXT (K : PySem.W.Frag) : List V → Hp → VK → Prop := fun xs H Q => ∃ (a D d : Addr) (fs : List (Str × V)) (tp : Addr) (cs : List V) (us : List Value) (b : Bool), xs = [.ref a, .ref tp] ∧ H a = some (exk a (.ref D) (some d)) ∧ H d = some (.xd fs) ∧ ExcC K D ∧ H tp = some (.tup cs) ∧ Paired ClsV cs us ∧ PySem.W.kitAny K (.ref D) us = some b ∧ Q (.bl b) H
section
variable {X : Cx}
theorem call_isX : CallR X (.builtin "isinstance") (rIsX X.K) := by
  intro pins s σ H xs us Q I r h
  obtain ⟨a, D, d, fs, c, u, b, rfl, ea, ed, T, k, e, q⟩ := h
  obtain ⟨u1, u2, rfl, r1, r2⟩ := vals2 r
  obtain rfl := k.eq r2
  obtain rfl : u1 = Value.ref a := r1
  obtain ⟨oy, oo, J, _⟩ := kept_inst I ea ed
  exact PySem.W.kia_one (kit_kept T) I.kIn ⟨_, _, J⟩ e (fun z => nomatch z) fun tk => ⟨.bl b, H, I.tok tk, rfl, q⟩
theorem call_isXT : CallR X (.builtin "isinstance") (rIsXT X.K) := by
  intro pins s σ H xs us Q I r h
  obtain ⟨a, D, d, fs, tp, cs, ws, b, rfl, ea, ed, T, hT, k, e, q⟩ := h
  obtain ⟨u1, u2, rfl, r1, r2⟩ := vals2 r
  obtain rfl : u1 = Value.ref a := r1
  obtain rfl : u2 = Value.ref tp := r2
  obtain ⟨oy, oo, J, _⟩ := kept_inst I ea ed
  obtain ⟨_, its, rv, o, h1, h2, n, h3⟩ := (show ObjOk X.prog X.w H s.heap tp (.tup cs) from I.hok tp _ hT)
  obtain rfl := ClsV.all k rv
  obtain ⟨oc, odd, dt, sl⟩ := o
  simp only at h2 h3
  subst h2 h3
  exact PySem.W.kia_tup (kit_kept T) I.kIn ⟨_, _, J⟩ h1 e (fun z => nomatch z) fun tk => ⟨.bl b, H, I.tok tk, rfl, q⟩
/-- e.f, e an exception that was kept -/
def tFldX (K : PySem.W.Frag) (f : Str) (te : TE) : TE := fun σ H Q => te σ H fun x H1 => ∃ (a D d : Addr) (fs : List (Str × V)) (v : V), x = .ref a ∧ H1 a = some (exk a (.ref D) (some d)) ∧ H1 d = some (.xd fs) ∧ XfC K D ∧ PySem.W.findIn K (.ref D) f = some none ∧ fs.lookup f = some v ∧ Q v H1
theorem pe_fldX {e : Expr} {te : TE} {pos : Pos} {f : Str} (he : PE X e te) (hb : attributeBase e f X.env (eval e X.env) = eval e X.env := by rfl) : PE X (.Attribute e f pos) (tFldX X.K f te) := by
  refine ⟨fun pins s σ H Q I h => ?_⟩
  refine attr_of hb (thn (he.run pins s σ H _ I h) fun u s1 got => ?_)
  obtain ⟨x, H1, I1, rx, a, D, d, fs, v, rfl, ea, ed, T, hno, l, q⟩ := got
  obtain rfl : u = Value.ref a := rx
  obtain ⟨oy, oo, J, mA, hr, hl⟩ := kept_inst I1 ea ed
  obtain ⟨u, hu, ru⟩ := RelO.some_of (v := v) (o := mA f) (by rw [← l]; exact hr f)
  exact HandSPX.exc_get I1.kIn J T.ga T.gg T.exC (PySem.W.findObj_own T.hdC hno rfl (by rw [hl, hu])) (handed_of ru) ⟨v, H1, I1.tok _, ru, q⟩
end
/-! ### what the written part says of the program's error classes -/
structure BaseT (K : PySem.W.Frag) (B : Addr) : Prop where
  sp : PySem.W.specialIn K (.ref B) "__getattribute__" = some (some (.builtin "type.__getattribute__"))
  ty : PySem.W.typeIn K (.ref B) = some (.type "type")
  rd : PySem.W.readsIn K B (.type "type") = true
  fc : PySem.W.findCls K (.ref B) (.type "type") "__init__" = some (.val (.builtin "ValueError.__init__"))
structure ErrT (K : PySem.W.Frag) (C fI : Addr) (f : Str) (B : Addr) : Prop where
  ox : OexC K C
  xf : XfC K C
  ec : ExcC K C
  no : PySem.W.findIn K (.ref C) f = some none
  iC : PySem.W.findIn K (.ref C) "__init__" = some (some (.ref fI))
  tI : PySem.W.typeIn K (.ref fI) = some (.type "function")
  ex : PySem.W.exmOne K (.ref C) (.ref B) = some true
/-- an error's __init__: the base's, then the field -/
def spErr (K : PySem.W.Frag) (C : Addr) (f : Str) : Sp := fun vs H Q _ => ∃ (a : Addr) (v : V), vs = [.ref a, v] ∧ H a = some (exo a C none) ∧ ∀ dx, H dx = none → dx ≠ a → Q .non (upd (upd H dx (exd dx [(f, v)])) a (exo a C (some dx)))
/-- behind the raise: the error's dict, all else as it was -/
theorem err_end {H : Hp} {a C dx : Addr} {f : Str} {v : V} (na : H a = none) (nd : (upd H a (exo a C none)) dx = none) (ne : dx ≠ a) :
    let H2 := upd (upd (upd H a (exo a C none)) dx (exd dx [(f, v)])) a (exo a C (some dx))
    H2 a = some (exo a C (some dx)) ∧ H2 dx = some (exd dx [(f, v)]) ∧ H dx = none ∧ Same H (upd (del H2 a) dx (.xd [(f, v)])) ∧ (upd (del H2 a) dx (.xd [(f, v)])) dx = some (.xd [(f, v)]) := by
  have hd : H dx = none := by
    rw [upd_ne ne] at nd
    exact nd
  refine ⟨upd_same, by rw [upd_ne ne, upd_same], hd, fun b o z => ?_, upd_same⟩
  have n1 : b ≠ a := ne_of_none z na
  have n2 : b ≠ dx := ne_of_none z hd
  rw [upd_ne n2, del_ne n1, upd_ne n1, upd_ne n2, upd_ne n1]
  exact z
end Ef
set_option maxHeartbeats 4000000
namespace Ef
open PySem PySem.Spec PyProof.Rows L2
/-! ### a text times 0 or 1 -/
def rRep01 : R2 := fun x y H Q => ∃ (a : Str) (k : Bool), x = V.str a ∧ y = V.int (if k then 1 else 0) ∧ Q (.str (if k then a else Str.empty)) H
theorem op_rep01 {X : Cx} : OpR X (binaryOp .Mult) rRep01 := by
  intro pins s σ H x y v u Q I rx ry h
  obtain ⟨a, k, rfl, rfl, q⟩ := h
  obtain ⟨t, rfl⟩ := rx
  obtain ⟨t', rfl⟩ := ry
  cases k with
  | false => exact P.mul_str_none (by decide) (by decide) ⟨.str _, H, I.tok _, ⟨_, rfl⟩, q⟩
  | true =>
    refine P.mul_str (by decide) (fun _ h => absurd h (by simp)) (fun _ h => absurd h (by simp)) ?_
    rw [if_neg (by decide), if_pos (by simp)]
    exact ⟨.str _, H, I, ⟨_, rfl⟩, q⟩
end Ef
set_option maxHeartbeats 4000000
namespace Ef
open PySem PySem.Spec PyProof.Rows L2
open Sem (wp)
/-! ### enumerate(tuple) -/
theorem meets_enumerate_newG {v : Value} {o : Obj} {H : Heap → Prop} (B : Begins v o H) :
    Meets (Builtin.«enumerate.__new__» ⟨[.type "enumerate", v], []⟩) (fun _ R s => H s.heap ∧
      R (.ok (.ret (.ref (s.heap.push o).objs.size))) { s with heap := (s.heap.push o).push { cls := .type "enumerate", data := .fields #[.none, .bool false, .ref s.heap.objs.size, rawInt 0, .none, .none] } }) :=
  .of_wp fun prog w A R s h => by
    obtain ⟨hp, g, d, tk, os⟩ := s; obtain ⟨h1, h⟩ := h
    have hsub := sub_enumerate
    have q1 : ∀ {A' : Around} {E : Value → Shared → Prop} {Q : Value → Shared → Prop}, Q (.ref hp.objs.size) ⟨hp.push o, g, d, tk, os⟩ → wpAny (model prog w) A' (pyIter v) Q E ⟨hp, g, d, tk, os⟩ :=
      fun q => B.iter prog w _ _ ⟨hp, g, d, tk, os⟩ _ h1 q
    wp_walk using q1
    refine wpAny_stack_any fun st => wpAny_pure ?_
    split
    · rename_i c _ _ _ _ _
      cases (c == Value.type "enumerate")
      · wp_walk using q1
        exact ⟨_, rfl, h⟩
      · wp_walk using q1
        exact ⟨_, rfl, h⟩
    · wp_walk using q1
      exact ⟨_, rfl, h⟩
theorem call_enumerate_tup {prog : Program} {w : World} {A : Around} {E : Value → Shared → Prop} {s : Shared} {t : Addr} {items : Array Value} {Q : Value → Shared → Prop} (hT : s.heap.IsTuple t items)
    (h : ∀ h', IsEnum h' (s.heap.objs.size + 1) s.heap.objs.size 0 .none → h'.IsTupleIter s.heap.objs.size t 0 → h'.objs.size = s.heap.objs.size + 2 →
      (∀ b o, s.heap.get? b = some o → h'.get? b = some o) → Q (.ref (s.heap.objs.size + 1)) { s with heap := h' }) :
    wpAny (model prog w) A (call (.type "enumerate") [.ref t]) Q E s := by
  refine callType_new F.called_enumerate (by decide) (F.typeCall_enumerate_1 _) (F.newCall_enumerate_1 _) (fun obj => F.args_object_init_2 obj _) F.entry_enumerate_new
    (meets_enumerate_newG (begins_tuple t items)) ⟨hT, ?_⟩
  have hz : (s.heap.push { cls := .type "tuple_iterator", data := .fields #[.ref t, .int 0 0] }).objs.size = s.heap.objs.size + 1 := Heap.size_push ..
  show _ ∧ _
  rw [hz]
  have he : IsEnum ((s.heap.push { cls := .type "tuple_iterator", data := .fields #[.ref t, .int 0 0] }).push
      { cls := .type "enumerate", data := .fields #[.none, .bool false, .ref s.heap.objs.size, rawInt 0, .none, .none] }) (s.heap.objs.size + 1) s.heap.objs.size 0 .none := by
    have := Heap.get?_push_size (s.heap.push { cls := .type "tuple_iterator", data := .fields #[.ref t, .int 0 0] })
      (o := { cls := .type "enumerate", data := .fields #[.none, .bool false, .ref s.heap.objs.size, rawInt 0, .none, .none] }) rfl
    rw [hz] at this; exact this
  exact ⟨⟨_, he, rfl⟩, h _ he ⟨_, Heap.get?_push_of_some _ (Heap.get?_push_size _ rfl), rfl, rfl⟩ (by rw [Heap.size_push, hz]) fun b o x => Heap.get?_push_of_some _ (Heap.get?_push_of_some _ x)⟩
/-- the tuple at a, each item in a new pair -/
def Itet (K : PySem.W.Frag) (a : Addr) : It :=
  ⟨fun i H => ∃ (xs : List V) (x : V), SqT K H a xs ∧ xs[i]? = some x, fun i H v H' => ∃ T x, v = .ref T ∧ H T = none ∧ H' = upd H T (.tup [.int (i : Nat), x]) ∧ ∀ xs, SqT K H a xs → xs[i]? = some x, fun i H => ∃ xs : List V, SqT K H a xs ∧ xs.length ≤ i⟩
theorem tup_ne_iter {h : Heap} {a it : Addr} {items : Array Value} {i : Nat} (ht : h.IsTuple a items) (hit : h.IsTupleIter it a i) : a ≠ it := by
  rintro rfl
  obtain ⟨o, h1, c1, _⟩ := ht
  obtain ⟨o', h2, c2, _⟩ := hit
  rw [h1] at h2
  obtain rfl := Option.some.inj h2
  rw [c1] at c2
  injection c2 with c3
  exact absurd c3 (by decide)
theorem enum_ne_tup {h : Heap} {a e it : Addr} {items : Array Value} {i : Int} {old : Value} (ht : h.IsTuple a items) (he : IsEnum h e it i old) : e ≠ a := by
  rintro rfl
  obtain ⟨o, h1, c1, _⟩ := ht
  have h2 : h.get? e = _ := he
  rw [h1] at h2
  obtain rfl := Option.some.inj h2
  injection c1 with c3
  exact absurd c3 (by decide)
theorem wpAny_pyNext_enum_endX {prog : Program} {w : World} {A : Around} {E : Value → Shared → Prop} {s : Shared} {e it t : Addr} {i : Nat} {items : Array Value} {old : Value} {Q : Option Value → Shared → Prop} (hh : A.handled = none)
    (he : IsEnum s.heap e it i old) (hit : s.heap.IsTupleIter it t i) (ht : s.heap.IsTuple t items) (hx : items[i]? = none)
    (hQ : ∀ h', Heap.ExtBut it s.heap h' → Q none { s with heap := h' }) : wpAny (model prog w) A (pyNext (.ref e)) Q E s := by
  have hT : s.TypeIs (.ref e) "enumerate" := ⟨_, he, rfl⟩
  unfold pyNext
  refine wpAny_bind (wpAny_attempt (wpAny_callSpecial?_slot (name := Str.ofString "__next__") hT F.slot_enumerate_next
    (wpAny_call_entry F.slot_enumerate_next hT F.entry_enumerate_next ?_ (F.args_enumerate_next_1 _))))
  show wpAny _ _ (field (.ref e) 2 >>= _) _ _ _
  refine wpAny_bind (wpAny_field he rfl (x := .ref it) rfl ?_)
  refine wpAny_bind (wpAny_nextOf_tuple_end (show A.in1.handled = none from hh) hit ht hx fun h' x he' hx' => ?_)
  obtain ⟨o, ho, hc⟩ := hx'
  refine wpAny_bind (wpAny_isInstance (T := "StopIteration") (b := true) ⟨o, ho, hc⟩ isSubtype_stop ?_)
  exact wpAny_pure (hQ _ he')
theorem turn_enumT {P : Program} {w : World} {K : PySem.W.Frag} {elts : List Expr} {kk : Nat} {tpos : Pos} (a e it : Addr) :
    Turn P w K (.Tuple elts kk tpos) (Itet K a) [e, it] e (fun i h => (∃ old, IsEnum h e it ((i : Nat) : Int) old) ∧ h.IsTupleIter it a i ∧ e ≠ it) where
  mem := by simp
  obj := fun i h st b hb => by
    obtain ⟨⟨old, he⟩, ⟨o, ho, hc, hd⟩, _⟩ := st
    have e' : b = e ∨ b = it := by simpa using hb
    rcases e' with z | z
    · rw [z]; exact ⟨_, he, fun v q => nomatch q⟩
    · rw [z]; exact ⟨o, ho, fun v q => by rw [hd] at q; cases q⟩
  keep := fun i h h' st k => let ⟨⟨old, he⟩, hi, hne⟩ := st; ⟨⟨old, k e (by simp) _ he⟩, hi.at fun o q => k it (by simp) o q, hne⟩
  item := by
    intro X hP hw hK hc i pins s σ H E I hf st hg
    subst hP hw hK
    obtain ⟨⟨old, he⟩, hit, hne⟩ := st
    obtain ⟨xs, x, hq, hx⟩ := hg
    obtain ⟨its, rv, p, hz⟩ := I.tuple hq
    obtain ⟨u, hu, ru⟩ := rv.get hx
    have hel : e < s.heap.objs.size := Heap.lt_size he
    have hil : it < s.heap.objs.size := by obtain ⟨_, q, _⟩ := hit; exact Heap.lt_size q
    have pT : s.heap.IsTuple a its.toArray := p
    have hai := tup_ne_iter pT hit
    have hei : i < its.toArray.size := by
      have h9 : i < its.length := by
        rw [← rv.length]
        exact (List.getElem?_eq_some_iff.mp hx).1
      simpa using h9
    refine wpAny_pyNext_enum_itemD (Draws.tuple (show X.A.in1.handled = none from I.ok.hd hc) it a hai its.toArray) he ⟨hit, pT⟩ hei hne (fun z => ?_) fun x2 h' tk hP ho hst' hT hsz hk => ?_
    · rcases List.mem_cons.mp z with z | z
      · exact hne z
      · exact enum_ne_tup pT he (by simpa using z)
    have hP2 : its.toArray[i]? = some x2 := hP
    obtain rfl : u = x2 := by
      have h9 : its[i]? = some x2 := by simpa using hP2
      rw [hu] at h9
      exact Option.some.inj h9
    refine ⟨_, rfl, wpAny_letOwnedTupleGo_enum (s := { s with heap := h', toks := tk + 1 }) ho fun h'' he' sb => ?_⟩
    have hT2 : h''.get? s.heap.objs.size = some { cls := .type "tuple", data := .seq #[.int i tk, u] } := (sb.2 _ (Nat.ne_of_gt hel)).trans hT
    have new : ObjOk X.prog X.w (upd H s.heap.objs.size (.tup [.int (i : Nat), x])) h'' s.heap.objs.size (.tup [.int (i : Nat), x]) :=
      ⟨by show 2 ≤ sizeLine; decide, [.int i tk, u], .cons ⟨_, rfl⟩ (.cons ru .nil), ⟨_, hT2, rfl, _, rfl⟩⟩
    have I1 : Inv X pins σ (upd H s.heap.objs.size (.tup [.int (i : Nat), x])) { s with heap := h'', toks := tk + 1 } :=
      I.turnedNew (ch := [e, it]) (fun b ob hb q => (sb.2 b (fun z => hb (by simp [z]))).trans (hk b ob (fun z => hb (by simp [z])) (fun z => hb (by simp [z])) q)) hf (Nat.le_refl _) new
    refine ⟨.ref s.heap.objs.size, _, I1, rfl, ⟨_, x, rfl, I.hok.fresh (Nat.le_refl _), rfl, fun ys hy => by rw [I.tuple_inj hy hq]; exact hx⟩, ⟨⟨u, ?_⟩, hst'.1.at fun o q => (sb.2 it (Ne.symm hne)).trans q, hne⟩, fun b hb => ?_⟩
    · have e1 : ((i + 1 : Nat) : Int) = (i : Int) + 1 := by omega
      rw [e1]; exact he'
    · have hb' : b < s.heap.objs.size := by
        have e' : b = e ∨ b = it := by simpa using hb
        rcases e' with z | z
        · rw [z]; exact hel
        · rw [z]; exact hil
      rw [upd_ne (Nat.ne_of_lt hb')]
      exact (hf b hb).1
  done := by
    intro X hP hw hK hc i pins s σ H E I hf st hg
    subst hP hw hK
    obtain ⟨⟨old, he⟩, hit, hne⟩ := st
    obtain ⟨xs, hq, hx⟩ := hg
    obtain ⟨its, rv, p, hz⟩ := I.tuple hq
    obtain ⟨f0, f1, f2, f3, f4, f5⟩ := hf it (by simp)
    have pT : s.heap.IsTuple a its.toArray := p
    have hl := rv.length
    refine wpAny_pyNext_enum_endX (I.ok.hd hc) he hit pT (by simp; omega) fun h' eb => ⟨rfl, I.turned (t' := s.toks) (fun b o hb q => eb b o hb q) f0 f1 f3 f4 f5⟩
  self := fun A i s Q E st h => let ⟨⟨_, he⟩, _⟩ := st; wpAny_pyIter_enum he h
def iEnumT (K : PySem.W.Frag) (ta : TA) : TI := fun σ H R => ta σ H fun vs H1 => ∃ a xs, vs = [.ref a] ∧ SqT K H1 a xs ∧ R (Itet K a) H1
theorem pi_enumT {X : Cx} {e : Expr} {ta : TA} {p pos tpos : Pos} {elts : List Expr} {kk : Nat} (hg : Gl X "enumerate") (hm : X.mg "enumerate" = none) (ha : PA X [e] ta) (hs : starEach [e] X.env = [(false, eval e X.env)] := by rfl) :
    PI X (.Tuple elts kk tpos) (.Call (.Name "enumerate" p) [e] [] pos) (iEnumT X.K ta) := by
  refine ⟨fun pins s σ H R I h => ?_⟩
  refine Call_ (ld_blt I hg hm boot_enumerate (PyProof.Rows.callWith_type1 (thn (ha.run pos pins s σ H _ I h) fun us s1 ⟨vs, H1, I1, r1, q1⟩ => ?_) hs rfl))
  obtain ⟨a, xs, ex, hq, q⟩ := q1
  subst ex
  cases r1 with
  | cons r rr =>
    cases rr
    cases r
    obtain ⟨its, rv, p', hz⟩ := I1.tuple hq
    refine call_enumerate_tup (show s1.heap.IsTuple a its.toArray from p') fun h' he hit hsz hk => wpAny_pyIter_enum he ?_
    have I2 : Inv X pins σ H1 { s1 with heap := h' } := I1.kept (t' := s1.toks) hk
    refine ⟨s1.heap.objs.size + 1, [s1.heap.objs.size + 1, s1.heap.objs.size], _, _, H1, rfl, I2, turn_enumT a (s1.heap.objs.size + 1) s1.heap.objs.size, ⟨⟨.none, he⟩, hit, Nat.succ_ne_self _⟩, fun b hb => ?_, q⟩
    have e' : b = s1.heap.objs.size + 1 ∨ b = s1.heap.objs.size := by simpa using hb
    have hle : s1.heap.objs.size ≤ b := by
      rcases e' with z | z
      · rw [z]; exact Nat.le_add_right _ _
      · rw [z]; exact Nat.le_refl _
    exact I1.fpOk hle (I1.hok.fresh hle)
/-! ### sorted(xs) of tuples of ints, also of at most one -/
theorem sort_short {prog : Program} {w : World} {A : Around} {E : Value → Shared → Prop} {s : Shared} {a : Addr} {vs : List Value} {n : Nat} {P : PySem.Fin → Shared → Prop} (ho : s.heap.get? a = some (seqObj "list" vs.toArray n)) (h1 : vs.length < 2)
    (h : ∀ out : Array Value, out.toList.Perm vs → P (.done (.ret .none)) { s with heap := sortedHeap s.heap a vs out }) :
    wpAny (model prog w) A (Builtin.«list.sort» ⟨[.ref a], []⟩) P E s :=
  SK.plain_sort (r := fun _ => 0) ho (by omega) (fun h2 Q hQ => absurd h2 (by omega)) fun ps out e1 e2 e3 => h out (TS.out_rank (r := fun _ => 0) e1 e2 e3).1
theorem sorted_short {prog : Program} {w : World} {A : Around} {E : Value → Shared → Prop} {s : Shared} {l : Addr} {vs : List Value} {Q : Value → Shared → Prop} (hl : s.heap.IsList l vs.toArray) (h1 : vs.length < 2)
    (h : ∀ out : Array Value, out.toList.Perm vs → Q (.ref (s.heap.objs.size + 1)) { s with heap := sortedAll s.heap vs out }) :
    wpAny (model prog w) A (call (.builtin "sorted") [.ref l]) Q E s := by
  refine Calls.call_function_entry kind_sorted plain_sorted entry_sorted (args_sorted1 _) ?_
  unfold Builtin.«sorted»
  refine wpAny_bind (m := checkCount "sorted" 1 1 _) (wpAny_pure ?_)
  refine wpAny_bind (collect_list hl ?_ (by rw [sizeLine_eq]; omega))
  refine wpAny_bind (wpAny_newList ?_ (by rw [sizeLine_eq]; omega))
  have hsz : ((s.heap.push (seqObj "list" #[] 0)).update s.heap.objs.size (Obj.mapSeq (· ++ vs.toArray))).objs.size = s.heap.objs.size + 1 := by
    rw [Heap.size_update, size_push']
  have hoL : (((s.heap.push (seqObj "list" #[] 0)).update s.heap.objs.size (Obj.mapSeq (· ++ vs.toArray))).push (seqObj "list" vs.toArray 0)).get? (s.heap.objs.size + 1) = some (seqObj "list" vs.toArray 0) := by
    rw [← hsz]; exact Heap.get?_push_size _ rfl
  show wpAny _ _ _ _ _ { s with heap := ((s.heap.push (seqObj "list" #[] 0)).update s.heap.objs.size (Obj.mapSeq (· ++ vs.toArray))).push (seqObj "list" vs.toArray 0) }
  rw [hsz]
  refine wpAny_bind (wpAny_holding (wpAny_call_entry slot_list_sort ⟨_, hoL, rfl⟩ entry_list_sort (sort_short hoL h1 fun out a1 => ⟨_, rfl, ?_⟩) (args_list_sort _)))
  exact wpAny_pure ⟨_, rfl, h out a1⟩
def rSortA (K : PySem.W.Frag) (B : Int) : List V → Hp → VK → Prop := fun vs H Q => (∃ d, 1 ≤ d ∧ rSortU K d B vs H Q) ∨
  ∃ (a : Addr) (xs : List V), vs = [V.ref a] ∧ SqL K H a xs ∧ xs.length < 2 ∧ (∀ x ∈ xs, ∃ t, x = .ref t) ∧ ∀ p, H p = none → Q (.ref p) (upd H p (.lst xs))
theorem perm_short {α : Type} {l m : List α} (h : l.Perm m) (h1 : m.length < 2) : l = m := by
  cases m with
  | nil => exact List.perm_nil.mp h
  | cons x r =>
    cases r with
    | nil => exact List.perm_singleton.mp h
    | cons y r => exact absurd h1 (by simp)
theorem cr_sortA {X : Cx} {B : Int} : CallR X (.builtin "sorted") (rSortA X.K B) := by
  intro pins s σ H vs us Q I r h
  rcases h with ⟨d, hd, h⟩ | ⟨a, xs, rfl, hs, h1, hx, q⟩
  · exact cr_sortT hd pins s σ H vs us Q I r h
  · obtain ⟨its, rv, hl, hz⟩ := I.list hs
    rw [Vals.ref1 r]
    obtain ⟨e1, e2⟩ := bkV_refs rv hx
    refine sorted_short hl.isList (by rw [← rv.length]; exact h1) fun out p1 => ?_
    · obtain ⟨ep, he'⟩ := PyProof.Rows.sortedAll_at s.heap its out
      have e9 : out.toList = its := perm_short p1 (by rw [← rv.length]; exact h1)
      refine ⟨.ref _, upd H (s.heap.objs.size + 1) (.lst xs), I.laid (t' := s.toks) (fun _ _ => PyProof.Rows.sortedAll_old) (Nat.le_succ _) ⟨hz, out.toList, ep, by rw [e9]; exact rv, he'⟩, rfl, q _ (I.hok.fresh (Nat.le_succ _))⟩
theorem walk_enumT {K : PySem.W.Frag} {a : Addr} {xs : List V} : Walk (Itet K a) xs.length (fun H => SqT K H a xs) (YPair (fun i => some (.int (i : Nat))) (fun i => xs[i]?)) := by
  refine ⟨fun i _ hi q => ⟨xs, xs[i], q, by simp [hi]⟩, fun _ q => ⟨xs, q, Nat.le_refl _⟩, fun i H v H' _ q y => ?_⟩
  obtain ⟨T, x, h1, h2, h3, h4⟩ := y
  exact ⟨T, .int (i : Nat), x, h1, h2, h3, rfl, h4 xs q⟩
end Ef
set_option maxHeartbeats 4000000
namespace Ef
open PySem PySem.Spec PyProof.Rows L2
/-! ### sorted(t) of a tuple of ints -/
section
variable {prog : Program} {w : World} {A : Around} {E : Value → Shared → Prop} {s : Shared}
theorem collect_tup {l : Addr} {vs : List Value} {Q : List Value → Shared → Prop} (hl : s.heap.IsTuple l vs.toArray) (hn : vs.length ≤ sizeLine)
    (h : Q vs { s with heap := (s.heap.push (seqObj "list" #[] 0)).update s.heap.objs.size (Obj.mapSeq (· ++ vs.toArray)) }) : wpAny (model prog w) A (collect (.ref l)) Q E s := by
  obtain ⟨o, ho, hc, n, hd⟩ := hl
  have h2 : (s.heap.push (seqObj "list" #[] 0)).get? l = some o := Heap.get?_push_of_some _ ho
  have h3 : (s.heap.push (seqObj "list" #[] 0)).get? s.heap.objs.size = some (seqObj "list" #[] 0) := Heap.get?_push_size _ rfl
  have h4 : ((#[] : Array Value) ++ vs.toArray).toList = vs := by simp
  have h5 : (#[] ++ vs.toArray).size ≤ sizeLine + 1 := by
    simp only [Array.size_append, List.size_toArray, List.length_nil]
    omega
  unfold collect
  refine wpAny_bind (wpAny_runValue (codeAny_builtin entry_proto_collect' (show wpAny _ _ (do again (.builtin "list.__iadd__" ⟨[← newList [], .ref l], []⟩)) _ _ s from ?_)))
  refine wpAny_bind (wpAny_newList (wpAny_pure ⟨Code.quiet_builtin _ (by decide +kernel), codeAny_builtin entry_list_iadd' (show wpAny _ _ (Builtin.List.listExtendWith (.ref s.heap.objs.size) (.ref l) (.ref s.heap.objs.size)) _ _ { s with heap := s.heap.push (seqObj "list" #[] 0) } from ?_)⟩))
  unfold Builtin.List.listExtendWith
  refine wpAny_bind (wpAny_typeOf (T := "tuple") ⟨o, h2, hc⟩ ?_)
  rw [if_pos (by rw [show (Value.type "tuple" == Value.type "tuple") = true from rfl]; simp)]
  refine wpAny_bind (listItems_at h2 hd (wpAny_bind (listItems_at (xs := #[]) (n := 0) h3 rfl ?_)))
  rw [if_neg (by simp)]
  refine wpAny_bind (listUpdate_at (xs := #[]) (n := 0) h3 rfl (wpAny_pure ?_) (Nat.zero_le _) h5)
  show wpAny (model prog w) A (do
      let o ← load s.heap.objs.size
      match o.data with
      | .seq ys _ => pure ys.toList
      | _ => unsupported "internal:collect") Q E { s with heap := (s.heap.push (seqObj "list" #[] 0)).update s.heap.objs.size (Obj.mapSeq (· ++ vs.toArray)) }
  refine wpAny_bind (wpAny_load (get?_update_seq h3 _) (show wpAny _ _ (pure ((#[] : Array Value) ++ vs.toArray).toList) Q E _ from ?_))
  rw [h4]
  exact wpAny_pure h
theorem sorted_tup {l : Addr} {vs : List Value} {ns : List Int} {Q : Value → Shared → Prop} (hl : s.heap.IsTuple l vs.toArray) (hI : IntsAre vs ns) (hn : vs.length < 64)
    (h : ∀ (out : Array Value) (ns' : List Int), IntsAre out.toList ns' → ns'.Perm ns → ns'.Pairwise (· ≤ ·) → Q (.ref (s.heap.objs.size + 1)) { s with heap := sortedAll s.heap vs out }) :
    wpAny (model prog w) A (call (.builtin "sorted") [.ref l]) Q E s := by
  refine Calls.call_function_entry kind_sorted plain_sorted entry_sorted (args_sorted1 (.ref l)) ?_
  unfold Builtin.«sorted»
  refine wpAny_bind (m := checkCount "sorted" 1 1 _) (wpAny_pure (wpAny_bind (collect_tup hl (by rw [sizeLine_eq]; omega) (wpAny_bind (wpAny_newList ?_ (by rw [sizeLine_eq]; omega))))))
  have z1 : ((s.heap.push (seqObj "list" #[] 0)).update s.heap.objs.size (Obj.mapSeq (· ++ vs.toArray))).objs.size = s.heap.objs.size + 1 := (Heap.size_update ..).trans (size_push' ..)
  have z2 := Heap.get?_push_size ((s.heap.push (seqObj "list" #[] 0)).update s.heap.objs.size (Obj.mapSeq (· ++ vs.toArray))) (o := seqObj "list" vs.toArray 0) rfl
  rw [z1] at z2
  show wpAny _ _ _ _ _ { s with heap := ((s.heap.push (seqObj "list" #[] 0)).update s.heap.objs.size (Obj.mapSeq (· ++ vs.toArray))).push (seqObj "list" vs.toArray 0) }
  rw [z1]
  refine wpAny_bind (wpAny_holding (wpAny_call_entry slot_list_sort ⟨_, z2, rfl⟩ entry_list_sort (list_sort_tree z2 hI hn fun out ns' a1 a2 a3 => ⟨_, rfl, wpAny_pure ⟨_, rfl, h out ns' a1 a2 a3⟩⟩) (args_list_sort _)))
end
def rSortTI (K : PySem.W.Frag) : List V → Hp → VK → Prop := fun vs H Q => ∃ (a : Addr) (ns : List Int), vs = [V.ref a] ∧ (SqL K H a (ns.map V.int) ∨ SqT K H a (ns.map V.int)) ∧ ns.length < 64 ∧
  ∀ (ns' : List Int) (p : Addr), ns'.Perm ns → ns'.Pairwise (· ≤ ·) → H p = none → Q (.ref p) (upd H p (.lst (ns'.map V.int)))
section
variable {X : Cx} (K : PySem.W.Frag)
theorem cr_sortTI (h : X.K = K := by rfl) : CallR X (.builtin "sorted") (rSortTI K) := by
  subst h
  intro pins s σ H vs us Q I r h
  obtain ⟨a, ns, rfl, hs | hs, h64, q⟩ := h
  · exact cr_sorted pins s σ H _ us Q I r ⟨a, ns, rfl, hs, h64, q⟩
  · obtain ⟨its, rv, hl, hz⟩ := I.tuple hs
    rw [Vals.ref1 r]
    have hi := rv.ints
    refine sorted_tup (show s.heap.IsTuple a its.toArray from hl) hi (by rw [hi.length]; exact h64) fun out ns' h1 h2 h3 => ?_
    obtain ⟨ep, he'⟩ := PyProof.Rows.sortedAll_at s.heap its out
    have hlen : (ns'.map V.int).length ≤ sizeLine := by
      rw [List.length_map, h2.length_eq]
      exact small64 h64
    exact ⟨.ref _, upd H (s.heap.objs.size + 1) (.lst (ns'.map V.int)), I.laid (t' := s.toks) (fun _ _ => PyProof.Rows.sortedAll_old) (Nat.le_succ _) ⟨hlen, out.toList, ep, vals_of_ints h1, he'⟩, rfl, q ns' _ h2 h3 (I.hok.fresh (Nat.le_succ _))⟩
end
end Ef
set_option maxHeartbeats 4000000
namespace Ef
open PySem PySem.Spec PyProof.Rows L2
/-! ### set(xs) of a list of ints -/
section
variable {P : Program} {w : World} {A : Around} {E : Value → Shared → Prop} {s : Shared}
/-- a new set -/
abbrev set0 (w : World) : Obj := { cls := .type "set", dict := none, data := .set #[] 0 (.fresh 0 0 (!w.params.followText "set-order")) }
theorem call_setL {l : Addr} {items : Array Value} (ns : List Int) {Q : Value → Shared → Prop} (hh : A.handled = none) (hl : s.heap.IsList l items) (hit : IntsAre items.toList ns) (hb : ns.length + 1 < scanBound)
    (h : ∀ (h' : Heap) (tk c : Nat), SetR w h' s.heap.objs.size (fun j => decide (j ∈ ns)) c → c ≤ ns.length → (∀ b o, s.heap.get? b = some o → h'.get? b = some o) → Q (.ref s.heap.objs.size) { s with heap := h', toks := tk }) :
    wpAny (model P w) A (call (.type "set") [.ref l]) Q E s := by
  have len : items.size = ns.length := by
    have q := IntsAre.length hit
    rw [Array.length_toList] at q
    exact q
  obtain ⟨mc, mt, y0⟩ := F.called_set.mro
  have y1 := F.called_set.made
  have y2 := F.called_set.sub
  have y3 := F.called_set.notType
  have y4 := F.called_set.canCreate
  have y5 := F.typeCall_set_1 (.ref l)
  have hS : (s.heap.push (set0 w)).get? s.heap.objs.size = some (set0 w) := Heap.get?_push_size _ rfl
  have hT : Shared.TypeIs { s with heap := s.heap.push (set0 w) } (.ref s.heap.objs.size) "set" := ⟨_, hS, rfl⟩
  have y6 := F.called_set.init.lookup
  have y7 := F.called_set.init.bind (.ref s.heap.objs.size)
  refine wpAny_call (codeAny_of_tree (show wpAny _ _ (callAny (.type "set") _) _ _ _ from wpAny_pure ⟨Code.quiet_builtin _ (by decide +kernel), codeAny_builtin F.entry_type_call ?_⟩))
  rw [Around.under_plain (weight_type_call_type "set" [.ref l] []) rfl]
  repeat any_goals first | assumption | wp_step
  refine codeAny_mono (code_set_led1 (.ref l) (E := E) (Q₁ := fun obj s₁ => obj = .ref s.heap.objs.size ∧ s₁ = { s with heap := s.heap.push (set0 w) }) ⟨rfl, rfl⟩) fun r s₁ hr => ?_
  cases r with
  | error e => exact hr
  | ok fl =>
    cases fl with
    | ret obj =>
      obtain ⟨rfl, rfl⟩ := hr
      repeat any_goals first | assumption | wp_step
      refine codeAny_mono (codeAny_call_builtin (R := wants (fun r s₂ => r = .none ∧ ∃ h' tk c, s₂ = { s with heap := h', toks := tk } ∧ SetR w h' s.heap.objs.size (fun j => decide (j ∈ ns)) c ∧ c ≤ ns.length ∧
          (∀ b o, s.heap.get? b = some o → h'.get? b = some o)) E) F.called_set.init.plain F.entry_set_init (check_set_init_1 hT ?_)) fun r₂ s₂ hr₂ => ?_
      · obtain ⟨⟨c1, c2, c3, c4⟩, hol, hcl, nl, hdl⟩ := hl
        simp only at hcl hdl
        subst hcl hdl
        have ho2 : (s.heap.push (set0 w)).get? l = some { cls := .type "list", dict := c2, data := .seq items nl, slots := c4 } := Heap.get?_push_of_some _ hol
        have z1 := F.sub_list_set
        have z2 := F.sub_list_frozenset
        have z3 : (Value.type "list" == Value.type "dict") = false := by decide
        have hl1 : (s.heap.push (set0 w)).IsList l items := ⟨_, ho2, rfl, nl, rfl⟩
        have lS : l < s.heap.objs.size := Heap.lt_size hol
        have sz : (s.heap.push (set0 w)).objs.size = s.heap.objs.size + 1 := Heap.size_push ..
        unfold Builtin.«set.__init__» noKeywords Builtin.Frozenset.updateFrom
        generalize hPI : pyIter = PI
        wp_walk
        subst hPI
        refine wpAny_pyIter_list hl1 (wpAny_bind (wpAny_runValue ?_))
        have h3 : A.in1.in1.in1.handled = none := by simp [hh]
        have ne1 : l ≠ (s.heap.push (set0 w)).objs.size := by
          rw [sz]
          exact Nat.ne_of_lt (Nat.lt_succ_of_lt lS)
        have nf : s.heap.objs.size ∉ [(s.heap.push (set0 w)).objs.size, l] := by
          rw [sz]
          simp only [List.mem_cons, List.not_mem_nil, or_false, not_or]
          exact ⟨Nat.ne_of_lt (Nat.lt_succ_self _), Nat.ne_of_gt lS⟩
        have val : ∀ (i : Nat) (v : Value), items[i]? = some v → ∃ k t, ns[i]? = some k ∧ v = .int k t := fun i v hv => by
          have hi : i < ns.length := by rw [← len]; exact (Array.getElem?_eq_some_iff.mp hv).1
          obtain ⟨t, e⟩ := PyProof.Rows.IntsAre.int_at hit i v (by rw [Array.getElem?_toList]; exact hv)
          refine ⟨ns[i], t, List.getElem?_eq_getElem hi, ?_⟩
          rw [e, List.getD_eq_getElem?_getD, List.getElem?_eq_getElem hi] <;> rfl
        refine set_update_ints ((Walks.list h3 _ l ne1 items).toS) s.heap.objs.size nf ns len hb val (items.size - 0) 0 _ (by omega) (Nat.zero_le _) ⟨⟨_, Heap.get?_push_size _ rfl, rfl, rfl⟩, (hl1.push _)⟩ ⟨0, Nat.le_refl 0, setR_new_at (Heap.get?_push_of_some _ hS)⟩ ?_
        intro s' c' hm hc' hS'
        obtain ⟨h', g2, d', tk', os'⟩ := s'
        have eg : g2 = s.gens := hm.gens
        have ed : d' = s.drawn := hm.drawn
        have eo : os' = s.os := hm.os
        subst eg ed eo
        rw [len] at hc'
        refine wpAny_pure (show wpAny _ _ (ret Value.none) _ _ _ from wpAny_pure ⟨rfl, h', tk', c', rfl, hS', hc', fun b o e => ?_⟩)
        have b0 : b < s.heap.objs.size := Heap.lt_size e
        refine hm.heap b o ?_ (Heap.get?_push_of_some _ (Heap.get?_push_of_some _ e))
        simp only [List.mem_cons, List.not_mem_nil, or_false, not_or]
        rw [sz]
        exact ⟨Nat.ne_of_lt b0, Nat.ne_of_lt (Nat.lt_succ_of_lt b0)⟩
      · cases r₂ with
        | error e => exact hr₂
        | ok fl₂ =>
          cases fl₂ with
          | ret r =>
            obtain ⟨rfl, h', tk, c', rfl, hS', hc', hk'⟩ := hr₂
            repeat any_goals first | assumption | wp_step
            exact h _ _ _ hS' hc' hk'
          | _ => exact hr₂.elim
    | _ => exact hr.elim
end
def rSetL (K : PySem.W.Frag) (w : World) : List V → Hp → VK → Prop := fun xs H Q => ∃ (l : Addr) (ns : List Int), xs = [.ref l] ∧ SqL K H l (ns.map V.int) ∧ ns.length ≤ 1000 ∧
    ∀ (p : Addr) (c : Nat), H p = none → c ≤ ns.length → Q (.ref p) (upd H p (SetO w p (fun j => decide (j ∈ ns)) c))
section
variable {X : Cx} (K : PySem.W.Frag) (w : World)
theorem cr_setL (hc : X.calm = true) (h : X.K = K := by rfl) (hw : X.w = w := by rfl) : CallR X (.type "set") (rSetL K w) := by
  subst h hw
  intro pins s σ H xs us Q I r h
  obtain ⟨l, ns, rfl, hq, hl, q⟩ := h
  obtain ⟨u, rfl, ru⟩ := vals1 r
  obtain rfl : u = Value.ref l := ru
  obtain ⟨its, rv, pt, hz⟩ := I.list hq
  refine call_setL ns (I.ok.hd hc) (show s.heap.IsList l its.toArray from pt.isList) (ints_of_vals rv) (by unfold scanBound; omega) fun h' tk c R1 hcn k => ?_
  exact ⟨.ref _, _, I.laid (t' := tk) k (Nat.le_refl _) (setO_new R1), rfl, q _ c (I.hok.fresh (Nat.le_refl _)) hcn⟩
end
end Ef
namespace Ef
open PySem PySem.Spec PyProof.Rows L2
/-! ### repr of a list of one value of any sort -/
section
variable {X : Cx} {es : List Expr} {t : TA} {pos : Pos}
def tLstN (t : TA) : TE := fun σ H Q => t σ H fun xs H1 => xs.length ≤ sizeLine ∧ ∀ p, H1 p = none → p ≠ sysModules → Q (.ref p) (upd H1 p (.lst xs))
theorem far_new {pins : List (Addr × Obj)} {σ : L2.St} {H : Hp} {s : Shared} (I : Inv X pins σ H s) : s.heap.objs.size ≠ sysModules := by
  obtain ⟨mc, h1, _⟩ := I.nolimit
  have h2 : cStatics < s.heap.objs.size := h1.lt
  have h3 : (2 : Nat) < s.heap.objs.size := h2
  show ¬ s.heap.objs.size = 1
  omega
theorem pe_lstN (h : PA X es t) : PE X (.List es pos) (tLstN t) := by
  refine ⟨fun pins s σ H Q I hq => ?_⟩
  refine wpAny_List_spliced (thn (h.run pos pins s σ H _ I hq) fun us s1 ⟨xs, H1, I1, r, z, q⟩ => ⟨by rw [← r.length]; exact z, ?_⟩)
  have hf : H1 s1.heap.objs.size = none := I1.hok.fresh (Nat.le_refl _)
  refine ⟨.ref s1.heap.objs.size, upd H1 s1.heap.objs.size (.lst xs), I1.laid (t' := s1.toks) (fun b u e => Heap.get?_push_of_some _ e) (Nat.le_refl _) ?_, rfl, q _ hf (far_new I1)⟩
  exact ⟨z, us, 0, r, Heap.get?_push_size _ rfl⟩
end
/-- data that is not deep, or an empty dict -/
def ItemS (K : PySem.W.Frag) (H : Hp) (v : V) (d : PyData) : Prop := (Dp K H v d ∧ Sh 50 70000 d) ∨ (d = .dict [] ∧ ∃ p, v = .ref p ∧ H p = some (.dK []))
theorem ItemS.mono {K : PySem.W.Frag} {H H' : Hp} {v : V} {d : PyData} (s : Same H H') (h : ItemS K H v d) : ItemS K H' v d := by
  rcases h with ⟨h, h2⟩ | ⟨e, p, e2, h⟩
  · exact .inl ⟨Dp.mono s h, h2⟩
  · exact .inr ⟨e, p, e2, s _ _ h⟩
def rReprL (K : PySem.W.Frag) : List V → Hp → VK → Prop := fun xs H Q => ∃ l v d, xs = [.ref l] ∧ H l = some (.lst [v]) ∧ l ≠ sysModules ∧ ItemS K H v d ∧ Q (.str (PyData.list [d]).shown) H
section
variable {X : Cx} (K : PySem.W.Frag)
theorem call_reprL (gd : X.A.guards = some []) (hu : X.A.units + 66 < cLine) (h : X.K = K := by rfl) : CallR X (.builtin "repr") (rReprL K) := by
  subst h
  intro pins s σ H xs us Q I r h
  obtain ⟨l, v, d, rfl, hl, hne, hI, q⟩ := h
  rcases hI with ⟨hD, hS⟩ | ⟨rfl, p, rfl, hp⟩
  · refine call_reprD gd hu pins s σ H _ us Q I r ⟨.ref l, .list [d], rfl, .lst (SqL.of hl) (.cons hD .nil), ?_, q⟩
    exact (Sh.lst (ShAll.cons hS (ShAll.nil.mono (Nat.zero_le 50) (Nat.zero_le 0)))).mono (by decide) (by decide)
  · obtain ⟨u, rfl, ru⟩ := vals1 r
    obtain rfl : u = Value.ref l := ru
    obtain ⟨_, hsys, vs, kv, o, es, ep, ho, hx, hd, hk, hpr, hn⟩ := dk_of I.hok hp
    have e1 : vs = [] := by
      cases kv
      rfl
    subst e1
    have e2 : es.toList = [] := by
      generalize es.toList = l at hpr ⊢
      cases hpr
      rfl
    have rd : Reads s.heap (.ref p) (.dict []) (p :: [] ++ []) := by
      refine .dict ho hx.1 hd ?_ ?_
      · rw [e2]
        exact .nil
      · rw [e2]
        exact .nil
    obtain ⟨its, rv, ⟨ol, nl, g1, g2, g3, g4⟩, hz⟩ := I.list (SqL.of hl)
    obtain ⟨u, rfl, ru⟩ := vals1 rv
    obtain rfl : u = Value.ref p := ru
    have dep : PyData.depth (.list [.dict []]) ≤ 3 := by decide
    have rdl : Reads s.heap (.ref l) (.list [.dict []]) (l :: ((p :: [] ++ []) ++ [])) := .list g1 g2 (by first | exact g3 | exact g4) (.cons rd .nil)
    refine repr_of_reads' rdl rfl (fun _ hm => ?_) gd (by omega) (fun _ _ e => e) (fun h' u tk hk => ?_) (by decide +kernel)
    · have e3 : sysModules = l ∨ sysModules = p := by simpa using hm
      rcases e3 with e3 | e3
      · exact hne e3.symm
      · rw [← e3] at hsys
        exact absurd hsys (by simp)
    · exact ⟨.str _, H, I.kept hk, ⟨u, rfl⟩, q⟩
end
section
variable {X : Cx} (K : PySem.W.Frag)
theorem cr_allK (hc : X.calm = true := by rfl) (h : X.K = K := by rfl) : CallR X (.builtin "all") (rAll K) := h ▸ cr_all hc
end
end Ef
namespace Ef
open PySem PySem.Spec PyProof.Rows L2
/-! ### data: equal to itself, shown -/
theorem neD_same {K : PySem.W.Frag} {H : Hp} {x y : V} {d : PyData} {Q : VK} (hx : Dp K H x d) (hy : Dp K H y d) (s : Sh 60 80000 d) (q : Q (.bl false) H) : rNeD K x y H Q := by
  refine ⟨d, d, hx, hy, s.shaped (by decide), s.shaped (by decide), ?_⟩
  rw [SeqAt.eqv_refl d s.can]
  exact q
theorem eqD_same {K : PySem.W.Frag} {H : Hp} {x y : V} {d : PyData} {Q : VK} (hx : Dp K H x d) (hy : Dp K H y d) (s : Sh 60 80000 d) (q : Q (.bl true) H) : rEqD K x y H Q := by
  refine ⟨d, d, hx, hy, s.shaped (by decide), s.shaped (by decide), ?_⟩
  rw [SeqAt.eqv_refl d s.can]
  exact q
/-- numbers as data -/
def natD (ms : List Nat) : List PyData := ms.map fun (m : Nat) => PyData.int (m : Int)
theorem sh_nat {ms : List Nat} {b : Nat} (h0 : 0 < b) (h6 : b ≤ 600) (h : ∀ x ∈ ms, x < 2 ^ b) : ShAll 0 ((b + 1) * ms.length) (natD ms) := by
  have e : natD ms = (ms.map fun (m : Nat) => (m : Int)).map PyData.int := by
    unfold natD
    rw [List.map_map]
    rfl
  rw [e]
  have h1 := ShAll.ints h0 h6 (ns := ms.map fun (m : Nat) => (m : Int)) fun x hx => by
    obtain ⟨m, hm, rfl⟩ := List.mem_map.mp hx
    exact h m hm
  rw [List.length_map] at h1
  exact h1
theorem sh_list {ms : List Nat} (hl : ms.length ≤ 60) (h : ∀ x ∈ ms, x < 60) : Sh 1 500 (.tuple (natD ms)) := by
  have h1 := sh_nat (b := 6) (by decide) (by decide) (ms := ms) fun x hx => by
    have := h x hx
    omega
  exact Sh.tup (h1.mono (by decide) (by omega))
end Ef
set_option maxHeartbeats 4000000
namespace Ef
open PySem PySem.Spec PyProof.Rows L2
/-! ### repr of greater data whose leaves are short -/
structure ShW (d : PyData) : Prop where
  can : d.canLay0 = true
  dep : d.depth ≤ 60
  shw : d.showable = true
  fit : d.shown.length ≤ sizeLine
theorem ShW.of {wt : Nat} {d : PyData} (h : Sh 60 wt d) (hl : d.leavesShort 13 = true) (hw : wt ≤ 1000000) : ShW d := ⟨h.can, h.dep, h.shw, by
  have h2 := PyData.shown_le 13 (by decide) d hl
  have h3 := h.wgt
  have h4 : (13 + 2) * d.weight ≤ 15 * 1000000 := Nat.mul_le_mul (by omega) (by omega)
  have h5 : sizeLine = 16777216 := by decide
  omega⟩
theorem leaves_nat : ∀ {ms : List Nat}, (∀ x ∈ ms, x < 2 ^ 30) → PyData.leavesShortAll 13 (natD ms) = true
  | [], _ => rfl
  | x :: r, h => by
    show (PyData.leavesShort 13 (.int (x : Int)) && PyData.leavesShortAll 13 (natD r)) = true
    rw [leaves_nat fun y hy => h y (List.mem_cons_of_mem _ hy), Bool.and_true]
    have h1 : (x : Int).natAbs < 10 ^ 12 := Nat.lt_of_lt_of_le (h x List.mem_cons_self) (by decide)
    have e := int_text_length_le10 (k := 12) (by decide) h1
    refine decide_eq_true ?_
    show (Str.ofString (toString (x : Int))).length ≤ 13
    rw [PySem.ofString_length]
    exact e
theorem leaves_rows : ∀ {rows : List (List Nat)}, (∀ r ∈ rows, ∀ x ∈ r, x < 2 ^ 30) → PyData.leavesShortAll 13 (rows.map fun r => PyData.tuple (natD r)) = true
  | [], _ => rfl
  | r :: rows, h => by
    show (PyData.leavesShortAll 13 (natD r) && PyData.leavesShortAll 13 (rows.map fun r => PyData.tuple (natD r))) = true
    rw [leaves_rows fun y hy => h y (List.mem_cons_of_mem _ hy), leaves_nat (h r List.mem_cons_self)]
    rfl
section
variable {X : Cx}
theorem call_reprW0 (gd : X.A.guards = some []) (hu : X.A.units + 66 < cLine) : CallR X (.builtin "repr") (fun xs H Q => ∃ v d, xs = [v] ∧ Dp X.K H v d ∧ ShW d ∧ Q (.str d.shown) H) := by
  intro pins s σ H xs us Q I r h
  obtain ⟨v, d, rfl, hD, hd, q⟩ := h
  have hsz := hd.fit
  obtain ⟨u, rfl, ru⟩ := vals1 r
  rcases Dp_ref hD with ⟨a, rfl⟩ | ⟨rfl, rfl⟩ | ⟨b, rfl, rfl⟩ | ⟨i, rfl, rfl⟩ | ⟨x, rfl, rfl⟩
  · obtain rfl : u = Value.ref a := ru
    obtain ⟨as, rd⟩ := Dp.reads I d _ _ hD rfl
    have hdp := hd.dep
    refine repr_of_reads' rd hd.shw (PyData.noDict_hsm (PyData.hasDict_of_canLay d hd.can)) gd (by omega) (fun _ _ e => e) (fun h' u tk hk => ?_) hsz
    exact ⟨.str _, H, I.kept hk, ⟨u, rfl⟩, q⟩
  · obtain rfl : u = Value.none := ru
    exact P.repr_of_none ⟨.str _, H, I.tok _, ⟨_, rfl⟩, q⟩
  · obtain rfl : u = Value.bool b := ru
    exact P.repr_of_bool ⟨.str _, H, I.tok _, ⟨_, rfl⟩, q⟩
  · obtain ⟨t, rfl⟩ := ru
    exact P.repr_of_int (of_decide_eq_true hd.shw) ⟨.str _, H, I.tok _, ⟨_, rfl⟩, q⟩
  · obtain ⟨t, rfl⟩ := ru
    exact P.repr_of_str ⟨.str _, H, I.tok _, ⟨_, rfl⟩, q⟩ hsz
end
def rReprW (K : PySem.W.Frag) : List V → Hp → VK → Prop := fun xs H Q => ∃ v d, xs = [v] ∧ Dp K H v d ∧ ShW d ∧ Q (.str d.shown) H
theorem call_reprW {X : Cx} {K : PySem.W.Frag} (gd : X.A.guards = some []) (hu : X.A.units + 66 < cLine) (h : X.K = K := by rfl) : CallR X (.builtin "repr") (rReprW K) := h ▸ call_reprW0 gd hu
end Ef
set_option maxHeartbeats 4000000
namespace Ef
open PySem PySem.Spec PyProof.Rows L2 PySem.NumText TL
/-! ### numbers as they are written in texts -/
def zeroS : Str := "0"
/-- a whole number as it is written: at most forty digits, none in front that is not needed -/
def headS (x : Str) : Str := match x.cps.toList with
  | c :: _ => ⟨#[c]⟩
  | [] => x
def numW (x : Str) : Bool := decide (x.length ≤ 40) && Txt.isascii x && Txt.isdigit x && (decide (x = zeroS) || !decide (headS x = zeroS))
def valW (x : Str) : Nat := digitsVal x.cps.toList
theorem dig_ascii : ∀ c : Nat, c < 128 → Unicode.isDigit c = true → 48 ≤ c ∧ c ≤ 57 := by decide +kernel
theorem dig_back : ∀ c : Nat, 48 ≤ c → c ≤ 57 → Unicode.isDigit c = true := by
  intro c h1 h2
  have key : ∀ d : Fin 10, Unicode.isDigit (48 + d.val) = true := by decide +kernel
  have := key ⟨c - 48, by omega⟩
  rw [show 48 + (c - 48) = c by omega] at this
  exact this
theorem numW_digits {x : Str} (h : numW x = true) : AllDigits x.cps.toList ∧ x.cps.toList ≠ [] ∧ x.length ≤ 40 := by
  unfold numW at h
  rw [Bool.and_eq_true, Bool.and_eq_true, Bool.and_eq_true] at h
  obtain ⟨⟨⟨h1, h2⟩, h3⟩, _⟩ := h
  have h1 := of_decide_eq_true h1
  unfold Txt.isascii at h2
  unfold Txt.isdigit at h3
  rw [Bool.and_eq_true] at h3
  obtain ⟨h3, h4⟩ := h3
  rw [← Array.all_toList, List.all_eq_true] at h2 h4
  refine ⟨fun c hc => dig_ascii c (of_decide_eq_true (h2 c hc)) (h4 c hc), fun e => ?_, h1⟩
  have h3 := of_decide_eq_true h3
  have : x.length = x.cps.toList.length := rfl
  rw [this, e] at h3
  exact absurd h3 (by decide)
theorem numW_int {x : Str} (h : numW x = true) : intText? x = some ((valW x : Nat) : Int) := by
  obtain ⟨h1, h2, h3⟩ := numW_digits h
  exact intText_digits h1 h2 (by omega)
/-- the text of a whole number -/
def natS (n : Nat) : Str := Str.ofString (toString ((n : Nat) : Int))
theorem natS_signs (n : Nat) : (natS n).cps.toList = numL n := tl_num n
theorem natS_val (n : Nat) : valW (natS n) = n := by
  unfold valW
  rw [natS_signs, numL_val]
theorem natS_len {n k : Nat} (hk : 0 < k) (h : n < 10 ^ k) : (natS n).length ≤ k := by
  have : (natS n).length = (natS n).cps.toList.length := rfl
  rw [this, natS_signs]
  exact numL_len hk h
theorem numL_head : ∀ {n : Nat}, n ≠ 0 → (numL n).head? ≠ some 48 := by
  intro n
  induction n using Nat.strongRecOn with
  | _ n ih =>
    intro h
    by_cases c : n < 10
    · rw [numL_lt c]
      intro e
      have := Option.some.inj e
      omega
    · rw [numL_step (by omega)]
      have h2 := ih (n / 10) (by omega) (by omega)
      intro e
      refine h2 ?_
      cases q : numL (n / 10) with
      | nil => exact absurd q (numL_ne _)
      | cons d r =>
        rw [q] at e
        exact e
theorem natS_num {n : Nat} (h : n < 10 ^ 40) : numW (natS n) = true := by
  have hl := natS_len (n := n) (k := 40) (by decide) h
  have hd : AllDigits (natS n).cps.toList := by rw [natS_signs]; exact numL_digits n
  have hne : (natS n).cps.toList ≠ [] := by rw [natS_signs]; exact numL_ne n
  unfold numW
  rw [decide_eq_true hl, Bool.true_and]
  have ha : Txt.isascii (natS n) = true := by
    unfold Txt.isascii
    rw [← Array.all_toList, List.all_eq_true]
    exact fun c hc => decide_eq_true (by have := hd c hc; omega)
  have hg : Txt.isdigit (natS n) = true := by
    unfold Txt.isdigit
    rw [Bool.and_eq_true]
    refine ⟨decide_eq_true ?_, ?_⟩
    · have : (natS n).length = (natS n).cps.toList.length := rfl
      rw [this]
      exact List.length_pos_iff.mpr hne
    · rw [← Array.all_toList, List.all_eq_true]
      exact fun c hc => dig_back c (hd c hc).1 (hd c hc).2
  rw [ha, hg, Bool.true_and, Bool.true_and]
  by_cases c : n = 0
  · subst c
    decide +kernel
  · have key : (natS n).cps.toList.head? ≠ some 48 := by
      rw [natS_signs]
      exact numL_head c
    have : ¬ headS (natS n) = zeroS := fun e => by
      unfold headS at e
      split at e
      · rename_i d r hr
        rw [hr] at key
        have e2 : (⟨#[d]⟩ : Str) = ⟨#[48]⟩ := e
        injection e2 with e2
        have e3 : d = 48 := by simpa using e2
        exact key (by rw [e3]; rfl)
      · rename_i hr
        exact hne hr
    rw [decide_eq_false this, Bool.not_false, Bool.or_true]
/-- a text of numbers with one blank between them -/
def blankS : Str := " "
def lineS : Str := "\n"
theorem joinL_mem {S p : List Nat} : ∀ {parts : List (List Nat)}, p ∈ parts → p.length ≤ (joinL S parts).length
  | [], h => absurd h List.not_mem_nil
  | [q], h => by
    rw [List.mem_singleton.mp h]
    exact Nat.le_refl _
  | q :: q2 :: r, h => by
    show p.length ≤ (q ++ (S ++ joinL S (q2 :: r))).length
    rw [List.length_append, List.length_append]
    rcases List.mem_cons.mp h with rfl | h
    · omega
    · have := joinL_mem (S := S) h
      omega
theorem split_part {x y p : Str} (h : p ∈ Txt.split x y) : p.length ≤ x.length := by
  have e := congrArg tl (StrLaws.join_split x y)
  rw [tl_join] at e
  have h2 := joinL_mem (S := tl y) (List.mem_map.mpr ⟨p, h, rfl⟩ : tl p ∈ (Txt.split x y).map tl)
  rw [e] at h2
  exact h2
theorem blank_mk : blankS = ⟨#[32]⟩ := by decide +kernel
theorem line_mk : lineS = ⟨#[10]⟩ := by decide +kernel
theorem split_some (x y : Str) : 1 ≤ (Txt.split x y).length := by
  unfold Txt.split
  split
  · exact Nat.le_refl _
  · split
    · exact Nat.le_refl _
    · rw [length_partsBetween]
      omega
theorem split_blank (x : Str) : 1 ≤ (Txt.split x blankS).length := split_some _ _
theorem split_line (x : Str) : 1 ≤ (Txt.split x lineS).length := split_some _ _
/-- so many numbers behind a name, in a row -/
def fieldsW (row name : Str) (many : Nat) : Option (List Nat) :=
  if (Txt.split row blankS).head? = some name ∧ (Txt.split row blankS).length = many + 1 ∧ (Txt.split row blankS).tail.all numW = true then some ((Txt.split row blankS).tail.map valW) else none
/-! str of an int or a text -/
def rStrE : List V → Hp → VK → Prop := fun xs H Q => (∃ i : Int, xs = [.int i] ∧ i.natAbs.log2 < 1920 ∧ Q (.str (toString i)) H) ∨ ∃ a : Str, xs = [.str a] ∧ Q (.str a) H
theorem call_strE {X : Cx} : CallR X (.type "str") rStrE := by
  intro pins s σ H xs us Q I r h
  rcases h with h | h
  · exact call_str_int pins s σ H xs us Q I r h
  · exact SkE.call_str_str pins s σ H xs us Q I r h
/-- a word of a row: a text, or a number as it is written -/
def WordV (v : V) (w : Str) : Prop := v = .str w ∨ ∃ k : Nat, v = .int (k : Int) ∧ k < 2 ^ 1000 ∧ w = natS k
theorem WordV.str {v : V} {w : Str} {H : Hp} {Q : VK} (h : WordV v w) (q : Q (.str w) H) : rStrE [v] H Q := by
  rcases h with rfl | ⟨k, rfl, hk, rfl⟩
  · exact .inr ⟨w, rfl, q⟩
  · refine .inl ⟨k, rfl, ?_, q⟩
    rw [Int.natAbs_natCast]
    by_cases c : k = 0
    · rw [c]; decide
    · exact Nat.lt_of_lt_of_le ((Nat.log2_lt c).mpr hk) (by decide)
theorem joinL_len (S : List Nat) : ∀ parts : List (List Nat), (joinL S parts).length ≤ (parts.map List.length).sum + parts.length * S.length
  | [] => Nat.zero_le _
  | [p] => by
    show p.length ≤ p.length + 0 + 1 * S.length
    omega
  | p :: q :: r => by
    have ih := joinL_len S (q :: r)
    show (p ++ (S ++ joinL S (q :: r))).length ≤ p.length + ((q :: r).map List.length).sum + ((q :: r).length + 1) * S.length
    rw [List.length_append, List.length_append, Nat.add_mul]
    omega
theorem join_len (y : Str) (parts : List Str) : (Txt.join y parts).length ≤ (parts.map (·.length)).sum + parts.length * y.length := by
  have h := joinL_len (tl y) (parts.map tl)
  rw [← tl_join, ← join_eq, List.map_map, List.length_map] at h
  exact h
theorem sum_le {α : Type} {f : α → Nat} {b : Nat} : ∀ {l : List α}, (∀ x ∈ l, f x ≤ b) → (l.map f).sum ≤ l.length * b
  | [], _ => Nat.zero_le _
  | x :: r, h => by
    have h1 := h x List.mem_cons_self
    have h2 := sum_le (l := r) fun y hy => h y (List.mem_cons_of_mem _ hy)
    rw [List.map_cons, List.sum_cons, List.length_cons, Nat.add_mul]
    omega
/-! sep.join(xs) inside a comprehension -/
def rJoinK (K : PySem.W.Frag) : V → List V → Hp → VK → Prop := fun x xs H Q => ∃ a p, ∃ ys : List Str, x = .str a ∧ xs = [.ref p] ∧ (SqL K H p (ys.map V.str) ∨ SqT K H p (ys.map V.str)) ∧ (ys.map (·.length)).sum + ys.length * a.length ≤ 16777216 ∧ Q (.str (Txt.join a ys)) H
theorem mt_joinK {X : Cx} (K : PySem.W.Frag) (h : X.K = K := by rfl) : MtR X "str.join" (rJoinK K) := h ▸ mt_join
theorem pe_joinK {X : Cx} (K : PySem.W.Frag) {o e : Expr} {to te : TE} {apos pos : Pos} (ho : PE X o to) (he : PE X e te) (hk : X.K = K := by rfl) (hs : starEach [e] X.env = [(false, eval e X.env)] := by rfl) (hbase : attributeBase o "join" X.env (eval o X.env) = eval o X.env := by rfl) (hline : (apos.endLine == pos.line) = true := by rfl) :
    PE X (.Call (.Attribute o "join" apos) [e] [] pos) (tM1 (rJoinK K) to te) := pe_m1 F.slot_str_join F.type_str_join (mt_joinK K hk) ho he hs hbase hline
end Ef
set_option maxHeartbeats 4000000
namespace Ef
open PySem PySem.Spec PyProof.Rows L2
/-! ### x in l, l.index(x), l.count(x) where items are data -/
def rCntD (K : PySem.W.Frag) : V → List V → Hp → VK → Prop := fun x xs H Q => ∃ (a : Addr) (y : V) (d : PyData) (ds : List PyData), x = V.ref a ∧ xs = [y] ∧ Dp K H (V.ref a) (.list ds) ∧ Dp K H y d ∧
  SeqAt.shaped (.list ds) = true ∧ SeqAt.shaped d = true ∧ Q (.int (ds.countP (fun z => PyData.eqv z d) : Nat)) H
theorem mt_countD {X : Cx} (hu : X.A.units + 65 < cLine) : MtR X "list.count" (rCntD X.K) := by
  intro pins s σ H x xs v us Q I rx rxs h
  obtain ⟨a, y, d, ds, rfl, rfl, hl, hy, sl, sd, q⟩ := h
  cases rx
  cases rxs with
  | cons ry rt =>
    rename_i uy ut
    cases rt
    obtain ⟨bs, r1⟩ := Dp.reads I d y uy hy ry
    have hxs : PyData.canLayAll0 ds = true := SeqAt.canLay_of_shaped sl
    have hroom : X.A.units + 1 + min (PyData.depthAll ds) d.depth < cLine := room_in_shaped sd hu
    cases hl with
    | lst hs ha =>
      obtain ⟨its, rv, ⟨⟨cls, dd, data, sls⟩, n, ho, hc, hdn, hdt⟩, hlen⟩ := I.list hs
      simp only at hc hdt
      subst hc hdt
      obtain ⟨as, h4⟩ := Dp.readsAll I ds _ its ha rv
      have hmap : its.map (SeqAt.readOf s.heap) = ds := SeqAt.readsAll_map ds its as hxs h4
      refine call_meets PySem.F.slot_list_count ⟨_, ho, rfl⟩ PySem.F.entry_list_count (PySem.F.args_list_count_2 _ _)
        (SeqAt.list_countAt a its.toArray n dd sls uy (fun u => PyData.eqv (SeqAt.readOf s.heap u) d)) ⟨ho, SeqAt.items_eqAt (vs := its.toArray) (show ReadsAll s.heap its.toArray.toList ds as from h4) r1 hxs (SeqAt.canLay_of_shaped sd) hroom, ?_⟩
      refine ⟨.int (ds.countP (fun z => PyData.eqv z d) : Nat), H, I.tok _, ⟨s.toks, ?_⟩, q⟩
      show Value.int ((its.toArray.toList.countP (fun u => PyData.eqv (SeqAt.readOf s.heap u) d) : Nat) : Int) s.toks = _
      rw [← hmap, List.countP_map]
      rfl
theorem op_inDK {X : Cx} (K : PySem.W.Frag) (hu : X.A.units + 65 < cLine) (h : X.K = K := by rfl) : OpR X (compareOp .In) (rInD K) := h ▸ op_inD hu
theorem op_notInDK {X : Cx} (K : PySem.W.Frag) (hu : X.A.units + 65 < cLine) (h : X.K = K := by rfl) : OpR X (compareOp .NotIn) (rNotInD K) := h ▸ op_notInD hu
theorem mt_indexDK {X : Cx} (K : PySem.W.Frag) (hu : X.A.units + 65 < cLine) (h : X.K = K := by rfl) : MtR X "list.index" (rIndexD K) := h ▸ mt_indexD hu
theorem mt_countDK {X : Cx} (K : PySem.W.Frag) (hu : X.A.units + 65 < cLine) (h : X.K = K := by rfl) : MtR X "list.count" (rCntD K) := h ▸ mt_countD hu
/-- two lists of numbers, as data -/
theorem eqv_nats : ∀ (a b : List Nat), PyData.eqvAll (natD a) (natD b) = decide (a = b)
  | [], [] => by simp [natD, PyData.eqvAll]
  | [], b :: s => by simp [natD, PyData.eqvAll]
  | a :: r, [] => by simp [natD, PyData.eqvAll]
  | a :: r, b :: s => by
    have ih := eqv_nats r s
    have e : PyData.eqvAll (natD (a :: r)) (natD (b :: s)) = (((a : Int) == (b : Int)) && PyData.eqvAll (natD r) (natD s)) := by
      show PyData.eqvAll (PyData.int (a : Int) :: natD r) (PyData.int (b : Int) :: natD s) = _
      simp only [PyData.eqvAll, PyData.eqv]
    rw [e, ih]
    by_cases h1 : a = b
    · subst h1
      by_cases h2 : r = s
      · subst h2
        simp
      · simp [h2]
    · have h3 : ((a : Int) == (b : Int)) = false := beq_eq_false_iff_ne.mpr fun z => h1 (by omega)
      rw [h3]
      simp [h1]
theorem eqv_natT (a b : List Nat) : PyData.eqv (.tuple (natD a)) (.tuple (natD b)) = decide (a = b) := by
  simp only [PyData.eqv]
  exact eqv_nats a b
end Ef
set_option maxHeartbeats 4000000
namespace Ef
open PySem PySem.Spec PyProof.Rows L2
open PySem.W (dataLe AllAlike Sortable EachIs sorted_data sortLe_total TotalLe dataLt dataLt_tuple dataLt_ints)
/-! ### sorted of a list of data, any number of them -/
abbrev dLe : V × PyData → V × PyData → Bool := dataLe false (fun b : V × PyData => b.2)
def rSortD (K : PySem.W.Frag) : List V → Hp → VK → Prop := fun vs H Q => ∃ (a : Addr) (bs : List (V × PyData)), vs = [V.ref a] ∧ SqL K H a (bs.map (·.1)) ∧ (∀ b ∈ bs, Dp K H b.1 b.2) ∧ AllAlike (bs.map (·.2)) ∧ Sortable (bs.map (·.2)) ∧ (∀ b ∈ bs, b.2.depth ≤ 20) ∧
  ∀ p : Addr, H p = none → Q (.ref p) (upd H p (.lst ((bs.mergeSort dLe).map (·.1))))
theorem each_vals : ∀ {bs : List (V × PyData)} {us : List Value}, Vals (bs.map (·.1)) us → EachIs (fun u (b : V × PyData) => RelV b.1 u) us bs
  | [], _, .nil => .nil
  | _ :: _, _, .cons r t => .cons r (each_vals t)
theorem vals_each : ∀ {bs : List (V × PyData)} {us : List Value}, EachIs (fun u (b : V × PyData) => RelV b.1 u) us bs → Vals (bs.map (·.1)) us
  | [], _, .nil => .nil
  | _ :: _, _, .cons r t => .cons r (vals_each t)
section
variable {X : Cx} {K : PySem.W.Frag}
theorem each_reads {pins : List (Addr × Obj)} {σ : L2.St} {H : Hp} {s : Shared} (I : Inv X pins σ H s) : ∀ {bs : List (V × PyData)} {us : List Value}, (∀ b ∈ bs, Dp X.K H b.1 b.2) → EachIs (fun u (b : V × PyData) => RelV b.1 u) us bs → EachIs (fun u (b : V × PyData) => ∃ as, Reads s.heap u b.2 as) us bs
  | [], _, _, .nil => .nil
  | b :: _, _, h, .cons r t => .cons (Dp.reads I b.2 b.1 _ (h b List.mem_cons_self) r) (each_reads I (fun c hc => h c (List.mem_cons_of_mem _ hc)) t)
theorem cr_sortD (hu : X.A.units + 64 < cLine) (h : X.K = K := by rfl) : CallR X (.builtin "sorted") (rSortD K) := by
  subst h
  intro pins s σ H vs us Q I r hq
  obtain ⟨a, bs, rfl, hs, hd, hal, hk, hdp, q⟩ := hq
  obtain ⟨its, rv, hl, hz⟩ := I.list hs
  obtain ⟨u, rfl, ru⟩ := vals1 r
  obtain rfl : u = Value.ref a := ru
  have ee := each_vals rv
  have hz2 : bs.length ≤ sizeLine := by
    rw [List.length_map] at hz
    exact hz
  refine sorted_data (β := V × PyData) (bs := bs) (enc := fun b : V × PyData => b.2) (R := fun u (b : V × PyData) => RelV b.1 u) hl.isList ee (each_reads I hd ee) hal hk hz2 (fun b hb => by have := hdp b hb; omega) fun out hlen eo => ?_
  obtain ⟨n, hn⟩ := sortedAll_at s.heap its out.toArray
  refine ⟨.ref _, upd H (s.heap.objs.size + 1) (.lst ((bs.mergeSort dLe).map (·.1))), I.laid (t' := s.toks) (fun _ _ z => sortedAll_old z) (Nat.le_succ _) ⟨?_, out, n, vals_each eo, ?_⟩, rfl, q _ (I.hok.fresh (Nat.le_succ _))⟩
  · rw [List.length_map, List.length_mergeSort]
    exact hz2
  · simpa using hn
end
theorem sl_listK {X : Cx} {K : PySem.W.Frag} (h : X.K = K := by rfl) : SlR X (rSlL K) := h ▸ sl_list
def rDictP (K : PySem.W.Frag) : List V → Hp → VK → Prop := fun xs H Q => ∃ (a : Addr) (ps : List Addr) (kvs : List (Key × V)), xs = [.ref a] ∧ SqL K H a (ps.map V.ref) ∧ Paired (fun p kv => SqT K H p [kV kv.1, kv.2]) ps kvs ∧ ∀ p, H p = none → Q (.ref p) (upd H p (.dK (mergeK [] kvs)))
theorem call_dictPK {X : Cx} {K : PySem.W.Frag} (hc : X.calm = true) (h : X.K = K := by rfl) : CallR X (.type "dict") (rDictP K) := by
  subst h
  exact call_dictP hc
/-! the order -/
theorem dLe_ord : TotalLe dLe := sortLe_total _ false _
theorem dLe_trans (a b c : V × PyData) (h1 : dLe a b = true) (h2 : dLe b c = true) : dLe a c = true := dLe_ord.trans a b c h1 h2
theorem dLe_total (a b : V × PyData) : (dLe a b || dLe b a) = true := (Bool.or_eq_true _ _).mpr (dLe_ord.total a b)
theorem dsort_perm (bs : List (V × PyData)) : (bs.mergeSort dLe).Perm bs := List.mergeSort_perm bs dLe
theorem dsort_asc (bs : List (V × PyData)) : (bs.mergeSort dLe).Pairwise fun a b => dLe a b = true := List.pairwise_mergeSort dLe_trans dLe_total bs
theorem dsort_id {bs : List (V × PyData)} (h : bs.Pairwise fun a b => dLe a b = true) : bs.mergeSort dLe = bs := List.mergeSort_of_pairwise h
theorem dLe_lt (a b : V × PyData) : dLe a b = !dataLt b.2 a.2 := rfl
theorem dLe_ints {u v : V} {xs ys : List Int} : dLe (u, .tuple (xs.map .int)) (v, .tuple (ys.map .int)) = !decide (ys < xs) := by
  rw [dLe_lt]
  show (!dataLt (.tuple (ys.map .int)) (.tuple (xs.map .int))) = _
  rw [dataLt_tuple]
  exact congrArg (!·) (dataLt_ints ys xs)
end Ef
namespace Ef
open PySem PySem.Spec PyProof.Rows L2
/-! ### a comprehension within a comprehension -/
theorem lookup_map (c : Str → NameKind → Bool) (x : Str) : ∀ names : List (Str × NameKind), (names.lookup x = some .cell ∨ names.lookup x = some .free) → ((names.map fun (n, k) => if c n k = true then (n, NameKind.cell) else (n, k)).lookup x = some .cell ∨ (names.map fun (n, k) => if c n k = true then (n, NameKind.cell) else (n, k)).lookup x = some .free)
  | [], h => by simp at h
  | (n, k) :: r, h => by
    rw [List.map_cons]
    by_cases e : x == n
    · rw [List.lookup_cons, e] at h
      by_cases cc : c n k = true
      · simp only [cc, if_true]
        rw [List.lookup_cons, e]
        exact .inl rfl
      · simp only [cc, Bool.false_eq_true, if_false]
        rw [List.lookup_cons, e]
        exact h
    · have e2 : (x == n) = false := by simpa using e
      rw [List.lookup_cons, e2] at h
      have ih := lookup_map c x r h
      by_cases cc : c n k = true
      · simp only [cc, if_true]
        rw [List.lookup_cons, e2]
        exact ih
      · simp only [cc, Bool.false_eq_true, if_false]
        rw [List.lookup_cons, e2]
        exact ih
theorem blkOk_in {N : List Str} {sc scope : Scope} {own : List (Str × Nat)} {env : Env} (h : BlkOk N sc scope own) : BlkOk N (relabel sc env) scope own :=
  ⟨h.kind, h.uniq, h.ix, fun y hy e => lookup_map (fun n k => k == NameKind.free && env.scope.kind == .function && env.kindOf n == some .cell) y.1 sc.names (h.free y hy e), h.own⟩
end Ef
set_option maxHeartbeats 4000000
namespace Ef
open PySem PySem.Spec PyProof.Rows L2
/-! ### set(t) of a tuple of ints with its size, len(s) of a set -/
/-- c is the number of different ones among ns -/
def Diff (ns : List Int) (c : Nat) : Prop := ∃ ks : List Int, ks.Nodup ∧ (∀ k, k ∈ ks ↔ k ∈ ns) ∧ ks.length = c
theorem Diff.nodup {ns : List Int} {c : Nat} (h : Diff ns c) (hn : ns.Nodup) : c = ns.length := by
  obtain ⟨ks, h1, h2, rfl⟩ := h
  exact ((List.perm_ext_iff_of_nodup h1 hn).mpr h2).length_eq
theorem sub_len : ∀ {ks ns : List Int}, ks.Nodup → (∀ k ∈ ks, k ∈ ns) → ks.length ≤ ns.length
  | [], _, _, _ => Nat.zero_le _
  | k :: r, ns, h, hs => by
    have hk := hs k List.mem_cons_self
    have h1 := sub_len (ks := r) (ns := ns.erase k) (List.nodup_cons.mp h).2 fun x hx => (List.mem_erase_of_ne (fun e : x = k => (List.nodup_cons.mp h).1 (e ▸ hx))).mpr (hs x (List.mem_cons_of_mem _ hx))
    have h2 := List.length_erase_of_mem hk
    have h3 := List.length_pos_of_mem hk
    show r.length + 1 ≤ ns.length
    omega
theorem sub_perm : ∀ {ks ns : List Int}, ks.Nodup → (∀ k ∈ ks, k ∈ ns) → ns.length ≤ ks.length → ks.Perm ns
  | [], ns, _, _, h => by
    have : ns = [] := List.length_eq_zero_iff.mp (Nat.le_zero.mp h)
    rw [this]
  | k :: r, ns, h, hs, hl => by
    have hk := hs k List.mem_cons_self
    have h2 := List.length_erase_of_mem hk
    have hl2 : ns.length ≤ r.length + 1 := hl
    have h1 := sub_perm (ks := r) (ns := ns.erase k) (List.nodup_cons.mp h).2 (fun x hx => (List.mem_erase_of_ne (fun e : x = k => (List.nodup_cons.mp h).1 (e ▸ hx))).mpr (hs x (List.mem_cons_of_mem _ hx))) (by omega)
    exact (h1.cons k).trans (List.perm_cons_erase hk).symm
theorem Diff.le {ns : List Int} {c : Nat} (h : Diff ns c) : c ≤ ns.length := by
  obtain ⟨ks, h1, h2, rfl⟩ := h
  exact sub_len h1 fun k hk => (h2 k).mp hk
theorem Diff.not {ns : List Int} {c : Nat} (h : Diff ns c) (hn : ¬ ns.Nodup) : c ≠ ns.length := by
  intro e
  obtain ⟨ks, h1, h2, rfl⟩ := h
  have p : ks.Perm ns := sub_perm h1 (fun k hk => (h2 k).mp hk) (by omega)
  exact hn (p.nodup_iff.mp h1)
section
variable {X : Cx} {K : PySem.W.Frag} {w : World}
theorem setR_diff {h : Heap} {a : Addr} {ns : List Int} {c : Nat} (R : SetR w h a (fun j => decide (j ∈ ns)) c) : Diff ns c := by
  obtain ⟨o, es, ep, t, _, _, _, _, nd, mem, _, _, sz, _⟩ := R
  refine ⟨es.toList.map keyOf, nd, fun k => ?_, ?_⟩
  · rw [← mem k]
    exact decide_eq_true_iff
  · rw [List.length_map, Array.length_toList]
    exact sz
def rSetTn (K : PySem.W.Frag) (w : World) : List V → Hp → VK → Prop := fun xs H Q => ∃ (l : Addr) (ns : List Int), xs = [.ref l] ∧ (SqT K H l (ns.map V.int)) ∧ ns.length ≤ 1000 ∧
    ∀ (p : Addr) (c : Nat), H p = none → Diff ns c → Q (.ref p) (upd H p (SetO w p (fun j => decide (j ∈ ns)) c))
theorem cr_setTn (hc : X.calm = true) (h : X.K = K := by rfl) (hw : X.w = w := by rfl) : CallR X (.type "set") (rSetTn K w) := by
  subst h hw
  intro pins s σ H xs us Q I r h
  obtain ⟨l, ns, rfl, hq, hl, q⟩ := h
  obtain ⟨u, rfl, ru⟩ := vals1 r
  obtain rfl : u = Value.ref l := ru
  obtain ⟨its, rv, pt, hz⟩ := I.tuple hq
  refine call_set_tupI ns (I.ok.hd hc) (show s.heap.IsTuple l its.toArray from pt) (ints_of_vals rv) (by unfold scanBound; omega) fun h' tk c R1 hcn k => ?_
  exact ⟨.ref _, _, I.laid (t' := tk) k (Nat.le_refl _) (setO_new R1), rfl, q _ c (I.hok.fresh (Nat.le_refl _)) (setR_diff R1)⟩
def rLenSet (w : World) : List V → Hp → VK → Prop := fun xs H Q => ∃ (p : Addr) (S : Int → Bool) (c : Nat), xs = [.ref p] ∧ H p = some (SetO w p S c) ∧ Q (.int (c : Int)) H
theorem call_lenSet (hw : X.w = w := by rfl) : CallR X (.builtin "len") (rLenSet w) := by
  subst hw
  intro pins s σ H xs us Q I r h
  obtain ⟨p, S, c, rfl, hp, q⟩ := h
  obtain ⟨u, rfl, ru⟩ := vals1 r
  obtain rfl : u = Value.ref p := ru
  obtain ⟨o, es, ep, t, ho, hex, hd, _, _, _, sb, hf, hn, _⟩ := setO_get I hp
  have b : (es.size : Int) < 2 ^ 63 := by
    have : scanBound ≤ 2 ^ 62 := by unfold scanBound; decide
    omega
  exact call_len_set ho hex hd hf b ⟨.int c, H, I.tok _, ⟨_, by rw [hn]⟩, q⟩
end
end Ef
set_option maxHeartbeats 4000000
namespace Ef
open PySem PySem.Spec PyProof.Rows L2
/-! ### a list or a tuple walked through; len(set(xs)) of a list -/
def iEither (K : PySem.W.Frag) (tl : TE) : TI := fun σ H R => iList K tl σ H R ∨ iTup K tl σ H R
theorem pi_either {X : Cx} (K : PySem.W.Frag) {tg l : Expr} {tl : TE} (hl : PE X l tl) (h : X.K = K := by rfl) : PI X tg l (iEither K tl) := by
  subst h
  exact ⟨fun pins s σ H R I h => h.elim ((pi_list hl).run pins s σ H R I) ((pi_tup hl).run pins s σ H R I)⟩
theorem for_either {K : PySem.W.Frag} {a : Addr} {xs : List V} {g : TG} {tb : TS} {D : Ends} {σ : L2.St} {H : Hp} {i : Nat} (hv : σ[i]? = some (some (.ref a))) (hA : SqL K H a xs ∨ SqT K H a xs) (Pv : Nat → L2.St → Hp → Prop) (h0 : Pv 0 σ H) (hl : ∀ i σ H', Pv i σ H' → Same H H')
    (hs : ∀ i x σ H, xs[i]? = some x → Pv i σ H → g x σ H fun σ2 H2 => tb { D with nx := Pv (i + 1), ct := Pv (i + 1), bk := D.nx } σ2 H2) (hd : ∀ σ H, Pv xs.length σ H → D.nx σ H) : tFor (iEither K (tVar i)) g tb D σ H := by
  rcases hA with hA | hA
  · exact .inl ⟨.ref a, hv, a, rfl, ⟨_, hA⟩, for_list Pv h0 (fun i σ H' _ p => (hl i σ H' p).seq hA) hs hd⟩
  · exact .inr ⟨.ref a, hv, a, rfl, ⟨_, hA⟩, for_tup Pv h0 (fun i σ H' _ p => Same.seqT (hl i σ H' p) hA) hs hd⟩
/-- a method of a list, in a comprehension -/
theorem pe_bmK {X : Cx} (K : PySem.W.Frag) {T : String} {name : Str} {id : String} {r : V → List V → Hp → VK → Prop} {o e : Expr} {es : List Expr} {to : TE} {t : TA} {apos cpos : Pos} (pa : PlainAttrs T) (slot : Slot T name id) (hty : typeOf (.builtin id) = pure (.type "method_descriptor")) (hm : MtR X id r) (ho : PE X o to) (ha : PA X (e :: es) t) (h : X.K = K := by rfl)
    (hbase : attributeBase o name X.env (eval o X.env) = eval o X.env := by rfl)
    (hfew : ((backTo cpos (starEach (e :: es) X.env)).all (fun x => !x.1) && (backToKw cpos (keywordEach [] X.env)).all (fun x => x.1.isSome)
      && decide ((e :: es).length + ([] : List Keyword).length + (if ([] : List Keyword).isEmpty then 0 else 1) < 30)) = true := by rfl)
    (hline : (apos.endLine == cpos.line) = true := by rfl) (hs : starEach (e :: es) X.env = (false, eval e X.env) :: starEach es X.env := by rfl) (hplain : (backTo cpos (starEach es X.env)).any (·.1) = false := by rfl) : PE X (.Call (.Attribute o name apos) (e :: es) [] cpos) (tBM K T r to t) := h ▸ pe_bm pa slot hty hm ho ha hbase hfew hline hs hplain
theorem lc_either {K : PySem.W.Frag} {a : Addr} {xs : List V} {g : TG} {tt : TT} {te : TE} {vs : List Nat} {σ : L2.St} {H : Hp} {Q : VK} {i : Nat} (hv : σ[i]? = some (some (.ref a))) (hA : SqL K H a xs ∨ SqT K H a xs) (Pv : Addr → Nat → Hp → Prop) (h0 : ∀ D, H D = none → Pv D 0 (upd H D (.lst []))) (hl : ∀ D k H', Pv D k H' → Same H H')
    (hs : ∀ D, H D = none → ∀ k x H', xs[k]? = some x → Pv D k H' → g x (wipe σ vs) H' fun σ2 H2 => wipe σ2 vs = wipe σ vs ∧ tt σ2 H2 fun b H3 => if b = true then te σ2 H3 fun y H4 => ∃ acc, H4 D = some (.lst acc) ∧ acc.length < sizeLine ∧ Pv D (k + 1) (upd H4 D (.lst (acc ++ [y]))) else Pv D (k + 1) H3)
    (hd : ∀ D, H D = none → ∀ H', Pv D xs.length H' → Q (.ref D) H') : tLc (iEither K (tVar i)) g tt te vs σ H Q := by
  rcases hA with hA | hA
  · exact .inl ⟨.ref a, hv, a, rfl, ⟨_, hA⟩, fun D nD => lc_list (Pv D) (h0 D nD) (fun k H' _ p => (hl D k H' p).seq hA) (hs D nD) (hd D nD)⟩
  · exact .inr ⟨.ref a, hv, a, rfl, ⟨_, hA⟩, fun D nD => lc_tup (Pv D) (h0 D nD) (fun k H' _ p => Same.seqT (hl D k H' p) hA) (hs D nD) (hd D nD)⟩
/-- a dict comprehension over anything that is walked -/
theorem dc_walk {J : It} {n : Nat} {G : Hp → Prop} {Y : Nat → Hp → V → Hp → Prop} (wk : Walk J n G Y) {g : TG} {tt : TT} {tk tv : TE} {vs : List Nat} {σ : L2.St} {H1 : Hp} {D : Addr} {Qd : Hp → Prop} (Pv : Nat → Hp → Prop) (h0 : Pv 0 (upd H1 D (.dK []))) (hG : ∀ k H, k ≤ n → Pv k H → G H)
    (hs : ∀ k x H H', k < n → Pv k H → Y k H x H' → g x (wipe σ vs) H' fun σ2 H2 => wipe σ2 vs = wipe σ vs ∧ tt σ2 H2 fun b H3 =>
      if b = true then tk σ2 H3 fun y H4 => tv σ2 H4 fun z H5 => ∃ kvs k', y = kV k' ∧ H5 D = some (.dK kvs) ∧ kvs.length < sizeLine ∧ Pv (k + 1) (upd H5 D (.dK (putK kvs k' z))) else Pv (k + 1) H3) (hd : ∀ H, Pv n H → Qd H) :
    ∃ W : Nat → Nat → Hp → Prop, (∃ m, W 0 m (upd H1 D (.dK []))) ∧ ∀ k m H, W k m H →
      (J.stop k H ∧ Qd H) ∨ (J.go k H ∧ ∃ Nx : Hp → Prop, (∀ H', Nx H' → ∃ m', m' < m ∧ W (k + 1) m' H') ∧ ∀ x H', J.yld k H x H' → g x (wipe σ vs) H' fun σ2 H2 => wipe σ2 vs = wipe σ vs ∧ tt σ2 H2 fun b H3 =>
        if b = true then tk σ2 H3 fun y H4 => tv σ2 H4 fun z H5 => ∃ kvs k', y = kV k' ∧ H5 D = some (.dK kvs) ∧ kvs.length < sizeLine ∧ Nx (upd H5 D (.dK (putK kvs k' z))) else Nx H3) := by
  refine ⟨fun k m H => (m = n - k ∧ k ≤ n) ∧ Pv k H, ⟨n, ⟨by omega, Nat.zero_le _⟩, h0⟩, fun k m H hw => ?_⟩
  obtain ⟨⟨hm, hk⟩, hp⟩ := hw
  have hg := hG k H hk hp
  rcases Nat.lt_or_eq_of_le hk with hlt | heq
  · exact .inr ⟨wk.goes k H hlt hg, Pv (k + 1), fun H' hp' => ⟨n - (k + 1), by omega, ⟨rfl, hlt⟩, hp'⟩, fun x H' hy => hs k x H H' hlt hp (wk.yields k H x H' hlt hg hy)⟩
  · subst heq
    exact .inl ⟨wk.stops H hg, hd H hp⟩
theorem dc_either {K : PySem.W.Frag} {a : Addr} {xs : List V} {g : TG} {tt : TT} {tk tv : TE} {vs : List Nat} {σ : L2.St} {H : Hp} {Q : VK} {i : Nat} (hv : σ[i]? = some (some (.ref a))) (hA : SqL K H a xs ∨ SqT K H a xs) (Pv : Addr → Nat → Hp → Prop) (h0 : ∀ D, H D = none → Pv D 0 (upd H D (.dK []))) (hl : ∀ D k H', Pv D k H' → Same H H')
    (hs : ∀ D, H D = none → ∀ k x H', xs[k]? = some x → Pv D k H' → g x (wipe σ vs) H' fun σ2 H2 => wipe σ2 vs = wipe σ vs ∧ tt σ2 H2 fun b H3 => if b = true then tk σ2 H3 fun y H4 => tv σ2 H4 fun z H5 => ∃ kvs k', y = kV k' ∧ H5 D = some (.dK kvs) ∧ kvs.length < sizeLine ∧ Pv D (k + 1) (upd H5 D (.dK (putK kvs k' z))) else Pv D (k + 1) H3)
    (hd : ∀ D, H D = none → ∀ H', Pv D xs.length H' → Q (.ref D) H') : tDc (iEither K (tVar i)) g tt tk tv vs σ H Q := by
  rcases hA with hA | hA
  · exact .inl ⟨.ref a, hv, a, rfl, ⟨_, hA⟩, fun D nD => dc_walk walk_list (Pv D) (h0 D nD) (fun k H' _ p => (hl D k H' p).seq hA) (fun k x H2 H' hk hp hy => by obtain ⟨e1, e2⟩ := hy; rw [e1]; exact hs D nD k x H2 e2 hp) (hd D nD)⟩
  · exact .inr ⟨.ref a, hv, a, rfl, ⟨_, hA⟩, fun D nD => dc_tup (Pv D) (h0 D nD) (fun k H' _ p => Same.seqT (hl D k H' p) hA) (hs D nD) (hd D nD)⟩
/-- an item of a list or of a tuple -/
theorem ix_either {X : Cx} (K : PySem.W.Frag) (h : X.K = K := by rfl) : IxR X (fun x y H Q => rIxL K x y H Q ∨ rIxT K x y H Q) := by
  intro value slice pins s σ H x y v u Q I rx ry hq
  rcases hq with hq | hq
  · exact ix_listK K h value slice pins s σ H x y v u Q I rx ry hq
  · exact ix_tupK K h value slice pins s σ H x y v u Q I rx ry hq
def rSetLn (K : PySem.W.Frag) (w : World) : List V → Hp → VK → Prop := fun xs H Q => ∃ (l : Addr) (ns : List Int), xs = [.ref l] ∧ SqL K H l (ns.map V.int) ∧ ns.length ≤ 1000 ∧
    ∀ (p : Addr) (c : Nat), H p = none → Diff ns c → Q (.ref p) (upd H p (SetO w p (fun j => decide (j ∈ ns)) c))
theorem cr_setLn {X : Cx} (K : PySem.W.Frag) (w : World) (hc : X.calm = true) (h : X.K = K := by rfl) (hw : X.w = w := by rfl) : CallR X (.type "set") (rSetLn K w) := by
  subst h hw
  intro pins s σ H xs us Q I r h
  obtain ⟨l, ns, rfl, hq, hl, q⟩ := h
  obtain ⟨u, rfl, ru⟩ := vals1 r
  obtain rfl : u = Value.ref l := ru
  obtain ⟨its, rv, pt, hz⟩ := I.list hq
  refine call_setL ns (I.ok.hd hc) (show s.heap.IsList l its.toArray from pt.isList) (ints_of_vals rv) (by unfold scanBound; omega) fun h' tk c R1 hcn k => ?_
  exact ⟨.ref _, _, I.laid (t' := tk) k (Nat.le_refl _) (setO_new R1), rfl, q _ c (I.hok.fresh (Nat.le_refl _)) (setR_diff R1)⟩
/-- at most one different number -/
theorem Diff.one {ns : List Int} {c : Nat} (h : Diff ns c) : c ≤ 1 ↔ ∀ a ∈ ns, ∀ b ∈ ns, a = b := by
  obtain ⟨ks, h1, h2, rfl⟩ := h
  constructor
  · intro hc a ha b hb
    have ha2 := (h2 a).mpr ha
    have hb2 := (h2 b).mpr hb
    match ks, hc, ha2, hb2 with
    | [], _, ha2, _ => cases ha2
    | [x], _, ha2, hb2 => exact (List.mem_singleton.mp ha2).trans (List.mem_singleton.mp hb2).symm
  · intro h
    match ks, h1, h2 with
    | [], _, _ => exact Nat.zero_le _
    | [x], _, _ => exact Nat.le_refl _
    | x :: y :: r, h1, h2 =>
      exfalso
      obtain ⟨g1, _⟩ := List.nodup_cons.mp h1
      have := h x ((h2 x).mp List.mem_cons_self) y ((h2 y).mp (List.mem_cons_of_mem _ List.mem_cons_self))
      exact g1 (this ▸ List.mem_cons_self)
end Ef
namespace Ef
/-! ### the lists ascend -/
abbrev intL (ms : List Nat) : List Int := ms.map fun (m : Nat) => (m : Int)
theorem lt_cons {a b : Int} {l m : List Int} : a :: l < b :: m ↔ a < b ∨ a = b ∧ l < m := List.cons_lt_cons_iff
/-- m is not before l -/
def LexLe (l m : List Nat) : Prop := ¬ intL m < intL l
theorem LexLe.cons_lt {a b : Nat} {l m : List Nat} (h : a < b) : LexLe (a :: l) (b :: m) := fun z => by
  have z2 : ((b : Int) :: intL m) < ((a : Int) :: intL l) := z
  rcases lt_cons.mp z2 with z | ⟨z, _⟩ <;> omega
theorem LexLe.cons_eq {a : Nat} {l m : List Nat} (h : LexLe l m) : LexLe (a :: l) (a :: m) := fun z => by
  have z2 : ((a : Int) :: intL m) < ((a : Int) :: intL l) := z
  rcases lt_cons.mp z2 with z | ⟨_, z⟩
  · omega
  · exact h z
theorem asc_lt {L : List Nat} (a : Asc L) {i j x y : Nat} (hi : L[i]? = some x) (hj : L[j]? = some y) (h : i < j) : x < y := by
  obtain ⟨a1, a2⟩ := List.getElem?_eq_some_iff.mp hi
  obtain ⟨b1, b2⟩ := List.getElem?_eq_some_iff.mp hj
  rw [← a2, ← b2]
  exact List.pairwise_iff_getElem.mp a i j a1 b1 h
theorem fol_asc {n c : Nat} : ∀ {ss L : List Nat} {r r' : Nat}, FolOk n c ss L r → FolOk n c ss L r' → Asc L → r ≤ r' → LexLe (fol n c ss L r).1 (fol n c ss L r').1
  | [], _, _, _, _, _, _, _ => fun z => by cases z
  | s :: ss, L, r, r', ⟨w0, h1, g1, o1⟩, ⟨_, h2, g2, o2⟩, a, h => by
    rw [fol_cons, fol_cons]
    have hd : r / wd n c s ≤ r' / wd n c s := Nat.div_le_div_right h
    by_cases e : r / wd n c s = r' / wd n c s
    · have m1 := Nat.div_add_mod r (wd n c s)
      have m2 := Nat.div_add_mod r' (wd n c s)
      rw [← e] at o2 m2 ⊢
      have hm : r % wd n c s ≤ r' % wd n c s := by omega
      exact LexLe.cons_eq (fol_asc o1 o2 (asc_erase a _) (by omega))
    · exact LexLe.cons_lt (asc_lt a (getD_of h1) (getD_of h2) (by omega))
theorem path_asc {n d c k k' : Nat} (h : Std n d c) (hk : k ≤ k') (hk' : k' < c) : LexLe (path n d c k).1 (path n d c k').1 :=
  fol_asc (path_ok h (by omega)) (path_ok h hk') (asc_range' n 0) hk
end Ef
set_option maxHeartbeats 4000000
namespace Ef
open PySem PySem.Spec PyProof.Rows L2 PySem.SeqAt
/-! ### != of tuples that hold the same things (by identity, where they are objects) -/
inductive SimV : V → Prop
  | non : SimV .non
  | bl (b : Bool) : SimV (.bl b)
  | int (i : Int) : SimV (.int i)
  | str (x : Str) : SimV (.str x)
  | ref (a : Addr) : SimV (.ref a)
theorem simV_eq {A : Around} {s : Shared} {v : V} {u1 u2 : Value} (h : SimV v) (r1 : RelV v u1) (r2 : RelV v u2) : EqAt A s u1 u2 true := by
  cases h with
  | non =>
    obtain rfl : u1 = Value.none := r1
    obtain rfl : u2 = Value.none := r2
    exact EqAt.same _
  | bl b =>
    obtain rfl : u1 = Value.bool b := r1
    obtain rfl : u2 = Value.bool b := r2
    exact EqAt.same _
  | int i =>
    obtain ⟨t, rfl⟩ := (show ∃ t, u1 = Value.int i t from r1)
    obtain ⟨t2, rfl⟩ := (show ∃ t, u2 = Value.int i t from r2)
    have := EqAt.int_int (A := A) (s := s) i t i t2
    rw [beq_self_eq_true] at this
    exact this
  | str x =>
    obtain ⟨t, rfl⟩ := (show ∃ t, u1 = Value.str x t from r1)
    obtain ⟨t2, rfl⟩ := (show ∃ t, u2 = Value.str x t from r2)
    have := EqAt.str_str (A := A) (s := s) x t x t2
    rw [beq_self_eq_true] at this
    exact this
  | ref a =>
    obtain rfl : u1 = Value.ref a := r1
    obtain rfl : u2 = Value.ref a := r2
    exact EqAt.same _
theorem simV_at {A : Around} {s : Shared} : ∀ {xs : List V} {us ws : List Value}, (∀ v ∈ xs, SimV v) → Vals xs us → Vals xs ws → us.length = ws.length ∧ ∀ j (h1 : j < us.length) (h2 : j < ws.length), EqAt A s us[j] ws[j] true
  | [], _, _, _, r1, r2 => by
    cases r1
    cases r2
    exact ⟨rfl, fun j h => absurd h (Nat.not_lt_zero _)⟩
  | v :: xs, _, _, h, r1, r2 => by
    cases r1 with
    | cons a1 t1 =>
      cases r2 with
      | cons a2 t2 =>
        obtain ⟨e, ih⟩ := simV_at (A := A) (s := s) (fun y hy => h y (List.mem_cons_of_mem _ hy)) t1 t2
        refine ⟨by rw [List.length_cons, List.length_cons, e], fun j h1 h2 => ?_⟩
        cases j with
        | zero => exact simV_eq (h v List.mem_cons_self) a1 a2
        | succ j => exact ih j (by simpa using h1) (by simpa using h2)
def rNeI (K : PySem.W.Frag) : R2 := fun x y H Q => ∃ (a b : Addr) (xs : List V), x = .ref a ∧ y = .ref b ∧ SqT K H a xs ∧ SqT K H b xs ∧ (∀ v ∈ xs, SimV v) ∧ Q (.bl false) H
theorem op_neI {X : Cx} (K : PySem.W.Frag) (hu : X.A.units < cLine) (hk : X.K = K := by rfl) : OpR X (compareOp .NotEq) (rNeI K) := by
  subst hk
  intro pins s σ H x y v u Q I rx ry h
  obtain ⟨a, b, xs, rfl, rfl, ha, hb, hs, q⟩ := h
  obtain rfl : v = Value.ref a := rx
  obtain rfl : u = Value.ref b := ry
  obtain ⟨i1, r1, t1, _⟩ := I.tuple ha
  obtain ⟨i2, r2, t2, _⟩ := I.tuple hb
  obtain ⟨e, he⟩ := simV_at (A := X.A.in1) (s := s) hs r1 r2
  refine RcNeAt.tuples (e := fun _ => true) t1 t2 hu (fun j h1 h2 => he j (by simpa using h1) (by simpa using h2)) _ _ _ _ ?_
  have ev : (!((List.range (min i1.toArray.size i2.toArray.size)).all (fun _ => true) && i1.toArray.size == i2.toArray.size)) = false := by
    rw [List.size_toArray, List.size_toArray, e]
    simp
  rw [ev]
  exact ⟨.bl false, H, I, rfl, q⟩
end Ef
set_option maxHeartbeats 4000000
namespace Ef
open PySem PySem.Spec PyProof.Rows L2
/-! ### max(xs, default=d) of a list of ints, one at least -/
theorem foldl_max : ∀ (ns : List Int) (n : Int), (ns.foldl max n = n ∨ ns.foldl max n ∈ ns) ∧ n ≤ ns.foldl max n ∧ ∀ y ∈ ns, y ≤ ns.foldl max n
  | [], n => ⟨.inl rfl, Int.le_refl _, fun _ h => absurd h List.not_mem_nil⟩
  | k :: r, n => by
    obtain ⟨h1, h2, h3⟩ := foldl_max r (max n k)
    rw [List.foldl_cons]
    have e1 : n ≤ max n k := Int.le_max_left n k
    have e2 : k ≤ max n k := Int.le_max_right n k
    refine ⟨?_, Int.le_trans e1 h2, fun y hy => ?_⟩
    · rcases h1 with h1 | h1
      · by_cases c : n ≤ k
        · rw [h1, Int.max_eq_right c]
          exact .inr List.mem_cons_self
        · rw [h1, Int.max_eq_left (by omega)]
          exact .inl rfl
      · exact .inr (List.mem_cons_of_mem _ h1)
    · rcases List.mem_cons.mp hy with rfl | hy
      · exact Int.le_trans e2 h2
      · exact h3 y hy
theorem reads_ints {h : Heap} : ∀ {ns : List Int} {us : List Value}, Vals (ns.map V.int) us → ReadsAll h us (ns.map PyData.int) []
  | [], _, r => by
    cases r
    exact .nil
  | n :: ns, _, r => by
    rw [List.map_cons] at r
    cases r with
    | cons r1 r2 =>
      obtain ⟨t, rfl⟩ := r1
      exact .cons (.int n t) (reads_ints r2)
def rMaxDf (K : PySem.W.Frag) : List V → List V → Hp → VK → Prop := fun vs zs H Q => ∃ (a : Addr) (ns : List Int) (d : V), vs = [V.ref a] ∧ zs = [d] ∧ SqL K H a (ns.map V.int) ∧ 0 < ns.length ∧ ∀ m, m ∈ ns → (∀ y, y ∈ ns → y ≤ m) → Q (.int m) H
section
variable {X : Cx}
theorem cr_maxDf (K : PySem.W.Frag) (hc : X.calm = true) (hu : X.A.units + 64 < cLine) (hk : X.K = K := by rfl) : CallRK X (.builtin "max") ["default"] (rMaxDf K) := by
  subst hk
  intro pins s σ H vs zs us ws Q I r rz h
  obtain ⟨a, ns, d, rfl, rfl, hs, hne, q⟩ := h
  obtain ⟨u, rfl, ru⟩ := vals1 r
  obtain rfl : u = Value.ref a := ru
  obtain ⟨z, rfl, rz1⟩ := vals1 rz
  obtain ⟨its, rv, hl, _⟩ := I.list hs
  have hz : PyData.depthAll (ns.map PyData.int) = 0 := PySem.W.depth_ints ns
  show wpAny _ _ (call (.builtin "max") [.ref a] [(Str.ofString "default", z)]) _ _ s
  refine PySem.W.max_list_default (I.ok.hd hc) hl.isList (by simpa using reads_ints rv) ⟨fun x hx y hy => ?_, fun x hx => ?_⟩ (by rw [hz]; omega) (fun e => ?_) fun y ys i v h' tk bs e hv hr hk' => ?_
  · obtain ⟨i, _, rfl⟩ := List.mem_map.mp hx
    obtain ⟨j, _, rfl⟩ := List.mem_map.mp hy
    rfl
  · obtain ⟨i, _, rfl⟩ := List.mem_map.mp hx
    intro z
    cases z
  · rw [List.map_eq_nil_iff.mp e] at hne
    exact absurd hne (by decide)
  · cases ns with
    | nil => exact absurd hne (by decide)
    | cons n ns =>
      rw [List.map_cons] at e
      injection e with e1 e2
      subst e1 e2
      rw [PySem.W.maxD_ints] at hr
      cases hr
      obtain ⟨m1, m2, m3⟩ := foldl_max ns n
      refine ⟨.int (ns.foldl max n), H, I.kept (t' := tk) hk', ⟨_, rfl⟩, q _ ?_ fun y hy => ?_⟩
      · rcases m1 with m1 | m1
        · rw [m1]
          exact List.mem_cons_self
        · exact List.mem_cons_of_mem _ m1
      · rcases List.mem_cons.mp hy with rfl | hy
        · exact m2
        · exact m3 y hy
end
end Ef
namespace Ef
/-! ### levels that are equal, and what follows for the live servers -/
def edgE (s : Nat) (r : List Nat) : List Nat × Nat := (srt (r.take s), r.getD s 0)
def cE (es : List (List Nat × Nat)) (e : List Nat × Nat) : Nat := es.countP fun a => decide (a = e)
theorem cE_app (a b : List (List Nat × Nat)) (e : List Nat × Nat) : cE (a ++ b) e = cE a e + cE b e := List.countP_append
theorem cE_perm {a b : List (List Nat × Nat)} (h : a.Perm b) (e : List Nat × Nat) : cE a e = cE b e := h.countP_eq _
theorem cE_map {α : Type} (f : α → List Nat × Nat) (e : List Nat × Nat) (l : List α) : cE (l.map f) e = l.countP fun a => decide (f a = e) := by
  unfold cE
  rw [List.countP_map]
  rfl
/-- all level numbers of the level are w -/
def Lev (n s w : Nat) (rows : List (List Nat)) : Prop := ∀ e ∈ allE n s, cE (rows.map (edgE s)) e = w
/-- rows of a table -/
def Tab (n d : Nat) (rows : List (List Nat)) : Prop := ∀ r ∈ rows, r.length = d ∧ r.Nodup ∧ ∀ x ∈ r, x < n
theorem srt_eq {a b : List Nat} (h : a.Perm b) : srt a = srt b := srt_of ((srt_perm a).trans h) (srt_le a)
theorem srt_self {a : List Nat} (h : Asc a) : srt a = a := (srt_of (List.Perm.refl a) (h.imp fun z => Nat.le_of_lt z)).symm
theorem perm_of_srt {a b : List Nat} (h : srt a = srt b) : a.Perm b := (srt_perm a).symm.trans (h ▸ srt_perm b)
theorem edgE_mem {n d s : Nat} {rows : List (List Nat)} (G : Tab n d rows) (hs : s < d) : ∀ e ∈ rows.map (edgE s), e ∈ allE n s := fun e he => by
  obtain ⟨r, hr, rfl⟩ := List.mem_map.mp he
  obtain ⟨h1, h2, h3⟩ := G r hr
  have pm := srt_perm (r.take s)
  have hlt : s < r.length := by omega
  have hx : r.getD s 0 = r[s] := by
    rw [List.getD_eq_getElem?_getD, List.getElem?_eq_getElem hlt]
    rfl
  have nd : (r.take s).Nodup := h2.sublist (List.take_sublist _ _)
  refine allE_mem ?_ ?_ (srt_asc nd) fun y hy => ?_
  · rw [hx]
    exact h3 _ (List.getElem_mem _)
  · rw [pm.length_eq, List.length_take]
    omega
  · have hy2 := pm.mem_iff.mp hy
    refine ⟨h3 y (List.mem_of_mem_take hy2), fun e => ?_⟩
    obtain ⟨i, hi⟩ := List.getElem?_of_mem hy2
    rw [List.getElem?_take] at hi
    split at hi
    · rename_i hlt2
      have h4 : r[s]? = some y := by
        rw [List.getElem?_eq_getElem hlt, e, hx]
      have := (List.getElem?_inj (show i < r.length by omega) h2).mp (hi.trans h4.symm)
      omega
    · cases hi
theorem allE_nodup (n s : Nat) : (allE n s).Nodup := by
  unfold allE
  have key : ∀ l : List Nat, l.Nodup → (l.flatMap fun x => (combs (without n x) s).map fun c => (c, x)).Nodup := by
    intro l
    induction l with
    | nil => intro _; exact List.nodup_nil
    | cons x l ih =>
      intro h
      obtain ⟨h1, h2⟩ := List.nodup_cons.mp h
      rw [List.flatMap_cons]
      refine List.nodup_append.mpr ⟨List.Pairwise.map _ (fun a b hab z => hab (congrArg Prod.fst z)) (combsNodup _ _ (asc_nodup (without_asc n x))), ih h2, fun a ha b hb e => ?_⟩
      obtain ⟨c, _, rfl⟩ := List.mem_map.mp ha
      obtain ⟨y, hy, hb⟩ := List.mem_flatMap.mp hb
      obtain ⟨c', _, rfl⟩ := List.mem_map.mp hb
      have : x = y := congrArg Prod.snd e
      exact h1 (this ▸ hy)
  exact key _ List.nodup_range
theorem sum_one' {α : Type} [DecidableEq α] {c : α} : ∀ {cs : List α}, cs.Nodup → c ∈ cs → (cs.map fun d => if c = d then 1 else 0).sum = 1
  | [], _, h => absurd h List.not_mem_nil
  | d :: cs, hn, h => by
    obtain ⟨h1, h2⟩ := List.nodup_cons.mp hn
    rw [List.map_cons, List.sum_cons]
    by_cases e : c = d
    · subst e
      have z : ∀ (l : List α), c ∉ l → (l.map fun d => if c = d then 1 else 0).sum = 0 := by
        intro l
        induction l with
        | nil => intro _; rfl
        | cons a l ih =>
          intro hh
          rw [List.map_cons, List.sum_cons, if_neg (fun z : c = a => hh (by rw [z]; exact List.mem_cons_self)), ih fun z => hh (List.mem_cons_of_mem _ z)]
      rw [if_pos rfl, z cs h1]
    · rw [if_neg e, sum_one' h2 ((List.mem_cons.mp h).resolve_left e)]
theorem sum_add' {α : Type} (f g : α → Nat) : ∀ l : List α, (l.map fun x => f x + g x).sum = (l.map f).sum + (l.map g).sum
  | [] => rfl
  | a :: l => by
    rw [List.map_cons, List.sum_cons, List.map_cons, List.sum_cons, List.map_cons, List.sum_cons, sum_add' f g l]
    omega
theorem sum_zero' {α : Type} {f : α → Nat} : ∀ {l : List α}, (∀ a ∈ l, f a = 0) → (l.map f).sum = 0
  | [], _ => rfl
  | a :: l, h => by rw [List.map_cons, List.sum_cons, h a List.mem_cons_self, sum_zero' fun b hb => h b (List.mem_cons_of_mem _ hb)]
theorem sum_congr' {α : Type} {f g : α → Nat} {l : List α} (h : ∀ a ∈ l, f a = g a) : (l.map f).sum = (l.map g).sum := by rw [List.map_congr_left h]
theorem sum_cE {cs : List (List Nat × Nat)} (hn : cs.Nodup) : ∀ {ks : List (List Nat × Nat)}, (∀ k ∈ ks, k ∈ cs) → (cs.map fun c => cE ks c).sum = ks.length
  | [], _ => sum_zero' fun _ _ => rfl
  | k :: ks, h => by
    have e : (fun c => cE (k :: ks) c) = fun c => cE ks c + if k = c then 1 else 0 := by
      funext c
      unfold cE
      rw [List.countP_cons]
      congr 1
      by_cases z : k = c
      · rw [if_pos z, if_pos (decide_eq_true z)]
      · rw [if_neg z, if_neg (fun y => z (of_decide_eq_true y))]
    rw [e, sum_add', sum_cE hn fun x hx => h x (List.mem_cons_of_mem _ hx), sum_one' hn (h k List.mem_cons_self)]
    rfl
theorem all_tight {α : Type} {f : α → Nat} {w : Nat} : ∀ {l : List α}, (∀ a ∈ l, w ≤ f a) → (l.map f).sum = l.length * w → ∀ a ∈ l, f a = w
  | [], _, _, a, ha => absurd ha List.not_mem_nil
  | b :: l, h1, h2, a, ha => by
    have hb := h1 b List.mem_cons_self
    have ge : ∀ l : List α, (∀ a ∈ l, w ≤ f a) → l.length * w ≤ (l.map f).sum := by
      intro l
      induction l with
      | nil => intro _; simp
      | cons c l ih =>
        intro h
        rw [List.map_cons, List.sum_cons, List.length_cons, Nat.succ_mul]
        have := ih fun x hx => h x (List.mem_cons_of_mem _ hx)
        have := h c List.mem_cons_self
        omega
    have hl := ge l fun x hx => h1 x (List.mem_cons_of_mem _ hx)
    rw [List.map_cons, List.sum_cons, List.length_cons, Nat.succ_mul] at h2
    rcases List.mem_cons.mp ha with rfl | ha
    · omega
    · exact all_tight (fun x hx => h1 x (List.mem_cons_of_mem _ hx)) (by omega) a ha
/-- the level's number is what it must be -/
theorem Lev.eq {n d s w : Nat} {rows : List (List Nat)} (G : Tab n d rows) (hs : s < d) (h : Lev n s w rows) : n * C (n - 1) s * w = rows.length := by
  have h1 := sum_cE (allE_nodup n s) (edgE_mem G hs)
  rw [List.length_map, sum_congr' (g := fun _ => w) fun e he => h e he] at h1
  rw [← h1, ← allE_len, List.map_const', List.sum_replicate_nat]
/-! the standard tables -/
theorem path_edge {n c d k s : Nat} (hs : s < d) : edgE s (path n d c k).1 = (srt (path n s c k).1, (folL n c (List.range' 0 s) (List.range' 0 n) k).getD ((path n s c k).2 / wd n c s) 0) := by
  unfold edgE path
  have h1 : d = s + (d - s) := by omega
  have e1 := fol_take n c k s (d - s)
  have e2 := fol_take n c k (s + 1) (d - (s + 1))
  rw [← h1] at e1
  rw [show s + 1 + (d - (s + 1)) = d by omega, range'_end, fol_snoc] at e2
  rw [e1]
  congr 1
  have l := fol_len n c (List.range' 0 s) (List.range' 0 n) k
  rw [List.length_range'] at l
  have e3 : (fol n c (List.range' 0 d) (List.range' 0 n) k).1[s]? = some ((folL n c (List.range' 0 s) (List.range' 0 n) k).getD ((fol n c (List.range' 0 s) (List.range' 0 n) k).2 / wd n c s) 0) := by
    have e4 : ((fol n c (List.range' 0 d) (List.range' 0 n) k).1.take (s + 1))[s]? = (fol n c (List.range' 0 d) (List.range' 0 n) k).1[s]? := by
      rw [List.getElem?_take, if_pos (by omega)]
    rw [← e4, e2]
    show (_ ++ [_])[s]? = _
    rw [List.getElem?_append_right (by omega), l, Nat.sub_self]
    rfl
  rw [List.getD_eq_getElem?_getD, e3]
  rfl
theorem std_lev {n d c : Nat} (st : Std n d c) {s : Nat} (hs : s < d) : Lev n s (wd n c s) ((List.range c).map fun k => (path n d c k).1) := by
  have dv := st.dvd s hs
  have w0 := wd_pos dv st.c0
  have dn := st.dn
  have G : Tab n d ((List.range c).map fun k => (path n d c k).1) := fun r hr => by
    obtain ⟨k, hk, rfl⟩ := List.mem_map.mp hr
    exact ⟨path_len n d c k, path_nodup st (List.mem_range.mp hk), path_lt st (List.mem_range.mp hk)⟩
  refine all_tight (f := fun e => cE (((List.range c).map fun k => (path n d c k).1).map (edgE s)) e) (fun e he => ?_) ?_
  · -- at least so many
    obtain ⟨x, hx, he⟩ := List.mem_flatMap.mp he
    obtain ⟨S, hS, rfl⟩ := List.mem_map.mp he
    obtain ⟨g1, g2⟩ := combs_good _ _ _ hS
    have ascS : Asc S := (without_asc n x).sublist g2
    have memS : ∀ y ∈ S, y < n ∧ y ≠ x := fun y hy => by
      have := List.mem_filter.mp (g2.subset hy)
      exact ⟨List.mem_range.mp this.1, by simpa using this.2⟩
    have hxn := List.mem_range.mp hx
    -- the servers outside
    have hL0 : Compl n S ((List.range' 0 n).filter fun y => !decide (y ∈ S)) := ⟨ascS, (asc_range' n 0).filter _, fun y hy => (memS y hy).1, fun y => by
      rw [List.mem_filter, mem_range0]
      simp⟩
    have hxL : x ∈ (List.range' 0 n).filter fun y => !decide (y ∈ S) := (hL0.mem x).mpr ⟨hxn, fun z => (memS x z).2 rfl⟩
    obtain ⟨i, hi⟩ := List.getElem?_of_mem hxL
    have lenL : ((List.range' 0 n).filter fun y => !decide (y ∈ S)).length = n - s := by
      have p : (S ++ (List.range' 0 n).filter fun y => !decide (y ∈ S)).Perm (List.range' 0 n) := by
        refine (List.perm_ext_iff_of_nodup ?_ (asc_nodup (asc_range' n 0))).mpr fun y => ?_
        · refine List.nodup_append.mpr ⟨asc_nodup ascS, (asc_nodup (asc_range' n 0)).filter _, fun a ha b hb e => ?_⟩
          subst e
          exact ((hL0.mem a).mp hb).2 ha
        · rw [List.mem_append, hL0.mem, mem_range0]
          constructor
          · rintro (h | h)
            · exact (memS y h).1
            · exact h.1
          · intro h
            by_cases c : y ∈ S
            · exact .inl c
            · exact .inr ⟨h, c⟩
      have := p.length_eq
      rw [List.length_append, List.length_range', g1] at this
      omega
    have hi2 : i < n - s := by
      rw [← lenL]
      exact (List.getElem?_eq_some_iff.mp hi).1
    have wo : c / C n s = wd n c s * (n - s) := by
      have e := wd_out dv (show s < n by omega)
      have p := C_pos n s (by omega)
      conv => lhs; rw [← e]
      exact Nat.mul_div_cancel _ p
    rw [List.map_map, cE_map, List.countP_eq_length_filter]
    have hd : ∀ k, k < s → n * C (n - 1) k ∣ c := fun k hk => st.dvd k (by omega)
    have hpl : ∀ r, r < wd n c s → Place n c s S (wd n c s * i + r) := fun r hr => ⟨ascS, fun y hy => (memS y hy).1, g1, by
      rw [wo]
      have : wd n c s * (i + 1) ≤ wd n c s * (n - s) := Nat.mul_le_mul_left _ (by omega)
      rw [Nat.mul_add, Nat.mul_one] at this
      omega⟩
    have hlen : ((List.range (wd n c s)).map fun r => (fol n c (List.range' 0 s).reverse S (wd n c s * i + r)).2).length = wd n c s := by
      rw [List.length_map, List.length_range]
    rw [← hlen]
    refine subG_len ?_ fun k hk => ?_
    · rw [List.nodup_iff_pairwise_ne]
      refine List.pairwise_map.mpr ?_
      refine List.Pairwise.imp_of_mem (R := fun a b => a ≠ b) (fun {a b} ha hb hab e => hab ?_) (List.nodup_iff_pairwise_ne.mp List.nodup_range)
      have h1 := (back_fwd st.c0 s S _ (by omega) hd (hpl a (List.mem_range.mp ha))).2.2.1
      have h2 := (back_fwd st.c0 s S _ (by omega) hd (hpl b (List.mem_range.mp hb))).2.2.1
      rw [e] at h1
      rw [h1] at h2
      omega
    · obtain ⟨r, hr, rfl⟩ := List.mem_map.mp hk
      have hr2 := List.mem_range.mp hr
      obtain ⟨b1, b2, b3, b4⟩ := back_fwd st.c0 s S _ (by omega) hd (hpl r hr2)
      refine List.mem_filter.mpr ⟨List.mem_range.mpr b1, decide_eq_true ?_⟩
      show edgE s (path n d c _).1 = _
      rw [path_edge hs]
      unfold path
      rw [b3]
      have ed : (wd n c s * i + r) / wd n c s = i := by
        rw [Nat.mul_add_div w0, Nat.div_eq_of_lt hr2, Nat.add_zero]
      rw [ed, ← b4.free, List.getD_eq_getElem?_getD, hi]
      congr 1
      exact (srt_eq b2).trans (srt_self ascS)
  · rw [sum_cE (allE_nodup n s) (edgE_mem G hs), List.length_map, List.length_map, List.length_range, allE_len, Nat.mul_comm]
    exact (wd_eq dv).symm
end Ef
set_option maxHeartbeats 4000000
namespace Ef
open PySem PySem.Spec PyProof.Rows L2 PySem.NumText
/-! ### int(text) of more than 640 signs; a text many times over -/
theorem digits_wp {M : Model} {A : Around} {E : Value → Shared → Prop} {s : Shared} {Q : Nat → Shared → Prop} (hn : s.heap.NoDigits) (h : Q 4300 s) : wpAny M A Builtin.intMaxStrDigits Q E s := by
  obtain ⟨mc, hns, hnone⟩ := hn
  unfold Builtin.intMaxStrDigits
  refine wpAny_bind (wpAny_nsGet hns ?_)
  rw [hnone]
  exact wpAny_pure h
theorem wp_textL {M : Model} {A : Around} {E : Value → Shared → Prop} {s : Shared} {Q : Value → Shared → Prop} {v : Value} {text : List Nat} {n : Int}
    (hs : ¬ (text.takeWhile (· != 0)).length ≤ 640) (hn : s.heap.NoDigits) (hr : (int_private% "readNumeral") 4300 10 (text.takeWhile (· != 0)) = (int_private% "Numeral.value") n)
    (ha : ((text.takeWhile (· != 0)).length == text.length) = true) (h : Q (.int n s.toks) { s with toks := s.toks + 1 }) :
    wpAny M A ((int_private% "intFromText") v text 10) Q E s := by
  obtain ⟨hp, g, d, tk, os⟩ := s
  repeat (any_goals (first
    | assumption
    | (with_reducible refine wpAny_ite_false (decide_eq_false hs) ?_)
    | (with_reducible refine digits_wp hn ?_)
    | (with_reducible refine wpAny_ite_true (decide_eq_true ha) ?_)
    | wp_step))
  rw [hr]
  dsimp only
  refine wpAny_ite_true (decide_eq_true ha) ?_
  repeat (any_goals (first
    | assumption
    | wp_step))
structure HidL (p : Prop) : Prop where
  out : p
theorem meets_textL {x : Str} {u : Tok} {n : Int} (hl : x.length ≤ 4300) (hb : ¬ (numSeenOf x).length ≤ 640) (hn : PySem.intText? x = some n) :
    Meets (Builtin.«int.__new__» ⟨[.type "int", .str x u], []⟩) (fun _ R s => s.heap.NoDigits ∧ R (.ok (.ret (.int n s.toks))) { s with toks := s.toks + 1 }) := by
  intro prog w A R s ⟨hd, h⟩
  obtain ⟨hp, g, d, tk, os⟩ := s
  have f1 := F.conv_sub_int
  have f2 := F.madeHere_int
  have f3 := PySem.W.KIN.str_int
  have f4 := PySem.W.KIN.str_idx
  have f5 := PySem.W.KIN.str_trunc
  have f6 : typeOf (.str x u) = pure (.type "str") := rfl
  have hr : (int_private% "readNumeral") 4300 10 (numSeenOf x) = (int_private% "Numeral.value") n ∧ ((numSeenOf x).length == (numTextOf x).length) = true := by
    rcases read4300 x (by rw [sizeLine_eq]; omega) with ⟨m, h1, h2, h3⟩ | ⟨h1, _⟩
    · rw [hn] at h1
      injection h1 with h1
      subst h1
      exact ⟨h3, h2⟩
    · rw [hn] at h1
      cases h1
  have hk := HidL.mk (And.intro hb (And.intro hd hr))
  clear hb hr hl hn hd
  repeat (any_goals (first
    | assumption
    | ((with_reducible show wpAny _ _ ((int_private% "intFromText") _ _ _) _ _ _); refine wp_textL hk.out.1 hk.out.2.1 hk.out.2.2.1 hk.out.2.2.2 ?_)
    | wp_step))
  all_goals first | exact h | skip
  done
theorem ns_none {K : PySem.W.Frag} {h : Heap} {ns : Addr} {mg : Str → Option Value} {n : Str} (X : K.In h) (G : h.Ns ns mg) (e : PySem.W.nsIn K ns n = some none) : mg n = none := by
  obtain ⟨o, es, ep, ho, hd, _, hf⟩ := G
  unfold PySem.W.nsIn at e
  cases q : K.lookup ns with
  | none =>
    rw [q] at e
    cases e
  | some o' =>
    have := X _ _ q
    rw [ho] at this
    obtain rfl := Option.some.inj this
    rw [q] at e
    obtain ⟨oc, od, dat, sl⟩ := o
    dsimp only at hd
    subst hd
    dsimp only at e
    split at e
    · cases e
    · rename_i he
      rw [← hf]
      unfold nsFind findBy
      rw [← Array.find?_toList, he]
      rfl
section
variable {X : Cx}
def rIntL : List V → Hp → VK → Prop := fun xs H Q => ∃ a n, xs = [V.str a] ∧ PySem.intText? a = some n ∧ ¬ (numSeenOf a).length ≤ 640 ∧ a.length ≤ 4300 ∧ Q (.int n) H
theorem cr_intL {K : PySem.W.Frag} (hk : PySem.W.nsIn K cStatics "sys.int_max_str_digits" = some none) (h : X.K = K := by rfl) : CallR X (.type "int") rIntL := by
  subst h
  intro pins s σ H xs us Q I rs h
  obtain ⟨a, n, rfl, hn, hb, hl, q⟩ := h
  cases rs with
  | cons r1 rs =>
    cases rs
    obtain ⟨t, rfl⟩ := r1
    obtain ⟨mc, hns, _⟩ := I.nolimit
    exact call_int_1 (meets_textL hl hb hn) ⟨⟨mc, hns, ns_none I.kIn hns hk⟩, rfl, ⟨.int n, H, I.tok _, ⟨_, rfl⟩, q⟩⟩
/-- a text many times over -/
def rRepS : R2 := fun x y H Q => ∃ (a : Str) (n : Int), x = V.str a ∧ y = V.int n ∧ 2 ≤ n ∧ n ≤ 100000 ∧ 1 ≤ a.length ∧ a.length ≤ 10 ∧ (⟨(List.replicate n.toNat a.cps).foldl (· ++ ·) #[]⟩ : Str).length ≤ sizeLine ∧ Q (.str ⟨(List.replicate n.toNat a.cps).foldl (· ++ ·) #[]⟩) H
theorem op_repS : OpR X (binaryOp .Mult) rRepS := by
  intro pins s σ H x y v u Q I rx ry h
  obtain ⟨a, n, rfl, rfl, h1, h2, h3, h4, h5, q⟩ := h
  obtain ⟨t, rfl⟩ := rx
  obtain ⟨t', rfl⟩ := ry
  have hm : a.length * n.toNat ≤ 10 * 100000 := Nat.mul_le_mul h4 (by omega)
  have c1 : (n == 1 || a.length == 0) = false := by
    rw [Bool.or_eq_false_iff]
    exact ⟨beq_false_of_ne (by omega), beq_false_of_ne (by omega)⟩
  refine P.mul_str (by rw [decide_eq_false (by omega), decide_eq_false (by omega)]; rfl) (fun _ _ => ?_) (fun _ _ => ?_) ?_
  · have : (2 ^ 63 - 1 : Int) / n ≥ 1000 := by
      refine (Int.le_ediv_iff_mul_le (by omega)).mpr ?_
      omega
    omega
  · unfold Builtin.Str.tooLong
    refine decide_eq_false ?_
    rw [sizeLine_eq]
    omega
  · rw [if_neg (by omega), c1]
    exact ⟨h5, ⟨.str _, H, I.tok _, ⟨_, rfl⟩, q⟩⟩
end
/-- '1' and 900 zeros -/
def zeros900 : Str := ⟨(List.replicate (900 : Int).toNat (Str.ofString "0").cps).foldl (· ++ ·) #[]⟩
theorem fold_rep : ∀ (k : Nat) (acc : Array Nat), ((List.replicate k #[48]).foldl (· ++ ·) acc).toList = acc.toList ++ List.replicate k 48
  | 0, acc => by simp
  | k + 1, acc => by
    rw [List.replicate_succ, List.foldl_cons, fold_rep k, Array.toList_append, List.append_assoc]
    rfl
theorem zero_cps : (Str.ofString "0").cps = #[48] := by decide +kernel
theorem one_cps : (Str.ofString "1").cps = #[49] := by decide +kernel
theorem zeros_cps : zeros900.cps.toList = List.replicate 900 48 := by
  show ((List.replicate (900 : Int).toNat (Str.ofString "0").cps).foldl (· ++ ·) #[]).toList = _
  rw [zero_cps, fold_rep]
  rfl
theorem zeros_len : zeros900.length = 900 := by
  show zeros900.cps.size = 900
  rw [← Array.length_toList, zeros_cps, List.length_replicate]
theorem big_cps : (Str.ofString "1" ++ zeros900).cps.toList = 49 :: List.replicate 900 48 := by
  show ((Str.ofString "1").cps ++ zeros900.cps).toList = _
  rw [Array.toList_append, zeros_cps, one_cps]
  rfl
theorem big_len : (Str.ofString "1" ++ zeros900).length = 901 := by
  show (Str.ofString "1" ++ zeros900).cps.size = 901
  rw [← Array.length_toList, big_cps, List.length_cons, List.length_replicate]
theorem big_digits : AllDigits (Str.ofString "1" ++ zeros900).cps.toList := by
  rw [big_cps]
  intro c hc
  rcases List.mem_cons.mp hc with rfl | hc
  · decide
  · rw [List.eq_of_mem_replicate hc]
    decide
theorem val_rep : ∀ (k a : Nat), (List.replicate k 48).foldl (fun acc c => acc * 10 + (c - 48)) a = a * 10 ^ k
  | 0, a => by simp
  | k + 1, a => by
    rw [List.replicate_succ, List.foldl_cons, val_rep k, Nat.pow_succ]
    show (a * 10 + 0) * 10 ^ k = _
    rw [Nat.add_zero, Nat.mul_assoc, Nat.mul_comm 10]
theorem pow_cast (k : Nat) : ((10 ^ k : Nat) : Int) = (10 : Int) ^ k := Int.natCast_pow 10 k
theorem big_text : PySem.intText? (Str.ofString "1" ++ zeros900) = some (10 ^ 900) := by
  rw [intText_digits big_digits (by rw [big_cps]; exact List.cons_ne_nil _ _) (by rw [big_len]; decide), big_cps]
  have e : ∀ k, digitsVal (49 :: List.replicate k 48) = 10 ^ k := fun k => by
    show (List.replicate k 48).foldl (fun acc c => acc * 10 + (c - 48)) 1 = _
    rw [val_rep, Nat.one_mul]
  have f : ∀ k, some ((digitsVal (49 :: List.replicate k 48) : Nat) : Int) = some ((10 : Int) ^ k) := fun k => by rw [e, pow_cast]
  exact f 900
theorem big_seen : ¬ (numSeenOf (Str.ofString "1" ++ zeros900)).length ≤ 640 := by
  rw [(numText_signs fun c hc => .inr (big_digits c hc)).2, Array.length_toList]
  show ¬ (Str.ofString "1" ++ zeros900).length ≤ 640
  rw [big_len]
  decide
end Ef
namespace Ef
open PySem PySem.Spec PyProof.Rows L2 LamX
/-! ### a law that makes lambdas: its end -/
/-- the code object of the def at f -/
def CodeOf (K : PySem.W.Frag) (f c : Addr) : Prop := ∃ (o : Obj) (fd : FuncData), K.lookup f = some o ∧ o.data = .func fd ∧ fd.code = .ref c
theorem codeOf_tab {K : PySem.W.Frag} {x : Str} {f c P : Addr} (h1 : PySem.W.nsIn K mainGlobals x = some (some (.ref f))) (h2 : PySem.W.tabIn K x = some (c, P)) : CodeOf K f c := by
  unfold PySem.W.tabIn at h2
  rw [h1] at h2
  dsimp only at h2
  split at h2
  · rename_i fd osl e
    split at h2
    · rename_i c2 ec
      split at h2
      · split at h2
        · obtain ⟨rfl, _⟩ := Prod.mk.inj (Option.some.inj h2)
          exact ⟨_, fd, e, rfl, ec⟩
        · cases h2
      · cases h2
    · cases h2
  · cases h2
section
variable {P : Program} {w : World} {K : PySem.W.Frag} {mg : Str → Option Value} {base : Heap}
theorem Fun_ok0C {x qual : Str} {st : Stmt} {f c : Addr} {fd : FuncData} {N ps : List Str} {k : Nat} {sp : Sp} (F : Fun K x qual st f fd) (co : CodeOf K f c) (S : FnScope N ps (defScope st)) (len : ∀ vs H Q E, sp vs H Q E → vs.length = ps.length)
    (bod : ∀ (A : Around) (outer : List Env) (s : Shared) (H : Hp) (vs : List V) (Q : VK) (E : XK), A.guards = some [] → Room k (A.deeper (envOfC qual (defScope st) s.heap.objs.size f (.ref c))) → sp vs H Q E →
      ∃ t, PSs (cxOf CX0 P w K mg base N qual (defScope st) f (.ref c) A outer s H E).nox (defBody st) t ∧ t { nx := fun _ H' => Q .non H', rt := Q } (start N vs) H) :
    FnG P w K mg base CX0 (k + 1) f fd ps sp := by
  obtain ⟨oc, od, kV, doc, pm, an, cdv, ct, osl, rfl, lk, hcd⟩ := F.ex
  obtain ⟨o, fd2, e1, e2, e3⟩ := co
  have ecd : cdv = .ref c := by
    rw [lk] at e1
    obtain rfl := Option.some.inj e1
    cases e2
    exact e3
  subst ecd
  refine ⟨len, fun A gd outer s H args us vs Q E room e0 bnd rel wish => ?_⟩
  refine run_ofS (N := N) (ps := ps) lk hcd S room e0 bnd rel (len _ _ _ _ wish) fun hr => ?_
  obtain ⟨t, pt, rd⟩ := bod A outer s H vs Q E gd hr wish
  exact ⟨t, pt.nox, rd⟩
end
def tabHp (K : PySem.W.Frag) (a : Addr) (vs : List Value) (ns : List Int) (ts : List Addr) : Hp := fun b => if b ∈ ts then some (.tbl #[]) else scriptHp K a vs ns b
section
variable {K : PySem.W.Frag} {a : Addr} {vs : List Value} {ns : List Int} {ts : List Addr}
theorem tabHp_in {b : Addr} (h : b ∈ ts) : tabHp K a vs ns ts b = some (.tbl #[]) := if_pos h
theorem tabHp_out {b : Addr} (h : b ∉ ts) : tabHp K a vs ns ts b = scriptHp K a vs ns b := if_neg h
theorem tabHp_some {b : Addr} {u : HO} (h : tabHp K a vs ns ts b = some u) : (b ∈ ts ∧ u = .tbl #[]) ∨ (b ∉ ts ∧ b = a ∧ K.lookup a = none ∧ u = .frz (scriptObj vs) (.lst (ns.map V.int))) := by
  by_cases c : b ∈ ts
  · rw [tabHp_in c] at h
    exact .inl ⟨c, (Option.some.inj h).symm⟩
  · rw [tabHp_out c] at h
    exact .inr ⟨c, scriptHp_some h⟩
theorem tabHp_none {b : Addr} {o : Obj} {h : Heap} (ht : ∀ p ∈ ts, h.get? p = some (PySem.W.tabObj #[])) (ha : h.get? a = some (scriptObj vs)) (e : h.get? b = some o) (hd : ∀ its n, o.data ≠ .seq its n) (hf : o.data ≠ .fields #[]) : tabHp K a vs ns ts b = none := by
  have nb : b ∉ ts := fun z => by
    have e2 := ht b z
    rw [e] at e2
    obtain rfl := Option.some.inj e2
    exact hf rfl
  rw [tabHp_out nb]
  exact scriptHp_none ha e hd
end
/-- what is asked of a law with tables: cs tells the defs that make lambdas, their code objects and tables -/
def LawT (q : Program) (l : PySem.W.OpenLaw) (w : World) (K : PySem.W.Frag) (k n : Nat) (x : Str) (mg : Str → Option Value) (fa : Addr) : Prop :=
  ∃ (fd : FuncData) (cs : List (Str × Addr × Addr)) (sp : Sp), (∀ p ∈ cs, PySem.W.tabIn K p.1 = some p.2 ∧ K.lookup p.2.2 = none ∧ ((recsOf q).find? fun e => e.name == p.1).isSome = true) ∧
    (∀ (s : Shared) (u : Value), BindsTo s fd ⟨[u], []⟩ [(x, u)]) ∧
    (∀ (H : Hp) (a : Addr) (ns : List Int), ns.length ≤ n → (∀ p ∈ cs, H p.2.2 = some (.tbl #[])) → SqL K H a (ns.map V.int) → sp [.ref a] H (fun v _ => v = .bl true) fun _ _ _ => False) ∧
    ∀ base : Heap, K.In base → base.Ns mainGlobals mg → (∀ p ∈ cs, TabB base mg p.2.1 p.2.2) → FnG l.prog w K mg base CX0 k fa fd [x] sp
theorem lawGT {l : PySem.W.OpenLaw} {n k : Nat} {q : Program} {loose : List Str} {XP : (Str → Option Value) → Heap → Prop} {YP : World → Heap → Prop} {d : DefRec} {K : Params → PySem.W.Frag} {x : Str}
    (hn : l.most = some n) (hn2 : n ≤ sizeLine) (hdf : d.params.defaults = []) (room : Room k callerA)
    (hY : ∀ (w : World) (h : Heap), YP w h → (K w.params).In h)
    (F : ∀ (w : World) (mg : Str → Option Value) (fa : Addr) (h : Heap), (K w.params).In h → h.Ns mainGlobals mg → mg d.name = some (.ref fa) → LawT q l w (K w.params) k n x mg fa) :
    PySem.W.WalkO q loose XP YP l.row.toRowW d [] (fun f vs => PySem.call f vs) := by
  refine Att.attach_call hn hdf fun w s₀ s₁ mg mb fa o pm cd doc a vs ns G Y ho hd hcd hmg hobj hints hlen hgen => ?_
  have kin := hY w _ Y
  obtain ⟨fd, cs, sp, tbs, bnd, hsp, FF⟩ := F w mg fa _ kin G.T.g hmg
  have ha : s₁.heap.get? a = some (scriptObj vs) := hobj
  have short : ns.length ≤ sizeLine := Nat.le_trans hlen hn2
  have tabs : ∀ p ∈ cs, PySem.W.CodeHd s₁.heap p.2.1 p.2.2 ∧ s₁.heap.get? p.2.2 = some (PySem.W.tabObj #[]) := fun p hp => by
    obtain ⟨t1, t2, t3⟩ := tbs p hp
    obtain ⟨dr, hdr⟩ := Option.isSome_iff_exists.mp t3
    exact PySem.W.tab_of G.T kin hdr t1
  have ht : ∀ b ∈ cs.map (fun p => p.2.2), s₁.heap.get? b = some (PySem.W.tabObj #[]) := fun b hb => by
    obtain ⟨p, hp, rfl⟩ := List.mem_map.mp hb
    exact (tabs p hp).2
  have mem : ∀ p ∈ cs, p.2.2 ∈ cs.map (fun p => p.2.2) := fun p hp => List.mem_map.mpr ⟨p, hp, rfl⟩
  have na : a ∉ cs.map (fun p => p.2.2) := fun z => by
    have e := ht a z
    rw [ha] at e
    have e2 := congrArg Obj.data (Option.some.inj e)
    cases e2
  generalize hH : tabHp (K w.params) a vs ns (cs.map fun p => p.2.2) = H
  have some' : ∀ {b : Addr} {u : HO}, H b = some u → (b ∈ cs.map (fun p => p.2.2) ∧ u = .tbl #[]) ∨ (b ∉ cs.map (fun p => p.2.2) ∧ b = a ∧ (K w.params).lookup a = none ∧ u = .frz (scriptObj vs) (.lst (ns.map V.int))) := fun z => by
    rw [← hH] at z
    exact tabHp_some z
  have none' : ∀ {b : Addr} {o : Obj}, s₁.heap.get? b = some o → (∀ its n, o.data ≠ .seq its n) → o.data ≠ .fields #[] → H b = none := fun e h1 h2 => by
    rw [← hH]
    exact tabHp_none ht ha e h1 h2
  have keep0 : ∀ {b : Addr} {o : Obj}, s₁.heap.get? b = some o → H b = none → (hidT s₁.heap H).get? b = some o := fun e z => hidT_get e z
  have nsK : ∀ {b : Addr} {m : Str → Option Value}, s₁.heap.Ns b m → (hidT s₁.heap H).Ns b m := by
    rintro b m ⟨o, es, ep, e, dd, r⟩
    refine ⟨o, es, ep, keep0 e (none' e (fun its n z => ?_) fun z => ?_), dd, r⟩ <;> · rw [dd] at z; cases z
  have kinB : (K w.params).In (hidT s₁.heap H) := fun b o e => keep0 (kin b o e) (by
    cases z : H b with
    | none => rfl
    | some u =>
      rcases some' z with ⟨z1, _⟩ | ⟨_, rfl, z2, _⟩
      · obtain ⟨p, hp, rfl⟩ := List.mem_map.mp z1
        rw [(tbs p hp).2.1] at e
        cases e
      · rw [z2] at e
        cases e)
  have hM : Mod (K w.params) mg (hidT s₁.heap H) := by
    obtain ⟨mc, h1, h2⟩ := G.T.nolimit
    exact ⟨kinB, nsK G.T.g, ⟨mb, nsK G.T.b, G.T.builtins⟩, ⟨mc, nsK h1, h2⟩⟩
  have hok : HOk l.prog w H s₁.heap := fun b u z => by
    rcases some' z with ⟨z1, rfl⟩ | ⟨_, rfl, _, rfl⟩
    · exact ht b z1
    · exact ⟨ha, by rw [List.length_map]; exact short, vs, _, vals_ints hints, ha⟩
  have hS : SqL (K w.params) H a (ns.map V.int) := by
    cases hk : (K w.params).lookup a with
    | none =>
      refine .inl (.inr ⟨scriptObj vs, ?_⟩)
      rw [← hH, tabHp_out na]
      exact if_pos ⟨rfl, hk⟩
    | some o =>
      have e := kin a o hk
      rw [ha] at e
      obtain rfl := Option.some.inj e
      exact .inr ⟨_, vs.toArray, _, hk, rfl, rfl, rfl, by rw [List.size_toArray, hints.length]; exact short, by simpa using vals_ints hints⟩
  have hT : ∀ p ∈ cs, H p.2.2 = some (.tbl #[]) := fun p hp => by
    rw [← hH]
    exact tabHp_in (mem p hp)
  have TB : ∀ p ∈ cs, TabB (hidT s₁.heap H) mg p.2.1 p.2.2 := fun p hp => by
    obtain ⟨c1, c2⟩ := tabs p hp
    refine ⟨?_, ?_, fun z => ?_⟩
    · obtain ⟨o, us, file, tf, flags, tg, inF, text, tt, e1, r1, r2, r3, rr⟩ := c1
      refine ⟨o, us, file, tf, flags, tg, inF, text, tt, keep0 e1 (none' e1 (fun its n z => ?_) fun z => ?_), r1, r2, r3, rr⟩
      · rw [r2] at z
        cases z
      · rw [r2] at z
        cases z
        simp at r3
    · obtain ⟨bm, ob, b1, b2, b3, b4, b5, b6⟩ := G.T.bmain
      refine ⟨bm, ob, b1, b2, fun z => ?_, fun z => ?_, keep0 b3 (none' b3 (fun its n z => ?_) fun z => ?_), b4, b5, b6⟩
      · obtain ⟨o, es, ep, e, dd, _⟩ := G.T.g
        rw [z, e] at b3
        cases b3
        rw [dd] at b6
        cases b6
      · rw [z, c2] at b3
        cases b3
        cases b6
      · rw [b6] at z
        cases z
      · rw [b6] at z
        cases z
    · obtain ⟨o, es, ep, e, dd, _⟩ := G.T.g
      rw [z, c2] at e
      cases e
      cases dd
  have e0 : Env0 l.prog w (K w.params) mg (hidT s₁.heap H) callerA [] s₁ H :=
    ⟨rfl, hM, fun b o e => of_hidT e, Nat.le_of_eq (hidT_size _ _), trivial, fun b z => absurd (show b ∈ ([] : List Addr) from z) (by simp), hok, .of_eq hgen⟩
  refine codeAny_mono ((FF _ kinB (nsK G.T.g) TB).run callerA rfl [] s₁ _ ⟨[.ref a], []⟩ [.ref a] [.ref a] _ _ room e0 (bnd s₁ (.ref a)) (.cons rfl .nil) (hsp _ a ns hlen hT hS)) fun r s' got => ?_
  cases r with
  | error e => exact got.elim
  | ok fl =>
    cases fl with
    | next => exact got.elim
    | brk => exact got.elim
    | cont => exact got.elim
    | ret u =>
      obtain ⟨v, H', os, bare, un, hok', rv, z⟩ := got
      obtain rfl : v = .bl true := z
      obtain rfl : u = Value.bool true := rv
      have grown : ∀ p ∈ cs, ∃ more : Array Value, s'.heap.get? p.2.2 = some (PySem.W.tabObj more) := fun p hp => by
        obtain ⟨more, z⟩ := un.tbls p.2.2 #[] (hT p hp)
        exact ⟨_, hok' p.2.2 _ z⟩
      have old : ∀ b o, b ∉ cs.map (fun p => p.2.2) → s₁.heap.get? b = some o → s'.heap.get? b = some o := fun b o nb e => by
        cases z : H b with
        | none => exact un.keep b o e z (fun y => absurd (show b ∈ ([] : List Addr) from y) (by simp)) (by simp)
        | some u =>
          rcases some' z with ⟨z1, _⟩ | ⟨_, rfl, _, rfl⟩
          · exact absurd z1 nb
          · obtain ⟨e2, _⟩ := hok' b _ (un.frzs b _ _ z)
            rw [ha] at e
            obtain rfl := Option.some.inj e
            exact e2
      refine ⟨rfl, ⟨fun b o e => ?_, fun b o e => ?_⟩, os, bare⟩
      · by_cases c : b ∈ cs.map (fun p => p.2.2)
        · obtain ⟨p, hp, rfl⟩ := List.mem_map.mp c
          obtain ⟨more, hm⟩ := grown p hp
          obtain ⟨c1, c2⟩ := tabs p hp
          rw [c2] at e
          obtain rfl := Option.some.inj e
          exact .inr (.inl ⟨(c1.tab c2).isCodeTable, rfl, #[], more, rfl, by rw [Array.empty_append]; exact hm⟩)
        · exact .inl (old b o c e)
      · by_cases c : b ∈ cs.map (fun p => p.2.2)
        · obtain ⟨p, hp, rfl⟩ := List.mem_map.mp c
          obtain ⟨more, hm⟩ := grown p hp
          exact ⟨_, hm⟩
        · exact ⟨o, old b o c e⟩
/-! ### the rules -/
section
variable {X : Cx}
theorem pe_lam {T : List (Addr × Str)} {TT : (XK → Hp → VK → Prop) → Hp → VK → Prop} {x a : Str} {g c P : Addr} {k : Nat} {st : Stmt} {fd : FuncData} {Ng : List Str} {params : Arguments} {body : Expr} {scope : Scope} {t : XK → TE} {p lpos pos : Pos}
    (F : Fun X.K x x st g fd) (hg : Gl X x) (hm : X.mg x = some (.ref g)) (hb : L2.Binds X.K fd [a] []) (Sg : FnScope Ng [a] (defScope st)) (hNg : Ng[0]? = some a) (hva : Vis (defScope st) a)
    (hG : ∀ cdg, GivesTo X Ng x (defScope st) g cdg (defBody st) a (X.env.qual ++ "<lambda>") TT)
    (TB : TabB X.base X.mg c P) (hcode : X.env.code = .ref c) (hmT : (P, X.env.qual ++ "<lambda>") ∈ T) (hu : ∀ p ∈ T, p.1 = P → p.2 = X.env.qual ++ "<lambda>") (hr : Room (k + 2) X.A) (L : LamS X.env.scope scope)
    (hbody : ∀ (A : Around) (outer : List Env) (s : Shared) (H : Hp) (E : XK) (f c' : Addr), Room k (A.deeper (lamEnv X scope s.heap.objs.size f c')) → PE (lamCx X A outer s H E scope f c') body (t E))
    (hdef : defaultsOf params X.env = ([], []) := by rfl)
    (hbind : ∀ (q : Str) (cl : List (Str × Addr)) (pm cv ctv : Value), bindArgs (PySem.W.kla_fn "<lambda>" q params body scope cl pm cv ctv) ⟨[], []⟩ = pure [] := by intros; rfl)
    (hdb : (x == ("__debug__" : Str)) = false := by decide) (hd : (a == ("__debug__" : Str)) = false := by decide) (hcd : (a == ("__classdict__" : Str)) = false := by decide) :
    PE X (.Call (.Name x p) [.Lambda params body scope lpos] [] pos) (tLam T TT t) := by
  obtain ⟨oc, od, kV, doc, pm, an, cdv, ct, osl, rfl, lk, hcg⟩ := F.ex
  exact pe_lamcall hg hm F.kp lk hcg hb Sg hNg hva (hG cdv) TB hcode hmT hu hr L hdef hbind hbody hdb hd hcd
theorem takes_len {W : WX} (t : Takes X W) : Takes X (fun c d σ H => σ.length = X.N.length → W c d σ H) := fun u s' ⟨a, B, sI, pins, σ, H, cls, d, e, I, nb, up, sky, na, os, ag, w⟩ =>
  t u s' ⟨a, B, sI, pins, σ, H, cls, d, e, I, nb, up, sky, na, os, ag, w I.len⟩
/-- the call of what was handed in -/
def tAct (n : Nat) (W : WX) (f c' : Addr) (q : Str) (tl : XK → Hp → VK → Prop) : TE := fun σ H Q => ∃ E : XK, (∀ cls d σ' H', E cls d H' → σ'.length = n → W cls d σ' H') ∧ σ[0]? = some (some (.ref f)) ∧ H c' = some (CodeO c' q) ∧ tl E H Q
theorem pe_actE {f c' : Addr} {q : Str} {tl : XK → Hp → VK → Prop} {e : Expr} {W : WX} (n : Nat) (tk : Takes X W)
    (act : ∀ E : XK, ∀ W' : WX, Takes X W' → (∀ cls d σ' H', E cls d H' → W' cls d σ' H') → PE X e (fun σZ HZ Q => σZ[0]? = some (some (.ref f)) ∧ HZ c' = some (CodeO c' q) ∧ tl E HZ Q))
    (hn : X.N.length = n := by rfl) : PE X e (tAct n W f c' q tl) := by
  subst hn
  refine ⟨fun pins s σ H Q I h => ?_⟩
  obtain ⟨E, h1, h2, h3, h4⟩ := h
  exact (act E _ (takes_len tk) h1).run pins s σ H Q I ⟨h2, h3, h4⟩
theorem len5 {σ : L2.St} (h : σ.length = 5) : ∃ a b c d e, σ = [a, b, c, d, e] := by
  match σ, h with
  | [a, b, c, d, e], _ => exact ⟨a, b, c, d, e, rfl⟩
end
theorem hu1 {P : Addr} {q : Str} : ∀ p ∈ [(P, q)], p.1 = P → p.2 = q := fun p hp _ => by
  cases hp with
  | head => rfl
  | tail _ h => cases h
theorem hu2a {P P2 : Addr} {q q2 : Str} (ne : P ≠ P2) : ∀ p ∈ [(P, q), (P2, q2)], p.1 = P → p.2 = q := fun p hp e => by
  cases hp with
  | head => rfl
  | tail _ h =>
    cases h with
    | head => exact absurd e.symm ne
    | tail _ h => cases h
theorem hu2b {P P2 : Addr} {q q2 : Str} (ne : P ≠ P2) : ∀ p ∈ [(P, q), (P2, q2)], p.1 = P2 → p.2 = q2 := fun p hp e => by
  cases hp with
  | head => exact absurd e ne
  | tail _ h =>
    cases h with
    | head => rfl
    | tail _ h => cases h
/-! ### what is kept while tables grow -/
theorem tabs_same {T : List (Addr × Str)} {H H' : Hp} (t : Tabs T H) (s : Same H H') : Tabs T H' := t.ext s
theorem tabs_but {T : List (Addr × Str)} {H H' : Hp} {p : Addr} {xs : List V} (t : Tabs T H) (hp : H p = some (.lst xs)) (s : But p H H') : Tabs T H' := fun q hq => by
  obtain ⟨ps, h1, h2, h3⟩ := t q hq
  refine ⟨ps, s _ _ (fun z => ?_) h1, h2, fun pos cv hc => ?_⟩
  · rw [z, hp] at h1
    cases h1
  · obtain ⟨c, e1, e2⟩ := h3 pos cv hc
    refine ⟨c, e1, s _ _ (fun z => ?_) e2⟩
    rw [z, hp] at e2
    unfold CodeO at e2
    cases e2
theorem extN_same {H H' : Hp} (s : Same H H') : ExtN H H' := fun b o e _ => s b o e
def ButN (p : Addr) (H H' : Hp) : Prop := ∀ b o, b ≠ p → H b = some o → (∀ ps, o ≠ .tbl ps) → H' b = some o
theorem ButN.refl (p : Addr) (H : Hp) : ButN p H H := fun _ _ _ e _ => e
theorem ButN.of {p : Addr} {H H' : Hp} (s : But p H H') : ButN p H H' := fun b o n e _ => s b o n e
theorem ButN.ext {p : Addr} {H H' : Hp} (s : ExtN H H') : ButN p H H' := fun b o _ e n => s b o e n
theorem ButN.trans {p : Addr} {H H1 H2 : Hp} (s : ButN p H H1) (t : ButN p H1 H2) : ButN p H H2 := fun b o n e z => t b o n (s b o n e z) z
theorem ButN.same {p : Addr} {H H1 H2 : Hp} (s : ButN p H H1) (t : Same H1 H2) : ButN p H H2 := fun b o n e z => t b o (s b o n e z)
theorem ButN.tup {p t : Addr} {H H' : Hp} {xs : List V} (s : ButN p H H') (n : t ≠ p) (h : H t = some (.tup xs)) : H' t = some (.tup xs) := s _ _ n h (fun _ z => by cases z)
theorem ButN.lst {p t : Addr} {H H' : Hp} {xs : List V} (s : ButN p H H') (n : t ≠ p) (h : H t = some (.lst xs)) : H' t = some (.lst xs) := s _ _ n h (fun _ z => by cases z)
theorem extN_tup {t : Addr} {H H' : Hp} {xs : List V} (s : ExtN H H') (h : H t = some (.tup xs)) : H' t = some (.tup xs) := s _ _ h (fun _ z => by cases z)
theorem extN_lst {t : Addr} {H H' : Hp} {xs : List V} (s : ExtN H H') (h : H t = some (.lst xs)) : H' t = some (.lst xs) := s _ _ h (fun _ z => by cases z)
theorem SqL_butN {K : PySem.W.Frag} {H H' : Hp} {a p : Addr} {xs : List V} (h : SqL K H a xs) (np : H p = none) (s : ButN p H H') : SqL K H' a xs := by
  rcases h with (h | ⟨o, h⟩) | h
  · exact .inl (.inl (s _ _ (ne_of_none h np) h (fun _ z => by cases z)))
  · exact .inl (.inr ⟨o, s _ _ (ne_of_none h np) h (fun _ z => by cases z)⟩)
  · exact .inr h
theorem SqL_extN {K : PySem.W.Frag} {H H' : Hp} {a : Addr} {xs : List V} (h : SqL K H a xs) (s : ExtN H H') : SqL K H' a xs := by
  rcases h with (h | ⟨o, h⟩) | h
  · exact .inl (.inl (s _ _ h (fun _ z => by cases z)))
  · exact .inl (.inr ⟨o, s _ _ h (fun _ z => by cases z)⟩)
  · exact .inr h
theorem SqT_extN {K : PySem.W.Frag} {H H' : Hp} {a : Addr} {xs : List V} (h : SqT K H a xs) (s : ExtN H H') : SqT K H' a xs := by
  rcases h with (h | ⟨o, h⟩) | h
  · exact .inl (.inl (s _ _ h (fun _ z => by cases z)))
  · exact .inl (.inr ⟨o, s _ _ h (fun _ z => by cases z)⟩)
  · exact .inr h
end Ef
namespace Ef
open PySem PySem.Spec PyProof.Rows L2
def topS (i : Nat) : Stmt := PySem.Challenge.pw_evenfailover_k51_table_texts_changed_any.main.body.getD i (.Pass ⟨0, 0, 0, 0⟩)
abbrev sPlain : Stmt := topS 4
abbrev NPlain : List Str := ["thing"]
theorem scPlain : FnScope ["thing"] ["thing"] (defScope sPlain) := ⟨rfl, rfl, rfl, by decide +kernel, rfl, by decide +kernel, by decide +kernel⟩
abbrev sIsL : Stmt := topS 7
abbrev NIsL : List Str := ["n", "depth", "thing", "seen", "server"]
theorem scIsL : FnScope ["n", "depth", "thing", "seen", "server"] ["n", "depth", "thing"] (defScope sIsL) := ⟨rfl, rfl, rfl, by decide +kernel, rfl, by decide +kernel, by decide +kernel⟩
abbrev sShowR : Stmt := topS 12
abbrev NShowR : List Str := ["things", "thing"]
theorem scShowR : FnScope ["things", "thing"] ["things"] (defScope sShowR) := ⟨rfl, rfl, rfl, by decide +kernel, rfl, by decide +kernel, by decide +kernel⟩
abbrev sShowT : Stmt := topS 13
abbrev NShowT : List Str := ["n", "table", "depth", "order", "rows"]
theorem scShowT : FnScope ["n", "table", "depth", "order", "rows"] ["n", "table"] (defScope sShowT) := ⟨rfl, rfl, rfl, by decide +kernel, rfl, by decide +kernel, by decide +kernel⟩
abbrev sNumW : Stmt := topS 14
abbrev NNumW : List Str := ["word"]
theorem scNumW : FnScope ["word"] ["word"] (defScope sNumW) := ⟨rfl, rfl, rfl, by decide +kernel, rfl, by decide +kernel, by decide +kernel⟩
abbrev sReadN : Stmt := topS 15
abbrev NReadN : List Str := ["words", "word"]
theorem scReadN : FnScope ["words", "word"] ["words"] (defScope sReadN) := ⟨rfl, rfl, rfl, by decide +kernel, rfl, by decide +kernel, by decide +kernel⟩
abbrev sReadF : Stmt := topS 16
abbrev NReadF : List Str := ["row", "name", "many", "words"]
theorem scReadF : FnScope ["row", "name", "many", "words"] ["row", "name", "many"] (defScope sReadF) := ⟨rfl, rfl, rfl, by decide +kernel, rfl, by decide +kernel, by decide +kernel⟩
abbrev sRowsOf : Stmt := topS 17
abbrev NRowsOf : List Str := ["text"]
theorem scRowsOf : FnScope ["text"] ["text"] (defScope sRowsOf) := ⟨rfl, rfl, rfl, by decide +kernel, rfl, by decide +kernel, by decide +kernel⟩
abbrev sReadT : Stmt := topS 18
abbrev NReadT : List Str := ["text", "rows", "fields", "n", "depth", "table", "row", "order"]
theorem scReadT : FnScope ["text", "rows", "fields", "n", "depth", "table", "row", "order"] ["text"] (defScope sReadT) := ⟨rfl, rfl, rfl, by decide +kernel, rfl, by decide +kernel, by decide +kernel⟩
abbrev sStream : Stmt := topS 20
abbrev NStream : List Str := ["_law_script", "_law_k", "_law_cell", "_law_own"]
theorem scStream : FnScope ["_law_script", "_law_k", "_law_cell", "_law_own"] ["_law_script", "_law_k"] (defScope sStream) := ⟨rfl, rfl, rfl, by decide +kernel, rfl, by decide +kernel, by decide +kernel⟩
abbrev sDraw : Stmt := topS 21
abbrev NDraw : List Str := ["_law_stream_here", "_law_below", "_law_digit"]
theorem scDraw : FnScope ["_law_stream_here", "_law_below", "_law_digit"] ["_law_stream_here", "_law_below"] (defScope sDraw) := ⟨rfl, rfl, rfl, by decide +kernel, rfl, by decide +kernel, by decide +kernel⟩
abbrev sPick : Stmt := topS 22
abbrev NPick : List Str := ["_law_stream_here", "_law_items"]
theorem scPick : FnScope ["_law_stream_here", "_law_items"] ["_law_stream_here", "_law_items"] (defScope sPick) := ⟨rfl, rfl, rfl, by decide +kernel, rfl, by decide +kernel, by decide +kernel⟩
abbrev sShuffd : Stmt := topS 23
abbrev NShuffd : List Str := ["_law_stream_here", "_law_items", "_law_left", "_law_found"]
theorem scShuffd : FnScope ["_law_stream_here", "_law_items", "_law_left", "_law_found"] ["_law_stream_here", "_law_items"] (defScope sShuffd) := ⟨rfl, rfl, rfl, by decide +kernel, rfl, by decide +kernel, by decide +kernel⟩
abbrev sTableS : Stmt := topS 24
abbrev NTableS : List Str := ["_law_stream_here", "_law_n", "_law_depth", "_law_found", "_law_turn"]
theorem scTableS : FnScope ["_law_stream_here", "_law_n", "_law_depth", "_law_found", "_law_turn"] ["_law_stream_here", "_law_n", "_law_depth"] (defScope sTableS) := ⟨rfl, rfl, rfl, by decide +kernel, rfl, by decide +kernel, by decide +kernel⟩
abbrev sReadL : Stmt := topS 25
abbrev NReadL : List Str := ["_law_ask", "_law_caught", "_law_value", "error", "_law_is_own"]
theorem scReadL : FnScope ["_law_ask", "_law_caught", "_law_value", "error", "_law_is_own"] ["_law_ask"] (defScope sReadL) := ⟨rfl, rfl, rfl, by decide +kernel, rfl, by decide +kernel, by decide +kernel⟩
abbrev sLInt : Stmt := topS 26
abbrev NLInt : List Str := ["_law_word", "_law_sign"]
theorem scLInt : FnScope ["_law_word", "_law_sign"] ["_law_word"] (defScope sLInt) := ⟨rfl, rfl, rfl, by decide +kernel, rfl, by decide +kernel, by decide +kernel⟩
abbrev sLInts : Stmt := topS 27
abbrev NLInts : List Str := ["_law_words", "_law_found", "_law_word"]
theorem scLInts : FnScope ["_law_words", "_law_found", "_law_word"] ["_law_words"] (defScope sLInts) := ⟨rfl, rfl, rfl, by decide +kernel, rfl, by decide +kernel, by decide +kernel⟩
abbrev sLBent : Stmt := topS 28
abbrev NLBent : List Str := ["_law_stream_here", "_law_text", "_law_rows", "_law_way", "_law_at", "_law_other", "_law_words", "_law_spot", "_law_odd", "_law_row", "_law_sign", "_law_tail"]
theorem scLBent : FnScope ["_law_stream_here", "_law_text", "_law_rows", "_law_way", "_law_at", "_law_other", "_law_words", "_law_spot", "_law_odd", "_law_row", "_law_sign", "_law_tail"] ["_law_stream_here", "_law_text"] (defScope sLBent) := ⟨rfl, rfl, rfl, by decide +kernel, rfl, by decide +kernel, by decide +kernel⟩
abbrev sLTabR : Stmt := topS 29
abbrev NLTabR : List Str := ["_law_text", "_law_rows", "_law_words", "_law_head", "_law_found", "_law_place", "_law_row", "_law_order"]
theorem scLTabR : FnScope ["_law_text", "_law_rows", "_law_words", "_law_head", "_law_found", "_law_place", "_law_row", "_law_order"] ["_law_text"] (defScope sLTabR) := ⟨rfl, rfl, rfl, by decide +kernel, rfl, by decide +kernel, by decide +kernel⟩
abbrev sLaw : Stmt := topS 30
abbrev NLaw : List Str := ["_law_script", "_law_k", "_law_stream_here", "_law_n", "_law_text", "_law_turn", "_law_bent", "_law_rows"]
theorem scLaw : FnScope ["_law_script", "_law_k", "_law_stream_here", "_law_n", "_law_text", "_law_turn", "_law_bent", "_law_rows"] ["_law_script"] (defScope sLaw) := ⟨rfl, rfl, rfl, by decide +kernel, rfl, by decide +kernel, by decide +kernel⟩
abbrev sNoT : Stmt := inClass (topS 2) 0
theorem scNoT : FnScope ["self", "row"] ["self", "row"] (defScope sNoT) := ⟨rfl, rfl, rfl, by decide +kernel, rfl, by decide +kernel, by decide +kernel⟩
/-- what stands behind the top: each def, how it binds, and that the built-ins' names are free -/
structure Txt (K : PySem.W.Frag) (mg : Str → Option Value) where
  fPlain : Addr
  fdPlain : FuncData
  FPlain : Fun K "is_plain_int" "is_plain_int" sPlain fPlain fdPlain
  bPlain : Binds K fdPlain ["thing"] []
  gPlain : mg "is_plain_int" = some (.ref fPlain)
  fIsL : Addr
  fdIsL : FuncData
  FIsL : Fun K "is_list" "is_list" sIsL fIsL fdIsL
  bIsL : Binds K fdIsL ["n", "depth", "thing"] []
  gIsL : mg "is_list" = some (.ref fIsL)
  fShowR : Addr
  fdShowR : FuncData
  FShowR : Fun K "show_row" "show_row" sShowR fShowR fdShowR
  bShowR : Binds K fdShowR ["things"] []
  gShowR : mg "show_row" = some (.ref fShowR)
  fShowT : Addr
  fdShowT : FuncData
  FShowT : Fun K "show_table" "show_table" sShowT fShowT fdShowT
  bShowT : Binds K fdShowT ["n", "table"] []
  gShowT : mg "show_table" = some (.ref fShowT)
  fNumW : Addr
  fdNumW : FuncData
  FNumW : Fun K "is_number_word" "is_number_word" sNumW fNumW fdNumW
  bNumW : Binds K fdNumW ["word"] []
  gNumW : mg "is_number_word" = some (.ref fNumW)
  fReadN : Addr
  fdReadN : FuncData
  FReadN : Fun K "read_numbers" "read_numbers" sReadN fReadN fdReadN
  bReadN : Binds K fdReadN ["words"] []
  gReadN : mg "read_numbers" = some (.ref fReadN)
  fReadF : Addr
  fdReadF : FuncData
  FReadF : Fun K "read_fields" "read_fields" sReadF fReadF fdReadF
  bReadF : Binds K fdReadF ["row", "name", "many"] []
  gReadF : mg "read_fields" = some (.ref fReadF)
  fRowsOf : Addr
  fdRowsOf : FuncData
  FRowsOf : Fun K "rows_of" "rows_of" sRowsOf fRowsOf fdRowsOf
  bRowsOf : Binds K fdRowsOf ["text"] []
  gRowsOf : mg "rows_of" = some (.ref fRowsOf)
  fReadT : Addr
  fdReadT : FuncData
  FReadT : Fun K "read_table" "read_table" sReadT fReadT fdReadT
  bReadT : Binds K fdReadT ["text"] []
  gReadT : mg "read_table" = some (.ref fReadT)
  fStream : Addr
  fdStream : FuncData
  FStream : Fun K "_law_stream" "_law_stream" sStream fStream fdStream
  bStream : Binds K fdStream ["_law_script", "_law_k"] []
  gStream : mg "_law_stream" = some (.ref fStream)
  fDraw : Addr
  fdDraw : FuncData
  FDraw : Fun K "_law_draw" "_law_draw" sDraw fDraw fdDraw
  bDraw : Binds K fdDraw ["_law_stream_here", "_law_below"] []
  gDraw : mg "_law_draw" = some (.ref fDraw)
  fPick : Addr
  fdPick : FuncData
  FPick : Fun K "_law_pick" "_law_pick" sPick fPick fdPick
  bPick : Binds K fdPick ["_law_stream_here", "_law_items"] []
  gPick : mg "_law_pick" = some (.ref fPick)
  fShuffd : Addr
  fdShuffd : FuncData
  FShuffd : Fun K "_law_shuffled" "_law_shuffled" sShuffd fShuffd fdShuffd
  bShuffd : Binds K fdShuffd ["_law_stream_here", "_law_items"] []
  gShuffd : mg "_law_shuffled" = some (.ref fShuffd)
  fTableS : Addr
  fdTableS : FuncData
  FTableS : Fun K "_law_table" "_law_table" sTableS fTableS fdTableS
  bTableS : Binds K fdTableS ["_law_stream_here", "_law_n", "_law_depth"] []
  gTableS : mg "_law_table" = some (.ref fTableS)
  fReadL : Addr
  fdReadL : FuncData
  FReadL : Fun K "_law_read" "_law_read" sReadL fReadL fdReadL
  bReadL : Binds K fdReadL ["_law_ask"] []
  gReadL : mg "_law_read" = some (.ref fReadL)
  fLInt : Addr
  fdLInt : FuncData
  FLInt : Fun K "_law_integer" "_law_integer" sLInt fLInt fdLInt
  bLInt : Binds K fdLInt ["_law_word"] []
  gLInt : mg "_law_integer" = some (.ref fLInt)
  fLInts : Addr
  fdLInts : FuncData
  FLInts : Fun K "_law_integers" "_law_integers" sLInts fLInts fdLInts
  bLInts : Binds K fdLInts ["_law_words"] []
  gLInts : mg "_law_integers" = some (.ref fLInts)
  fLBent : Addr
  fdLBent : FuncData
  FLBent : Fun K "_law_bent_rows" "_law_bent_rows" sLBent fLBent fdLBent
  bLBent : Binds K fdLBent ["_law_stream_here", "_law_text"] []
  gLBent : mg "_law_bent_rows" = some (.ref fLBent)
  fLTabR : Addr
  fdLTabR : FuncData
  FLTabR : Fun K "_law_table_read" "_law_table_read" sLTabR fLTabR fdLTabR
  bLTabR : Binds K fdLTabR ["_law_text"] []
  gLTabR : mg "_law_table_read" = some (.ref fLTabR)
  cBase : Addr
  gcBase : mg "FailoverError" = some (.ref cBase)
  btBase : BaseT K cBase
  cNoT : Addr
  gcNoT : mg "NoText" = some (.ref cNoT)
  fNoT : Addr
  fdNoT : FuncData
  FNoT : Fun K "__init__" "NoText.__init__" sNoT fNoT fdNoT
  bNoT : Binds K fdNoT ["self", "row"] []
  eNoT : ErrT K cNoT fNoT "row" cBase
  kitDig : PySem.W.nsIn K cStatics "sys.int_max_str_digits" = some none
  kit_NoT_NoT : PySem.W.kitOne K (.ref cNoT) (.ref cNoT) = some true
  kSV_NoT : PySem.W.kitOne K (.ref cNoT) (.type "ValueError") = some true
  tMOST_LISTS : Tok
  gMOST_LISTS : mg "MOST_LISTS" = some (.int 5000 tMOST_LISTS)
  tLEAST_SERVERS : Tok
  gLEAST_SERVERS : mg "LEAST_SERVERS" = some (.int 2 tLEAST_SERVERS)
  tMOST_SERVERS : Tok
  gMOST_SERVERS : mg "MOST_SERVERS" = some (.int 60 tMOST_SERVERS)
  tMOST_DIGITS : Tok
  gMOST_DIGITS : mg "MOST_DIGITS" = some (.int 40 tMOST_DIGITS)
  n_ValueError : mg "ValueError" = none
  n_abs : mg "abs" = none
  n_all : mg "all" = none
  n_bool : mg "bool" = none
  n_enumerate : mg "enumerate" = none
  n_int : mg "int" = none
  n_isinstance : mg "isinstance" = none
  n_len : mg "len" = none
  n_list : mg "list" = none
  n_max : mg "max" = none
  n_min : mg "min" = none
  n_range : mg "range" = none
  n_repr : mg "repr" = none
  n_set : mg "set" = none
  n_str : mg "str" = none
  n_tuple : mg "tuple" = none
  ccLaw : Addr
  ppLaw : Addr
structure TBs {K : PySem.W.Frag} {mg : Str → Option Value} (T : Txt K mg) (base : Heap) : Prop where
  tbLaw : LamX.TabB base mg T.ccLaw T.ppLaw
def tabsOf {K : PySem.W.Frag} {mg : Str → Option Value} (T : Txt K mg) : List (Addr × Str) := [(T.ppLaw, ("law" : Str) ++ ".<locals>." ++ "<lambda>")]
/-! ### is_plain_int -/
def tyNames : List String := ["NoneType", "bool", "int", "str", "list", "tuple", "dict"]
def spPlain (K : PySem.W.Frag) : Sp := fun vs H Q _ => ∃ (v : V) (t : String), vs = [v] ∧ TyX K H v (.type t) ∧ t ∈ tyNames ∧ Q (.bl (t == "int")) H
theorem ty_cases {t : String} (h : t ∈ tyNames) : t = "NoneType" ∨ t = "bool" ∨ t = "int" ∨ t = "str" ∨ t = "list" ∨ t = "tuple" ∨ t = "dict" := by
  unfold tyNames at h
  simp only [List.mem_cons, List.not_mem_nil, or_false] at h
  exact h
theorem kit_int {K : PySem.W.Frag} {t : String} (h : t ∈ tyNames) : PySem.W.kitOne K (.type t) (.type "int") = some (t == "int" || t == "bool") := by
  rcases ty_cases h with rfl | rfl | rfl | rfl | rfl | rfl | rfl <;> exact kit_ty (by decide +kernel)
theorem kit_bool {K : PySem.W.Frag} {t : String} (h : t ∈ tyNames) : PySem.W.kitOne K (.type t) (.type "bool") = some (t == "bool") := by
  rcases ty_cases h with rfl | rfl | rfl | rfl | rfl | rfl | rfl <;> exact kit_ty (by decide +kernel)
theorem kit_tuple {K : PySem.W.Frag} {t : String} (h : t ∈ tyNames) : PySem.W.kitOne K (.type t) (.type "tuple") = some (t == "tuple") := by
  rcases ty_cases h with rfl | rfl | rfl | rfl | rfl | rfl | rfl <;> exact kit_ty (by decide +kernel)
section
variable {P : Program} {w : World} {K : PySem.W.Frag} {mg : Str → Option Value} {base : Heap}
theorem ok_plain (T : Txt K mg) {j : Nat} : FnOk P w K mg base CX0 (j + 1) T.fPlain T.fdPlain ["thing"] (spPlain K) := by
  refine T.FPlain.ok scPlain (fun vs H Q E h => ?_) (fun cdv A outer s H vs Q E hr h => ?_)
  · obtain ⟨v, t, rfl, _⟩ := h
    rfl
  · obtain ⟨v, t, rfl, ty, ht, q⟩ := h
    refine ⟨_, pss_one (ps_ret (pe_and (pe_callB call_isi (by rfl) T.n_isinstance (by decide +kernel) (pa_cons (pv 0) (pa_cons (pe_bltn (v := .ty "int") (by rfl) T.n_int (by decide +kernel) rfl) pa_nil)))
      (pe_one (pe_not (pe_callB call_isi (by rfl) T.n_isinstance (by decide +kernel) (pa_cons (pv 0) (pa_cons (pe_bltn (v := .ty "bool") (by rfl) T.n_bool (by decide +kernel) rfl) pa_nil))))))), ?_⟩
    refine ⟨v, rfl, v, .ty "int", _, _, _, rfl, .ty _, ty, kit_int ht, _, rfl, ?_⟩
    rcases ty_cases ht with rfl | rfl | rfl | rfl | rfl | rfl | rfl
    · exact iteF q
    · exact iteT ⟨v, rfl, v, .ty "bool", _, _, _, rfl, .ty _, ty, kit_bool ht, _, rfl, q⟩
    · exact iteT ⟨v, rfl, v, .ty "bool", _, _, _, rfl, .ty _, ty, kit_bool ht, _, rfl, q⟩
    · exact iteF q
    · exact iteF q
    · exact iteF q
    · exact iteF q
end
/-! ### any value, seen as whole numbers, tuples and the rest -/
inductive TD where
  | int (i : Int) | tup (ts : List TD) | oth (t : String)
mutual
inductive VT (K : PySem.W.Frag) (H : Hp) : V → TD → Prop
  | int (i : Int) : VT K H (.int i) (.int i)
  | tup {a : Addr} {xs : List V} {ts : List TD} (h : SqT K H a xs) (t : VTs K H xs ts) : VT K H (.ref a) (.tup ts)
  | oth {v : V} {t : String} (h : TyX K H v (.type t)) (m : t ∈ tyNames) (n1 : (t == "int") = false) (n2 : (t == "tuple") = false) : VT K H v (.oth t)
inductive VTs (K : PySem.W.Frag) (H : Hp) : List V → List TD → Prop
  | nil : VTs K H [] []
  | cons {v : V} {t : TD} {vs : List V} {ts : List TD} (h : VT K H v t) (r : VTs K H vs ts) : VTs K H (v :: vs) (t :: ts)
end
theorem tyx_sameA {K : PySem.W.Frag} {H H' : Hp} {v : V} {t : Value} (e : Same H H') (h : TyX K H v t) : TyX K H' v t := by
  cases h with
  | base h =>
    cases h with
    | non => exact .base .non
    | bl x => exact .base (.bl x)
    | int i => exact .base (.int i)
    | str x => exact .base (.str x)
    | flt x => exact .base (.flt x)
    | lst z => exact .base (.lst (e _ _ z))
    | frz z => exact .base (.frz (e _ _ z))
    | tup z => exact .base (.tup (e _ _ z))
    | dK z => exact .base (.dK (e _ _ z))
    | dT z => exact .base (.dT (e _ _ z))
    | ins z a1 a2 a3 a4 a5 => exact .base (.ins (e _ _ z) a1 a2 a3 a4 a5)
  | byt b => exact .byt b
  | set z => exact .set (e _ _ z)
  | kList a b => exact .kList a b
  | kTuple a b => exact .kTuple a b
  | kDict a b => exact .kDict a b
  | fTuple z => exact .fTuple (e _ _ z)
  | fDict z => exact .fDict (e _ _ z)
def tyT : TD → String
  | .int _ => "int"
  | .tup _ => "tuple"
  | .oth t => t
theorem VTs.len {K : PySem.W.Frag} {H : Hp} : ∀ {vs : List V} {ts : List TD}, VTs K H vs ts → vs.length = ts.length
  | _, _, .nil => rfl
  | _, _, .cons _ r => congrArg (· + 1) r.len
theorem VTs.at {K : PySem.W.Frag} {H : Hp} : ∀ {vs : List V} {ts : List TD} {i : Nat} {v : V}, VTs K H vs ts → vs[i]? = some v → ∃ t, ts[i]? = some t ∧ VT K H v t
  | _, _, 0, _, .cons h _, e => ⟨_, rfl, by cases e; exact h⟩
  | _, _, i + 1, _, .cons _ r, e => r.at (i := i) e
theorem VT.ty {K : PySem.W.Frag} {H : Hp} {v : V} {t : TD} (h : VT K H v t) : TyX K H v (.type (tyT t)) ∧ tyT t ∈ tyNames := by
  cases h with
  | int i => exact ⟨.base (.int i), by show "int" ∈ tyNames; decide⟩
  | tup h t =>
    refine ⟨?_, by show "tuple" ∈ tyNames; decide⟩
    rcases h with (h | ⟨o, h⟩) | ⟨o, its, n, h1, h2, _⟩
    · exact .base (.tup h)
    · exact .fTuple h
    · exact .kTuple h1 h2
  | oth h m _ _ => exact ⟨h, m⟩
/-- a list of d servers, each once -/
def lchk (n : Int) : List Int → List TD → Bool
  | _, [] => true
  | seen, .int i :: r => decide (0 ≤ i) && (decide (i < n) && (!decide (i ∈ seen) && lchk n (i :: seen) r))
  | _, _ :: _ => false
def listT (n : Int) (d : Nat) : TD → Bool
  | .tup ts => decide (ts.length = d) && lchk n [] ts
  | _ => false
def tabT (n : Int) (d : Nat) : TD → Bool
  | .tup ts => !ts.isEmpty && ts.all (listT n d)
  | _ => false
theorem lchk_no {n : Int} {seen : List Int} {t : TD} {r : List TD} (h : ∀ i, t ≠ .int i) : lchk n seen (t :: r) = false := by
  cases t with
  | int i => exact absurd rfl (h i)
  | tup _ => rfl
  | oth _ => rfl
theorem dropT {ds : List TD} {i : Nat} {d : TD} (h : ds[i]? = some d) : ds.drop i = d :: ds.drop (i + 1) := by
  obtain ⟨hl, e⟩ := List.getElem?_eq_some_iff.mp h
  rw [List.drop_eq_getElem_cons hl, e]
/-! ### is_list of any value -/
def spIsL (K : PySem.W.Frag) : Sp := fun vs H Q _ => ∃ (n : Int) (d : Nat) (v : V) (t : TD), vs = [.int n, .int d, v] ∧ VT K H v t ∧ d ≤ 60 ∧ ∀ H', Same H H' → Q (.bl (listT n d t)) H'
section
variable {P : Program} {w : World} {K : PySem.W.Frag} {mg : Str → Option Value} {base : Heap}
theorem ok_isl (T : Txt K mg) {j : Nat} : FnOk P w K mg base CX0 (j + 2) T.fIsL T.fdIsL ["n", "depth", "thing"] (spIsL K) := by
  refine T.FIsL.ok scIsL (fun vs H Q E h => ?_) (fun cdv A outer s H vs Q E hr h => ?_)
  · obtain ⟨n, d, v, t, rfl, _⟩ := h
    rfl
  · obtain ⟨n, d, v, t, rfl, hv, hd, q⟩ := h
    refine ⟨_, C8.pss_cut (ps_if (PW.pt (pw_or (pt_not (pt_val (pe_callB (call_isiK1 K) (by rfl) T.n_isinstance (by decide +kernel) (pa_cons (pv 2) (pa_cons (pe_bltn (v := .ty "tuple") (by rfl) T.n_tuple (by decide +kernel) rfl) pa_nil))))) (pw_or1 (pt_cmpR op_ne (pe_callB (call_lenK K) (by rfl) T.n_len PySem.boot_len (pa_cons (pv 2) pa_nil)) (pv 1) (nomark _))))) (pss_one (ps_ret pe_bl)) pss_nil) (pss_cons (ps_set (i := 3) scIsL.nd rfl (.inl rfl) (pe_callTy0 cr_set0 (by rfl) T.n_set (by decide +kernel))) (pss_cons (ps_for PassesOwn.never rfl (pi_tup (pv 2)) (pg_name (i := 4) scIsL.nd rfl (.inl rfl)) (pss_cons (ps_if (PW.pt (pw_or (pt_not (pt_val (pe_call (ok_plain T) hr (by rfl) T.gPlain T.FPlain.kp T.bPlain .nil pass0 (pa_cons (pv 4) pa_nil)))) (pw_or (pt_cmpR op_lt (pv 4) pe_int (nomark _)) (pw_or (pt_cmpR op_ge (pv 4) (pv 0) (nomark _)) (pw_or1 (pt_cmpR or_sin (pv 4) (pv 3) (by rfl))))))) (pss_one (ps_ret pe_bl)) pss_nil) (pss_one (ps_expr (pe_sadd (pv 3) (pa_cons (pv 4) pa_nil)))))) (pss_one (ps_ret pe_bl)))), ?_⟩
    obtain ⟨ty, tm⟩ := hv.ty
    refine ⟨fun σ H1 => σ = [some (.int n), some (.int (d : Int)), some v, none, none] ∧ H1 = H ∧ ∃ ts, t = .tup ts ∧ ts.length = d, ?_, ?_⟩
    · refine ⟨v, rfl, v, .ty "tuple", _, _, _, rfl, .ty _, ty, kit_tuple tm, _, rfl, ?_⟩
      cases hv with
      | int i => exact iteT (iteT (q H (Same.refl H)))
      | oth h m n1 n2 =>
        rename_i t0
        rw [show (tyT (TD.oth t0) == "tuple") = false from n2]
        exact iteT (iteT (q H (Same.refl H)))
      | tup h r =>
        rename_i a xs ts
        refine iteF ?_
        refine ⟨.ref a, rfl, a, _, rfl, .inr h, _, rfl, rfl, _, rfl, ?_⟩
        rw [r.len]
        refine ite2 (fun z => ?_) (fun z => ?_)
        · have ne : ¬ ts.length = d := fun e => by
            rw [e] at z
            simp at z
          have q2 := q H (Same.refl H)
          rw [show listT n d (.tup ts) = false by show (decide (ts.length = d) && _) = false; rw [decide_eq_false ne]; rfl] at q2
          exact q2
        · refine ⟨rfl, rfl, ts, rfl, ?_⟩
          refine Classical.byContradiction fun ne => z ?_
          rw [decide_eq_false (fun e => ne (by injection e with e; omega))]
          rfl
    rintro σ H1 ⟨rfl, rfl, ts, rfl, hl⟩
    obtain ⟨a, xs, rfl, h, r⟩ : ∃ a xs, v = .ref a ∧ SqT K H1 a xs ∧ VTs K H1 xs ts := by
      cases hv with
      | tup h r => exact ⟨_, _, rfl, h, r⟩
    refine ⟨rfl, fun S nS => ?_⟩
    have q2 : ∀ H', Same H1 H' → Q (.bl (lchk n [] ts)) H' := fun H' s' => by
      have := q H' s'
      rw [show listT n d (.tup ts) = lchk n [] ts by show (decide (ts.length = d) && _) = _; rw [decide_eq_true hl]; rfl] at this
      exact this
    have xl := r.len
    refine ⟨.ref a, rfl, a, rfl, ⟨_, Same.seqT (same_new nS) h⟩, for_tup (K := K) (a := a) (xs := xs) (fun i σ H2 => ∃ (u : Option V) (seen : List Int) (g : Int → Bool) (m : Nat), σ = [some (.int n), some (.int (d : Int)), some (.ref a), some (.ref S), u] ∧ Same H1 H2 ∧ H2 S = some (SetO w S g m) ∧ (∀ j, g j = decide (j ∈ seen)) ∧ m ≤ i ∧ lchk n [] ts = lchk n seen (ts.drop i)) ⟨none, [], _, 0, rfl, same_new nS, upd_same, fun j => rfl, Nat.le_refl _, rfl⟩ (fun i σ H2 _ ⟨_, _, _, _, _, s2, _⟩ => Same.seqT s2 h) ?_ ?_⟩
    · rintro i x σ H2 hi ⟨u, seen, g, m, rfl, s2, hS, hg, hm, ec⟩
      have hi2 : i < xs.length := (List.getElem?_eq_some_iff.mp hi).1
      obtain ⟨t, ht, hT⟩ := r.at hi
      rw [dropT ht] at ec
      obtain ⟨ty1, tm1⟩ := hT.ty
      refine ⟨x, rfl, x, tyT t, rfl, tyx_sameA s2 ty1, tm1, _, rfl, ?_⟩
      have q3 := q2 H2 s2
      cases hT with
      | tup h r =>
        rw [ec] at q3
        exact iteT (iteT q3)
      | oth h m n1 n2 =>
        rename_i t0
        rw [show (tyT (TD.oth t0) == "int") = false from n1]
        rw [ec] at q3
        exact iteT (iteT q3)
      | int z =>
        rw [show lchk n seen (.int z :: ts.drop (i + 1)) = (decide (0 ≤ z) && (decide (z < n) && (!decide (z ∈ seen) && lchk n (z :: seen) (ts.drop (i + 1))))) from rfl] at ec
        refine iteF ?_
        refine ⟨_, rfl, _, _, rfl, rfl, _, rfl, ite2 (fun h1 => ?_) (fun h1 => ?_)⟩
        · have h2 : z < 0 := of_decide_eq_true h1
          rw [decide_eq_false (show ¬ 0 ≤ z by omega)] at ec
          rw [ec] at q3
          exact iteT q3
        · have h2 : ¬ z < 0 := fun y => h1 (decide_eq_true y)
          rw [decide_eq_true (show 0 ≤ z by omega), Bool.true_and] at ec
          refine ⟨_, rfl, _, rfl, _, _, rfl, rfl, _, rfl, ite2 (fun h3 => ?_) (fun h3 => ?_)⟩
          · have h4 : n ≤ z := of_decide_eq_true h3
            rw [decide_eq_false (show ¬ z < n by omega)] at ec
            rw [ec] at q3
            exact iteT q3
          · have h4 : ¬ n ≤ z := fun y => h3 (decide_eq_true y)
            rw [decide_eq_true (show z < n by omega), Bool.true_and] at ec
            refine ⟨_, rfl, _, rfl, z, S, g, m, rfl, rfl, hS, _, rfl, ?_⟩
            rw [hg z]
            refine ite2 (fun h5 => ?_) (fun h5 => ?_)
            · rw [h5] at ec
              rw [ec] at q3
              exact q3
            · have h6 : decide (z ∈ seen) = false := by simpa using h5
              rw [h6] at ec
              refine ⟨.ref S, rfl, ⟨S, g, m, rfl, hS⟩, _, rfl, S, z, g, m, rfl, rfl, hS, by show m + 1 < 4096; omega, ?_⟩
              refine ⟨_, z :: seen, _, _, rfl, keep_upd s2 nS, upd_same, fun j => ?_, ?_, ec⟩
              · show (g j || decide (j = z)) = _
                rw [hg j]
                by_cases e : j = z <;> simp [e]
              · split <;> omega
    · rintro σ H2 ⟨u, seen, g, m, rfl, s2, hS, hg, hm, ec⟩
      rw [xl, List.drop_length] at ec
      have q3 := q2 H2 s2
      rw [ec] at q3
      exact q3
end
/-! ### tuples and lists of servers -/
def setV (ms : List Nat) : List V := ms.map fun (m : Nat) => V.int (m : Int)
theorem setV_app (a b : List Nat) : setV (a ++ b) = setV a ++ setV b := List.map_append
theorem setV_at {ms : List Nat} {i m : Nat} (h : ms[i]? = some m) : (setV ms)[i]? = some (V.int (m : Int)) := by
  unfold setV
  rw [List.getElem?_map, h]
  rfl
theorem setV_len (ms : List Nat) : (setV ms).length = ms.length := List.length_map _
theorem setV_range (n : Nat) : rgV 0 (n : Int) = setV (List.range' 0 n) := by
  unfold setV
  have e : ((n : Int) - 0).toNat = n := by omega
  unfold rgV
  rw [e, List.range_eq_range']
  refine List.map_congr_left fun i _ => ?_
  rw [Int.zero_add]
theorem seq_at {k n : Nat} (h : k < n) : seqIndex? (k : Int) n = some k := by
  unfold seqIndex?
  simp only [show ¬ ((k : Int) < 0) by omega, if_false]
  rw [if_pos]
  · rw [Int.toNat_natCast]
  · rw [Bool.and_eq_true]
    exact ⟨decide_eq_true (by omega), decide_eq_true (by omega)⟩
theorem SqL.is {K : PySem.W.Frag} {H : Hp} {a : Addr} {xs ys : List V} (h : SqL K H a xs) (e : xs = ys) : SqL K H a ys := e ▸ h
theorem setV_erase : ∀ (l : List Nat) (k : Nat), (setV l).eraseIdx k = setV (l.eraseIdx k)
  | [], _ => rfl
  | _ :: _, 0 => rfl
  | a :: r, k + 1 => congrArg (V.int (a : Int) :: ·) (setV_erase r k)
theorem setV_ints (ms : List Nat) : setV ms = (ms.map fun (m : Nat) => (m : Int)).map V.int := by
  unfold setV
  rw [List.map_map]
  rfl
theorem ints_back {ns : List Int} {ms : List Nat} (h : ns.Perm (ms.map fun (m : Nat) => (m : Int))) : ∃ ks : List Nat, ns = (ks.map fun (m : Nat) => (m : Int)) ∧ ks.Perm ms := by
  have e : ∀ x ∈ ns, ((x.toNat : Nat) : Int) = x := fun x hx => by
    obtain ⟨m, _, rfl⟩ := List.mem_map.mp (h.mem_iff.mp hx)
    simp
  refine ⟨ns.map Int.toNat, ?_, ?_⟩
  · rw [List.map_map]
    conv => lhs; rw [← List.map_id ns]
    exact List.map_congr_left fun x hx => (e x hx).symm
  · have h2 := h.map Int.toNat
    rw [List.map_map] at h2
    have e2 : (ms.map (Int.toNat ∘ fun (m : Nat) => (m : Int))) = ms := by
      conv => rhs; rw [← List.map_id ms]
      exact List.map_congr_left fun x _ => by simp
    rw [e2] at h2
    exact h2
theorem le_back {ks : List Nat} (h : (ks.map fun (m : Nat) => (m : Int)).Pairwise (· ≤ ·)) : ks.Pairwise (· ≤ ·) := by
  rw [List.pairwise_map] at h
  exact h.imp fun z => by omega
theorem lt_of_le {ks : List Nat} (h : ks.Pairwise (· ≤ ·)) (hn : ks.Nodup) : Asc ks := (h.and hn).imp fun ⟨a, b⟩ => by omega
theorem inV_ints (x : Int) : ∀ ns : List Int, inV (V.int x) (ns.map V.int) = decide (x ∈ ns)
  | [] => rfl
  | y :: r => by
    show ((y == x) || inV (V.int x) (r.map V.int)) = _
    rw [inV_ints x r]
    by_cases h : y = x
    · subst h
      rw [beq_self_eq_true, decide_eq_true List.mem_cons_self]
      rfl
    · rw [show (y == x) = false from beq_eq_false_iff_ne.mpr h, Bool.false_or]
      by_cases g : x ∈ r
      · rw [decide_eq_true g, decide_eq_true (List.mem_cons_of_mem _ g)]
      · rw [decide_eq_false g, decide_eq_false fun z => ?_]
        rcases List.mem_cons.mp z with z | z
        · exact h z.symm
        · exact g z
theorem flat_ints : ∀ ns : List Int, (ns.map V.int).all flatV = true
  | [] => rfl
  | _ :: r => flat_ints r
theorem setV_flat (ms : List Nat) : (setV ms).all flatV = true := by
  rw [setV_ints]
  exact flat_ints _
theorem inV_setV (x : Nat) (ms : List Nat) : inV (.int (x : Int)) (setV ms) = decide (x ∈ ms) := by
  rw [setV_ints, inV_ints]
  refine decide_eq_decide.mpr ⟨fun h => ?_, fun h => List.mem_map.mpr ⟨x, h, rfl⟩⟩
  obtain ⟨y, hy, e⟩ := List.mem_map.mp h
  have : y = x := by omega
  rw [← this]
  exact hy
theorem setV_mem {ms : List Nat} {v : V} (h : v ∈ setV ms) : ∃ m, m ∈ ms ∧ v = .int (m : Int) := by
  obtain ⟨m, hm, e⟩ := List.mem_map.mp h
  exact ⟨m, hm, e.symm⟩
theorem setV_get {ms : List Nat} {i : Nat} {v : V} (h : (setV ms)[i]? = some v) : ∃ m, ms[i]? = some m ∧ v = .int (m : Int) := by
  unfold setV at h
  rw [List.getElem?_map] at h
  cases e : ms[i]? with
  | none =>
    rw [e] at h
    cases h
  | some m =>
    rw [e] at h
    exact ⟨m, rfl, (Option.some.inj h).symm⟩
theorem range'_snoc (n : Nat) : List.range' 0 (n + 1) = List.range' 0 n ++ [n] := by
  rw [← List.range_eq_range', ← List.range_eq_range', List.range_succ]
theorem fr_step (f : Nat → Bool) (n : Nat) : setV ((List.range' 0 (n + 1)).filter f) = setV ((List.range' 0 n).filter f) ++ if f n = true then [V.int (n : Int)] else [] := by
  rw [range'_snoc, List.filter_append, setV_app]
  congr 1
  cases h : f n with
  | true => rw [List.filter_cons_of_pos h]; rfl
  | false => rw [List.filter_cons_of_neg (by rw [h]; decide)]; rfl
/-- what an error of the class CN with the field f leaves behind -/
def Raised (f : Str) (CN : Addr) (v : V) (H : Hp) (E : XK) : Prop := ∀ H' d, Same H H' → H' d = some (.xd [(f, v)]) → H d = none → E (.ref CN) (some d) H'
theorem Raised.on {f : Str} {CN : Addr} {v : V} {H H1 : Hp} {E : XK} (s : Same H H1) (h : Raised f CN v H E) : Raised f CN v H1 E := fun H' d s2 e n => h H' d (s.trans s2) e (s.free n)
theorem cut_set (ms : List Nat) (lo hi : Option Int) : ∃ ks : List Nat, cutV (setV ms) lo hi = setV ks ∧ (∀ x ∈ ks, x ∈ ms) ∧ ks.length ≤ ms.length ∧ ks.Sublist ms := by
  unfold cutV setV
  rw [← List.map_drop, ← List.map_take]
  refine ⟨_, rfl, fun x hx => List.mem_of_mem_drop (List.mem_of_mem_take hx), ?_, (List.take_sublist _ _).trans (List.drop_sublist _ _)⟩
  rw [List.length_take, List.length_drop]
  omega
def natOf : V → Nat
  | .int i => i.toNat
  | _ => 0
theorem perm_setV {ys : List V} {ms : List Nat} (h : ys.Perm (setV ms)) : ∃ ks : List Nat, ys = setV ks ∧ ks.Perm ms := by
  have e : ∀ y ∈ ys, V.int ((natOf y : Nat) : Int) = y := fun y hy => by
    obtain ⟨m, _, rfl⟩ := setV_mem (h.mem_iff.mp hy)
    show V.int (((m : Int).toNat : Nat) : Int) = _
    rw [Int.toNat_natCast]
  refine ⟨ys.map natOf, ?_, ?_⟩
  · unfold setV
    rw [List.map_map]
    conv => lhs; rw [← List.map_id ys]
    exact List.map_congr_left fun y hy => (e y hy).symm
  · have h2 := h.map natOf
    unfold setV at h2
    rw [List.map_map] at h2
    have e2 : (ms.map (natOf ∘ fun (m : Nat) => V.int (m : Int))) = ms := by
      conv => rhs; rw [← List.map_id ms]
      refine List.map_congr_left fun x _ => ?_
      show (x : Int).toNat = x
      rw [Int.toNat_natCast]
    rw [e2] at h2
    exact h2
theorem dp_set {K : PySem.W.Frag} {H : Hp} : ∀ ms : List Nat, DpAll K H (setV ms) (natD ms)
  | [] => .nil
  | m :: r => .cons (.int (m : Int)) (dp_set r)
theorem but_free {p q : Addr} {H H' : Hp} (s : But p H H') (h : H' q = none) (n : q ≠ p) : H q = none := by
  cases e : H q with
  | none => rfl
  | some o =>
    rw [s _ _ n e] at h
    cases h
theorem but_new {p q : Addr} {H H1 : Hp} {o : HO} (s : But p H H1) (h : H q = none) : But p H (L2.upd H1 q o) := fun b x n e => by
  rw [upd_ne (ne_of_none e h)]
  exact s b x n e
theorem erase_perm {α : Type} : ∀ (l : List α) (k : Nat) (x : α), l[k]? = some x → (x :: l.eraseIdx k).Perm l
  | [], _, _, h => by cases h
  | a :: r, 0, x, h => by
    obtain rfl : a = x := Option.some.inj h
    exact List.Perm.refl _
  | a :: r, k + 1, x, h => (List.Perm.swap a x _).trans ((erase_perm r k x h).cons a)
theorem same_hide {p : Addr} {H H' : Hp} (s : Same H H') (n : H p = none) : Same H (hide p H') := fun b o e => by
  rw [hide_ne (ne_of_none e n)]
  exact s b o e
theorem cut_take (fl : List Nat) (w : Nat) : cutV (setV fl) none (some (w : Int)) = setV (fl.take w) := by
  unfold cutV
  have e0 : HT.sIx (setV fl).length 0 none = 0 := rfl
  have e1 : HT.sIx (setV fl).length (setV fl).length (some (w : Int)) = min w fl.length := by
    rw [setV_len]
    exact HT.sIx_nat _ _ _
  rw [e0, e1, List.drop_zero, Nat.sub_zero]
  unfold setV
  rw [← List.map_take]
  congr 1
  rw [List.take_eq_take_iff]
  omega
theorem SqT_updL {K : PySem.W.Frag} {H : Hp} {a D : Addr} {xs ys : List V} {o : HO} (h : SqT K H a xs) (hD : H D = some (.lst ys)) : SqT K (upd H D o) a xs := by
  rcases h with (h | ⟨o, h⟩) | h
  · exact .inl (.inl (by rw [upd_ne (fun c => by rw [c, hD] at h; cases h)]; exact h))
  · exact .inl (.inr ⟨o, by rw [upd_ne (fun c => by rw [c, hD] at h; cases h)]; exact h⟩)
  · exact .inr h
/-- a pair of a tuple of servers and a number -/
def PairAt (H0 H : Hp) (u : Addr) (ms : List Nat) (r : Nat) : Prop := H0 u = none ∧ ∃ t, H0 t = none ∧ H u = some (.tup [.ref t, .int (r : Int)]) ∧ H t = some (.tup (setV ms))
theorem PairAt.back {H0 H1 H : Hp} {u : Addr} {ms : List Nat} {r : Nat} (s : Same H0 H1) (h : PairAt H1 H u ms r) : PairAt H0 H u ms r := by
  obtain ⟨a, t, b, c⟩ := h
  exact ⟨s.free a, t, s.free b, c⟩
theorem erase_setV : ∀ (l : List Nat) (k : Nat), (setV l).eraseIdx k = setV (l.eraseIdx k)
  | [], _ => rfl
  | _ :: _, 0 => rfl
  | a :: r, k + 1 => congrArg (V.int (a : Int) :: ·) (erase_setV r k)
/-! ### is_number_word -/
def spNumW : Sp := fun vs H Q _ => ∃ x : Str, vs = [.str x] ∧ x.length ≤ sizeLine ∧ Q (.bl (numW x)) H
section
variable {P : Program} {w : World} {K : PySem.W.Frag} {mg : Str → Option Value} {base : Heap}
theorem ok_numw (T : Txt K mg) {j : Nat} : FnOk P w K mg base CX0 (j + 1) T.fNumW T.fdNumW ["word"] spNumW := by
  refine T.FNumW.ok scNumW (fun vs H Q E h => ?_) (fun cdv A outer s H vs Q E hr h => ?_)
  · obtain ⟨x, rfl, _⟩ := h
    rfl
  · obtain ⟨x, rfl, hx, q⟩ := h
    refine ⟨_, pss_cons (ps_if (PW.pt (pw_or (pt_cmpR op_gt (pe_callB call_len_str (by rfl) T.n_len PySem.boot_len (pa_cons (pv 0) pa_nil)) (pe_glob (v := .int 40) (by rfl) T.gMOST_DIGITS ⟨_, rfl⟩) (nomark _)) (pw_or (pt_not (pt_val (pe_m0 PySem.F.slot_str_isascii PySem.F.type_str_isascii mt_isascii (pv 0)))) (pw_or1 (pt_not (pt_val (pe_m0 PySem.F.slot_str_isdigit PySem.F.type_str_isdigit mt_isdigit (pv 0)))))))) (pss_one (ps_ret pe_bl)) pss_nil) (pss_one (ps_ret (pe_or (pe_cmpR op_eq (pv 0) pe_str (nomark _)) (pe_one (pe_cmpR op_ne (pe_ix ix_str (pv 0) pe_int (fun _ _ => rfl)) pe_str (nomark _)))))), ?_⟩
    have nf : ∀ {b : Bool}, numW x = b → Q (.bl b) H := fun e => by rw [← e]; exact q
    refine ⟨_, rfl, x, rfl, hx, _, _, rfl, rfl, _, rfl, ?_⟩
    refine ite2 (fun hb => ?_) (fun hb => ?_)
    · refine nf ?_
      have h1 : ¬ x.length ≤ 40 := by
        have := of_decide_eq_true hb
        omega
      unfold numW
      rw [decide_eq_false h1]
      rfl
    have h1 : x.length ≤ 40 := Nat.le_of_not_lt fun z => hb (decide_eq_true (by omega))
    refine ⟨_, rfl, ⟨x, rfl⟩, x, rfl, rfl, trivial, _, rfl, ?_⟩
    cases ha : Txt.isascii x with
    | false =>
      refine iteT (nf ?_)
      unfold numW
      rw [ha, Bool.and_false]
      rfl
    | true =>
      refine iteF ⟨_, rfl, ⟨x, rfl⟩, x, rfl, rfl, trivial, _, rfl, ?_⟩
      cases hd : Txt.isdigit x with
      | false =>
        refine iteT (nf ?_)
        unfold numW
        rw [hd, Bool.and_false]
        rfl
      | true =>
        refine iteF ?_
        refine ⟨_, rfl, rfl, _, rfl, ?_⟩
        have base : numW x = (decide (x = zeroS) || !decide (headS x = zeroS)) := by
          unfold numW
          rw [decide_eq_true h1, ha, hd]
          rfl
        refine ite2 (fun hz => ?_) (fun hz => ?_)
        · have e : x = zeroS := by
            have := of_decide_eq_true hz
            injection this
          refine nf ?_
          rw [base, decide_eq_true e]
          rfl
        · have e : ¬ x = zeroS := fun z => hz (decide_eq_true (congrArg V.str z))
          obtain ⟨c, r, hcr⟩ : ∃ c r, x.cps.toList = c :: r := by
            unfold Txt.isdigit at hd
            rw [Bool.and_eq_true] at hd
            have h3 := of_decide_eq_true hd.1
            have h4 : x.length = x.cps.toList.length := rfl
            cases q : x.cps.toList with
            | nil => rw [h4, q] at h3; exact absurd h3 (by decide)
            | cons c r => exact ⟨c, r, rfl⟩
          refine ⟨_, rfl, x, 0, c, rfl, rfl, hx, atI_nat (j := 0) (by rw [hcr]; rfl), rfl, nf ?_⟩
          have hh : headS x = ⟨#[c]⟩ := by
            unfold headS
            split
            · rename_i d r' hr'
              rw [hcr] at hr'
              injection hr' with h5
              rw [h5]
            · rename_i hr'
              rw [hcr] at hr'
              cases hr'
          rw [base, decide_eq_false e, hh, Bool.false_or]
          congr 1
          exact decide_eq_decide.mpr ⟨fun z => by rw [z]; rfl, fun z => by injection z⟩
end
/-! ### read_numbers -/
def spReadN (K : PySem.W.Frag) : Sp := fun vs H Q _ => ∃ (a : Addr) (ws : List Str), vs = [.ref a] ∧ SqL K H a (ws.map V.str) ∧ ws.length ≤ sizeLine ∧ (∀ x ∈ ws, x.length ≤ sizeLine) ∧
  (ws.all numW = true → ∀ H' t, Same H H' → H t = none → H' t = some (.tup (setV (ws.map valW))) → Q (.ref t) H') ∧ (ws.all numW = false → Q .non H)
theorem strs_get {ws : List Str} {i : Nat} {v : V} (h : (ws.map V.str)[i]? = some v) : ∃ x, ws[i]? = some x ∧ v = .str x := by
  rw [List.getElem?_map] at h
  obtain ⟨x, hx, e⟩ := Option.map_eq_some_iff.mp h
  exact ⟨x, hx, e.symm⟩
theorem take_snocT {α : Type} {l : List α} {i : Nat} {a : α} (h : l[i]? = some a) : l.take (i + 1) = l.take i ++ [a] := by
  rw [List.take_add_one, h]
  rfl
section
variable {P : Program} {w : World} {K : PySem.W.Frag} {mg : Str → Option Value} {base : Heap}
theorem ok_readn (T : Txt K mg) {j : Nat} : FnOk P w K mg base CX0 (j + 2) T.fReadN T.fdReadN ["words"] (spReadN K) := by
  refine T.FReadN.ok scReadN (fun vs H Q E h => ?_) (fun cdv A outer s H vs Q E hr h => ?_)
  · obtain ⟨a, ws, rfl, _⟩ := h
    rfl
  · obtain ⟨a, ws, rfl, hA, hl, hx, q1, q2⟩ := h
    refine ⟨_, pss_cons (ps_for PassesOwn.never rfl (pi_list (pv 0)) (pg_name (i := 1) scReadN.nd rfl (.inl rfl)) (pss_one (ps_if (pt_not (pt_val (pe_call (ok_numw T) hr (by rfl) T.gNumW T.FNumW.kp T.bNumW .nil pass0 (pa_cons (pv 1) pa_nil)))) (pss_one (ps_ret pe_non)) pss_nil))) (pss_one (ps_ret (pe_callTy (call_tupleK K) (by rfl) T.n_tuple (by decide +kernel) (pa_cons (pe_lc (own := [("word", 1)]) (g := (gName 1)) (tt := tYes) rfl scReadN.nd (pi_list (pv 0)) (blkOk_by (own := [("word", 1)]) (N := NReadN) (sc := defScope sReadN) (by decide +kernel)) (fun _ _ _ _ _ => (pg_name (i := 1) scReadN.nd rfl (.inl rfl))) (fun _ _ _ _ _ => pts_nil) (fun _ _ _ _ _ => (pe_callTy call_int_str (by rfl) T.n_int (by decide +kernel) (pa_cons (pv 1) pa_nil)))) pa_nil)))), ?_⟩
    refine ⟨.ref a, rfl, a, rfl, ⟨_, hA⟩, for_list (K := K) (a := a) (xs := ws.map V.str) (fun i σ H2 => ∃ v1, σ = [some (.ref a), v1] ∧ H2 = H ∧ (ws.take i).all numW = true) ⟨none, rfl, rfl, rfl⟩ (fun _ σ H2 _ ⟨_, _, h, _⟩ => h ▸ hA) ?_ ?_⟩
    · rintro i v σ H2 hz ⟨v1, rfl, rfl, hi⟩
      obtain ⟨x, hx2, rfl⟩ := strs_get hz
      refine ⟨_, rfl, x, rfl, hx x (List.mem_of_getElem? hx2), _, rfl, ?_⟩
      cases hn : numW x with
      | false =>
        refine iteT (q2 ?_)
        rw [List.all_eq_false]
        exact ⟨x, List.mem_of_getElem? hx2, by rw [hn]; decide⟩
      | true =>
        refine iteF ⟨_, rfl, rfl, ?_⟩
        rw [take_snocT hx2, List.all_append, hi]
        simp [hn]
    · rintro σ H2 ⟨v1, rfl, rfl, hi⟩
      rw [List.length_map, List.take_length] at hi
      refine ⟨.ref a, rfl, a, rfl, ⟨_, hA⟩, fun D nD => ?_⟩
      refine lc_list (K := K) (a := a) (xs := ws.map V.str) (fun z H3 => Same H2 H3 ∧ H3 D = some (.lst (setV ((ws.take z).map valW)))) ⟨same_new nD, upd_same⟩ (fun _ H3 _ h => h.1.seq hA) ?_ ?_
      · rintro z v H3 hz ⟨s3, hD⟩
        obtain ⟨x, hx2, rfl⟩ := strs_get hz
        have hn : numW x = true := List.all_eq_true.mp hi x (List.mem_of_getElem? hx2)
        obtain ⟨_, _, h40⟩ := numW_digits hn
        have zl := (List.getElem?_eq_some_iff.mp hx2).1
        refine ⟨rfl, _, rfl, x, _, rfl, numW_int hn, by omega, _, hD, by rw [setV_len, List.length_map, List.length_take]; omega, keep_upd s3 nD, ?_⟩
        rw [upd_same, take_snocT hx2, List.map_append, setV_app]
        rfl
      rintro H3 ⟨s3, hD⟩
      rw [List.length_map, List.take_length] at hD
      refine ⟨D, _, rfl, .inl ⟨SqL.of hD, fun t nt => ?_⟩⟩
      exact q1 hi _ t (s3.trans (same_new nt)) (s3.free nt) upd_same
end
/-! ### show_row -/
def spShowR (K : PySem.W.Frag) : Sp := fun vs H Q _ => ∃ (a : Addr) (xs : List V) (ws : List Str), vs = [.ref a] ∧ SqT K H a xs ∧ PySem.Paired WordV xs ws ∧ ws.length ≤ 1000 ∧ (∀ w ∈ ws, w.length ≤ 1000) ∧
  ∀ H', Same H H' → Q (.str (Txt.join blankS ws)) H'
theorem words_get {xs : List V} {ws : List Str} (h : PySem.Paired WordV xs ws) : ∀ {i : Nat} {v : V}, xs[i]? = some v → ∃ w, ws[i]? = some w ∧ WordV v w := by
  induction h with
  | nil => intro i v z; cases z
  | cons a _ ih =>
    intro i v z
    cases i with
    | zero =>
      obtain rfl := Option.some.inj z
      exact ⟨_, rfl, a⟩
    | succ i => exact ih z
section
variable {P : Program} {w : World} {K : PySem.W.Frag} {mg : Str → Option Value} {base : Heap}
theorem ok_showr (T : Txt K mg) {j : Nat} : FnOk P w K mg base CX0 (j + 1) T.fShowR T.fdShowR ["things"] (spShowR K) := by
  refine T.FShowR.ok scShowR (fun vs H Q E h => ?_) (fun cdv A outer s H vs Q E hr h => ?_)
  · obtain ⟨a, xs, ws, rfl, _⟩ := h
    rfl
  · obtain ⟨a, xs, ws, rfl, hA, hw, hl, hb, q⟩ := h
    refine ⟨_, pss_one (ps_ret (pe_join pe_str (pe_lc (own := [("thing", 1)]) (g := (gName 1)) (tt := tYes) rfl scShowR.nd (pi_tup (pv 0)) (blkOk_by (own := [("thing", 1)]) (N := NShowR) (sc := defScope sShowR) (by decide +kernel)) (fun _ _ _ _ _ => (pg_name (i := 1) scShowR.nd rfl (.inl rfl))) (fun _ _ _ _ _ => pts_nil) (fun _ _ _ _ _ => (pe_callTy call_strE (by rfl) T.n_str (by decide +kernel) (pa_cons (pv 1) pa_nil)))))), ?_⟩
    refine ⟨⟨blankS, rfl⟩, .ref a, rfl, a, rfl, ⟨_, hA⟩, fun D nD => ?_⟩
    refine lc_tup (a := a) (xs := xs) (fun z H2 => Same H H2 ∧ H2 D = some (.lst ((ws.take z).map V.str))) ⟨same_new nD, upd_same⟩ (fun _ H2 _ h => Same.seqT h.1 hA) ?_ ?_
    · rintro z v H2 hz ⟨s2, hD⟩
      obtain ⟨x, hx, hv⟩ := words_get hw hz
      refine ⟨rfl, v, rfl, ?_⟩
      dsimp only [tNil]
      refine hv.str ⟨_, hD, by rw [List.length_map, List.length_take, sizeLine_eq]; omega, keep_upd s2 nD, ?_⟩
      rw [upd_same, take_snocT hx, List.map_append]
      rfl
    rintro H2 ⟨s2, hD⟩
    rw [PySem.Paired.length hw, List.take_length] at hD
    refine ⟨blankS, D, ws, rfl, rfl, .inl (SqL.of hD), ?_, q _ s2⟩
    have h1 := sum_le (f := fun x : Str => x.length) hb
    show _ + ws.length * 1 ≤ _
    omega
end
/-! ### lists of tuples of servers -/
def RowsL (K : PySem.W.Frag) (H : Hp) (ts : List V) (rows : List (List Nat)) : Prop := PySem.Paired (fun v ms => ∃ t, v = V.ref t ∧ SqT K H t (setV ms)) ts rows
theorem RowsL.same {K : PySem.W.Frag} {H H' : Hp} {ts : List V} {rows : List (List Nat)} (s : Same H H') (h : RowsL K H ts rows) : RowsL K H' ts rows := PySem.Paired.mono (fun v ms ⟨t, e, z⟩ => ⟨t, e, Same.seqT s z⟩) h
theorem RowsL.app {K : PySem.W.Frag} {H : Hp} {xs ys : List V} {L M : List (List Nat)} (h : RowsL K H xs L) (g : RowsL K H ys M) : RowsL K H (xs ++ ys) (L ++ M) := by
  unfold RowsL at *
  induction h with
  | nil => exact g
  | cons a _ ih => exact .cons a ih
theorem RowsL.len {K : PySem.W.Frag} {H : Hp} {ts : List V} {rows : List (List Nat)} (h : RowsL K H ts rows) : ts.length = rows.length := by
  unfold RowsL at h
  induction h with
  | nil => rfl
  | cons _ _ ih => exact congrArg (· + 1) ih
theorem RowsL.at {K : PySem.W.Frag} {H : Hp} {ts : List V} {rows : List (List Nat)} (h : RowsL K H ts rows) : ∀ {i : Nat} {v : V}, ts[i]? = some v → ∃ ms, rows[i]? = some ms ∧ ∃ t, v = V.ref t ∧ SqT K H t (setV ms) := by
  unfold RowsL at h
  induction h with
  | nil =>
    intro i v z
    cases z
  | cons a _ ih =>
    intro i v z
    cases i with
    | zero =>
      obtain rfl := Option.some.inj z
      exact ⟨_, rfl, a⟩
    | succ i => exact ih z
theorem RowsL.mem {K : PySem.W.Frag} {H : Hp} {ts : List V} {rows : List (List Nat)} (h : RowsL K H ts rows) {v : V} (hv : v ∈ ts) : ∃ ms, ms ∈ rows ∧ ∃ t, v = V.ref t ∧ SqT K H t (setV ms) := by
  obtain ⟨i, hi⟩ := List.getElem?_of_mem hv
  obtain ⟨ms, h1, h2⟩ := h.at hi
  exact ⟨ms, List.mem_of_getElem? h1, h2⟩
def tupD (ms : List Nat) : PyData := .tuple (natD ms)
theorem natD_ints (ms : List Nat) : natD ms = (intL ms).map PyData.int := by
  unfold natD
  rw [List.map_map]
  rfl
theorem dp_tup {K : PySem.W.Frag} {H : Hp} {t : Addr} {ms : List Nat} (h : SqT K H t (setV ms)) : Dp K H (.ref t) (tupD ms) := .tup h (dp_set ms)
theorem RowsL.dp {K : PySem.W.Frag} {H : Hp} {ts : List V} {rows : List (List Nat)} (h : RowsL K H ts rows) : DpAll K H ts (rows.map tupD) := by
  unfold RowsL at h
  induction h with
  | nil => exact .nil
  | cons a _ ih =>
    obtain ⟨t, rfl, ht⟩ := a
    exact .cons (dp_tup ht) ih
theorem RowsL.pairs {K : PySem.W.Frag} {H : Hp} {ts : List V} {rows : List (List Nat)} (h : RowsL K H ts rows) : ∃ bs : List (V × PyData), bs.map (·.1) = ts ∧ bs.map (·.2) = rows.map tupD ∧ ∀ b ∈ bs, Dp K H b.1 b.2 := by
  unfold RowsL at h
  induction h with
  | nil => exact ⟨[], rfl, rfl, fun _ hb => absurd hb List.not_mem_nil⟩
  | @cons v ms _ _ a _ ih =>
    obtain ⟨t, rfl, ht⟩ := a
    obtain ⟨bs, e1, e2, e3⟩ := ih
    refine ⟨(.ref t, tupD ms) :: bs, by rw [List.map_cons, e1], by rw [List.map_cons, e2]; rfl, fun b hb => ?_⟩
    rcases List.mem_cons.mp hb with rfl | hb
    · exact dp_tup ht
    · exact e3 b hb
theorem alike_tup (xs ys : List Nat) : PySem.W.alike (tupD xs) (tupD ys) = true := by
  unfold tupD
  rw [natD_ints, natD_ints]
  exact PySem.W.alike_ints _ _
theorem depth_tup (ms : List Nat) : (tupD ms).depth ≤ 20 := by
  unfold tupD
  rw [natD_ints]
  have : (PyData.tuple ((intL ms).map PyData.int)).depth = PyData.depthAll ((intL ms).map PyData.int) + 1 := rfl
  rw [this, PySem.W.depth_ints]
  decide
theorem dLe_tup {u v : V} {xs ys : List Nat} (h : LexLe xs ys) : dLe (u, tupD xs) (v, tupD ys) = true := by
  unfold tupD
  rw [natD_ints, natD_ints, dLe_ints, decide_eq_false h]
  rfl
theorem asc_pairs : ∀ {bs : List (V × PyData)} {rows : List (List Nat)}, bs.map (·.2) = rows.map tupD → rows.Pairwise LexLe → bs.Pairwise fun a b => dLe a b = true
  | [], _, _, _ => List.Pairwise.nil
  | _ :: _, [], e, _ => by cases e
  | (u, d) :: bs, ms :: rows, e, h => by
    obtain ⟨rfl, e2⟩ := List.cons.inj e
    obtain ⟨h1, h2⟩ := List.pairwise_cons.mp h
    refine List.pairwise_cons.mpr ⟨fun b hb => ?_, asc_pairs e2 h2⟩
    have hb2 : b.2 ∈ rows.map tupD := by
      rw [← e2]
      exact List.mem_map.mpr ⟨b, hb, rfl⟩
    obtain ⟨m2, hm2, eb⟩ := List.mem_map.mp hb2
    obtain ⟨bu, bd⟩ := b
    obtain rfl : tupD m2 = bd := eb
    exact dLe_tup (h1 m2 hm2)
/-- sorted of ascending rows -/
theorem sort_rows {K : PySem.W.Frag} {H : Hp} {a : Addr} {ts : List V} {rows : List (List Nat)} {Q : VK} (hL : SqL K H a ts) (r : RowsL K H ts rows) (asc : rows.Pairwise LexLe) (ne : ∀ ms ∈ rows, ms ≠ []) (q : ∀ p, H p = none → Q (.ref p) (upd H p (.lst ts))) : rSortD K [.ref a] H Q := by
  obtain ⟨bs, e1, e2, e3⟩ := r.pairs
  refine ⟨a, bs, rfl, by rw [e1]; exact hL, e3, ?_, ?_, fun b hb => ?_, fun p np => ?_⟩
  · rw [e2]
    intro d hd d' hd'
    obtain ⟨x, _, rfl⟩ := List.mem_map.mp hd
    obtain ⟨y, _, rfl⟩ := List.mem_map.mp hd'
    exact alike_tup x y
  · rw [e2]
    refine .inl fun d hd => ?_
    obtain ⟨ms, hm, rfl⟩ := List.mem_map.mp hd
    cases ms with
    | nil => exact absurd rfl (ne [] hm)
    | cons m r => exact ⟨_, _, rfl⟩
  · have hb2 : b.2 ∈ rows.map tupD := by
      rw [← e2]
      exact List.mem_map.mpr ⟨b, hb, rfl⟩
    obtain ⟨ms, _, e⟩ := List.mem_map.mp hb2
    rw [← e]
    exact depth_tup ms
  · rw [dsort_id (asc_pairs e2 asc), e1]
    exact q p np
theorem sh_rows {d : Nat} : ∀ {rows : List (List Nat)}, (∀ r ∈ rows, r.length ≤ d ∧ ∀ x ∈ r, x < 60) → ShAll 1 ((7 * d + 1) * rows.length) (rows.map tupD)
  | [], _ => ShAll.nil.mono (by decide) (Nat.zero_le _)
  | r :: rows, h => by
    obtain ⟨h1, h2⟩ := h r List.mem_cons_self
    have a := sh_nat (b := 6) (by decide) (by decide) (ms := r) fun x hx => by
      have := h2 x hx
      omega
    have b := Sh.tup a
    have m1 : (6 + 1) * r.length ≤ 7 * d := Nat.mul_le_mul_left 7 h1
    have c := ShAll.cons (b.mono (Nat.le_refl _) m1) (sh_rows fun r' hr => h r' (List.mem_cons_of_mem _ hr))
    refine c.mono (Nat.le_refl _) ?_
    show 7 * d + 1 + (7 * d + 1) * rows.length ≤ (7 * d + 1) * (rows.length + 1)
    rw [Nat.mul_succ]
    omega
theorem hide_upd {D : Addr} {H5 H6 : Hp} {o : HO} (s : Same H5 H6) : Same (hide D H5) (hide D (upd H6 D o)) := fun b x e => by
  by_cases h : b = D
  · unfold hide at e
    rw [if_pos h] at e
    cases e
  · rw [hide_ne h] at e ⊢
    rw [upd_ne h]
    exact s b x e
/-- one more row behind a list that is being made -/
theorem RowsL.grow {K : PySem.W.Frag} {D t : Addr} {H5 H6 : Hp} {ts : List V} {rows : List (List Nat)} {ms : List Nat} {o : HO} (s : Same H5 H6) (h : RowsL K (hide D H5) ts rows) (nt : t ≠ D) (ht : H6 t = some (.tup (setV ms))) : RowsL K (hide D (upd H6 D o)) (ts ++ [V.ref t]) (rows ++ [ms]) :=
  RowsL.app (h.same (hide_upd s)) (.cons ⟨t, rfl, SqT.of (by rw [hide_ne nt, upd_ne nt]; exact ht)⟩ .nil)
theorem RowsL.show {K : PySem.W.Frag} {D : Addr} {H : Hp} {ts : List V} {rows : List (List Nat)} (h : RowsL K (hide D H) ts rows) : RowsL K H ts rows := h.same (hide_same D H)
theorem range_rows {α : Type} (f : Nat → α) (z : Nat) : (List.range (z + 1)).map f = (List.range z).map f ++ [f z] := by
  rw [List.range_succ, List.map_append]
  rfl
/-! ### NoText's __init__ -/
section
variable {P : Program} {w : World} {K : PySem.W.Frag} {mg : Str → Option Value} {base : Heap}
theorem ok_not (T : Txt K mg) {j : Nat} : FnOk P w K mg base CX0 (j + 1) T.fNoT T.fdNoT ["self", "row"] (spErr K T.cNoT "row") := by
  refine T.FNoT.ok scNoT (fun vs H Q E h => ?_) (fun cdv A outer s H vs Q E hr h => ?_)
  · obtain ⟨a, v, rfl, _⟩ := h
    rfl
  · obtain ⟨a, v, rfl, ha, q⟩ := h
    refine ⟨_, pss_cons (ps_expr (pe_baseInit (by rfl) T.gcBase T.btBase.sp T.btBase.ty T.btBase.rd T.btBase.fc (pa_cons (pv 0) (pa_cons pe_str pa_nil)))) (pss_one (ps_ost (pv 0) (pv 1))), ?_⟩
    refine ⟨.ref a, rfl, a, T.cNoT, _, rfl, (by show 1 ≤ 1000; decide), T.eNoT.ox, ha, ?_⟩
    refine ⟨v, rfl, .ref a, rfl, a, T.cNoT, rfl, T.eNoT.ox, T.eNoT.no, .inl ⟨ha, fun dx nd ne => q dx nd ne⟩⟩
end
/-! ### rows_of -/
theorem kit_str {K : PySem.W.Frag} {t : String} (h : t ∈ tyNames) : PySem.W.kitOne K (.type t) (.type "str") = some (t == "str") := by
  rcases ty_cases h with rfl | rfl | rfl | rfl | rfl | rfl | rfl <;> exact kit_ty (by decide +kernel)
def spRowsOf (K : PySem.W.Frag) (CT : Addr) : Sp := fun vs H Q E => ∃ v : V, vs = [v] ∧
  ((∃ x : Str, v = .str x ∧ x.length + 2 ≤ sizeLine ∧ ∀ H' p, Same H H' → H p = none → H' p = some (.lst ((Txt.split x lineS).map V.str)) → Q (.ref p) H') ∨
   (∃ t, TyX K H v (.type t) ∧ t ∈ tyNames ∧ (t == "str") = false ∧ Raised "row" CT (.int 0) H E))
section
variable {P : Program} {w : World} {K : PySem.W.Frag} {mg : Str → Option Value} {base : Heap}
theorem ok_rowsof (T : Txt K mg) {j : Nat} : FnOk P w K mg base (L2.CX P w) (j + 3) T.fRowsOf T.fdRowsOf ["text"] (spRowsOf K T.cNoT) := by
  refine T.FRowsOf.okX scRowsOf (fun vs H Q E h => ?_) (fun cdv A outer s H vs Q E hr h => ?_)
  · obtain ⟨v, rfl, _⟩ := h
    rfl
  · obtain ⟨v, rfl, h⟩ := h
    refine ⟨_, pss_cons (ps_if (pt_not (pt_val (pe_callB (call_isiK1 K) (by rfl) T.n_isinstance (by decide +kernel) (pa_cons (pv 0) (pa_cons (pe_bltn (v := .ty "str") (by rfl) T.n_str (by decide +kernel) rfl) pa_nil))))) (pss_one (ps_raise rfl (takes_of rfl rfl rfl rfl) (pmk_oex T.eNoT.ox T.eNoT.iC T.eNoT.tI (ok_not T) hr T.bNoT .nil pass0 (by rfl) T.gcNoT (pa_cons pe_int pa_nil)))) pss_nil) (pss_one (ps_ret (pe_split (pv 0) pe_str))), ?_⟩
    rcases h with ⟨x, rfl, hl, q⟩ | ⟨t, ty, ht, ns, q⟩
    · refine ⟨_, rfl, .str x, .ty "str", _, _, _, rfl, .ty _, .base (.str x), kit_str (t := "str") (by decide), _, rfl, ?_⟩
      refine iteF ⟨_, rfl, ⟨x, rfl⟩, x, lineS, rfl, rfl, rfl, hl, fun a na => ?_⟩
      exact q _ a (same_new na) na upd_same
    · refine ⟨_, rfl, v, .ty "str", _, _, _, rfl, .ty _, ty, kit_str ht, _, rfl, ?_⟩
      rw [ns]
      refine iteT ⟨(by show 1 ≤ 1000; decide), fun a na => ⟨a, .int 0, rfl, upd_same, fun dx nd ne => ?_⟩⟩
      obtain ⟨e1, e2, e3, e4, e5⟩ := err_end (f := "row") (v := .int 0) na nd ne
      exact ⟨rfl, dx, _, e1, e2, e3, q _ dx e4 e5 e3⟩
end
/-! ### read_fields -/
def spReadF : Sp := fun vs H Q _ => ∃ (row name : Str) (many : Nat), vs = [.str row, .str name, .int many] ∧ row.length + 2 ≤ sizeLine ∧
  (∀ ns, fieldsW row name many = some ns → ∀ H' t, Same H H' → H t = none → H' t = some (.tup (setV ns)) → Q (.ref t) H') ∧ (fieldsW row name many = none → ∀ H', Same H H' → Q .non H')
theorem cut_tail {xs : List V} (h : 1 ≤ xs.length) : cutV xs (some 1) none = xs.tail := by
  unfold cutV
  rw [show HT.sIx xs.length 0 (some (1 : Int)) = min 1 xs.length from HT.sIx_nat xs.length 0 1, show HT.sIx xs.length xs.length none = xs.length from rfl, Nat.min_eq_left h, List.drop_one]
  exact List.take_of_length_le (by rw [List.length_tail]; exact Nat.le_refl _)
section
variable {P : Program} {w : World} {K : PySem.W.Frag} {mg : Str → Option Value} {base : Heap}
theorem ok_readf (T : Txt K mg) {j : Nat} : FnOk P w K mg base CX0 (j + 3) T.fReadF T.fdReadF ["row", "name", "many"] spReadF := by
  refine T.FReadF.ok scReadF (fun vs H Q E h => ?_) (fun cdv A outer s H vs Q E hr h => ?_)
  · obtain ⟨row, name, many, rfl, _⟩ := h
    rfl
  · obtain ⟨row, name, many, rfl, hl, q1, q2⟩ := h
    refine ⟨_, pss_cons (ps_set (i := 3) scReadF.nd rfl (.inl rfl) (pe_split (pv 0) pe_str)) (pss_cons (ps_if (PW.pt (pw_or (pt_cmpR op_ne (pe_ix (ix_listK K) (pv 3) pe_int (fun _ _ => rfl)) (pv 1) (nomark _)) (pw_or1 (pt_cmpR op_ne (pe_callB (call_lenK K) (by rfl) T.n_len PySem.boot_len (pa_cons (pv 3) pa_nil)) (pe_op op_add (pv 2) pe_int) (nomark _))))) (pss_one (ps_ret pe_non)) pss_nil) (pss_one (ps_ret (pe_call (ok_readn T) hr (by rfl) T.gReadN T.FReadN.kp T.bReadN .nil pass0 (pa_cons (pe_slice (sl_listK (K := K)) (pv 3) (po_some pe_int) po_none) pa_nil))))), ?_⟩
    have n1 := split_blank row
    have hsz : (Txt.split row blankS).length ≤ sizeLine := Nat.le_trans (PyProof.Rows.split_le row blankS) hl
    have hp : ∀ p ∈ Txt.split row blankS, p.length ≤ sizeLine := fun p h => by
      have := split_part h
      omega
    refine ⟨_, rfl, ⟨row, rfl⟩, row, blankS, rfl, rfl, rfl, hl, fun a na => ?_⟩
    have hA : (upd H a (.lst ((Txt.split row blankS).map V.str))) a = some (.lst ((Txt.split row blankS).map V.str)) := upd_same
    have sA := same_new (o := .lst ((Txt.split row blankS).map V.str)) na
    dsimp only [gName]
    generalize upd H a (.lst ((Txt.split row blankS).map V.str)) = HA at sA hA ⊢
    have hn0 : ∃ w0 r, Txt.split row blankS = w0 :: r := by
      cases e : Txt.split row blankS with
      | nil => rw [e] at n1; exact absurd n1 (by decide)
      | cons w0 r => exact ⟨w0, r, rfl⟩
    obtain ⟨w0, r, e0⟩ := hn0
    have ef : fieldsW row name many = if w0 = name ∧ r.length = many ∧ r.all numW = true then some (r.map valW) else none := by
      unfold fieldsW
      rw [e0]
      show (if some w0 = some name ∧ r.length + 1 = many + 1 ∧ r.all numW = true then some (r.map valW) else none) = _
      by_cases c : w0 = name ∧ r.length = many ∧ r.all numW = true
      · rw [if_pos c, if_pos ⟨congrArg some c.1, congrArg (· + 1) c.2.1, c.2.2⟩]
      · rw [if_neg c, if_neg fun z => c ⟨Option.some.inj z.1, by omega, z.2.2⟩]
    rw [e0] at hA hsz hp
    refine ⟨.ref a, rfl, a, _, 0, .str w0, rfl, rfl, SqL.of hA, atI_nat (j := 0) rfl, _, rfl, rfl, _, rfl, ?_⟩
    refine ite2 (fun hb => ?_) (fun hb => ?_)
    · refine q2 ?_ _ sA
      rw [ef, if_neg]
      rintro ⟨h1, _⟩
      rw [h1] at hb
      simp at hb
    have h1 : w0 = name := by
      refine Classical.byContradiction fun z => hb ?_
      have : ¬ (V.str w0 = V.str name) := fun e => z (by injection e)
      rw [decide_eq_false this]
      rfl
    refine ⟨.ref a, rfl, a, _, rfl, .inl (SqL.of hA), _, rfl, ?_⟩
    refine ⟨_, _, rfl, rfl, rfl, _, rfl, ?_⟩
    refine ite2 (fun hb2 => ?_) (fun hb2 => ?_)
    · refine q2 ?_ _ sA
      rw [ef, if_neg]
      rintro ⟨_, h2, _⟩
      rw [List.length_map, List.length_cons, h2] at hb2
      simp at hb2
    have h2 : r.length = many := by
      refine Classical.byContradiction fun z => hb2 ?_
      have : ¬ (V.int (((w0 :: r).map V.str).length : Int) = V.int ((many : Int) + 1)) := fun e => by
        rw [List.length_map, List.length_cons] at e
        injection e with e
        omega
      rw [decide_eq_false this]
      rfl
    refine ⟨.ref a, rfl, (1 : Int), rfl, a, _, rfl, SqL.of hA, fun b nb => ?_⟩
    rw [cut_tail (by rw [List.length_map, List.length_cons]; omega)]
    have sb := same_new (o := .lst (((w0 :: r).map V.str).tail)) nb
    rw [List.length_cons] at hsz
    refine ⟨b, r, rfl, SqL.of upd_same, by omega, fun x hx => hp x (List.mem_cons_of_mem _ hx), fun ha H' t s' nt ht => ?_, fun ha => ?_⟩
    · exact q1 _ (by rw [ef, if_pos ⟨h1, h2, ha⟩]) H' t ((sA.trans sb).trans s') ((sA.trans sb).free nt) ht
    · refine q2 ?_ _ (sA.trans sb)
      rw [ef, if_neg]
      rintro ⟨_, _, h3⟩
      rw [ha] at h3
      cases h3
end
/-! ### read_table -/
/-- the servers of a row, if it is one of numbers -/
def orderW (row : Str) : Option (List Nat) := if (Txt.split row blankS).all numW = true then some ((Txt.split row blankS).map valW) else none
def tdW : Option (List Nat) → TD
  | none => .oth "NoneType"
  | some o => .tup (o.map fun (x : Nat) => TD.int (x : Int))
def goodW (n d : Nat) (row : Str) : Bool := listT n d (tdW (orderW row))
def tableS : Str := "table"
def headW (x : Str) : Option (Nat × Nat) := match (Txt.split x lineS).head? with
  | some r => match fieldsW r tableS 2 with
    | some [n, d] => if 2 ≤ n ∧ n ≤ 60 ∧ 1 ≤ d ∧ d ≤ n then some (n, d) else none
    | _ => none
  | none => none
theorem vts_nat {K : PySem.W.Frag} {H : Hp} : ∀ o : List Nat, VTs K H (setV o) (o.map fun (x : Nat) => TD.int (x : Int))
  | [] => .nil
  | x :: r => .cons (.int _) (vts_nat r)
theorem fields_two {row name : Str} {ns : List Nat} (h : fieldsW row name 2 = some ns) : ∃ a b, ns = [a, b] := by
  unfold fieldsW at h
  split at h
  · rename_i c
    have e := Option.some.inj h
    have l : ns.length = 2 := by
      rw [← e, List.length_map, List.length_tail, c.2.1]
    match ns, l with
    | [a, b], _ => exact ⟨a, b, rfl⟩
  · cases h
def spReadT (K : PySem.W.Frag) (CT : Addr) : Sp := fun vs H Q E => ∃ v : V, vs = [v] ∧
  ((∃ x : Str, v = .str x ∧ x.length + 2 ≤ sizeLine ∧ (headW x = none → Raised "row" CT (.int 0) H E) ∧
     (∀ n d : Nat, headW x = some (n, d) → ((Txt.split x lineS).tail = [] → Raised "row" CT (.int 1) H E) ∧
       (∀ (i : Nat) (r : Str), (Txt.split x lineS).tail[i]? = some r → (5000 ≤ i ∨ goodW n d r = false) → (∀ r' ∈ (Txt.split x lineS).tail.take i, goodW n d r' = true) → i ≤ 5000 → Raised "row" CT (.int ((i : Int) + 1)) H E) ∧
       ((Txt.split x lineS).tail ≠ [] → (Txt.split x lineS).tail.length ≤ 5000 → (∀ r ∈ (Txt.split x lineS).tail, goodW n d r = true) → ∀ H' u t ts, Same H H' → H u = none → H t = none → H' u = some (.tup [.int n, .ref t]) → H' t = some (.tup ts) → RowsL K H' ts ((Txt.split x lineS).tail.map fun r => (orderW r).getD []) → Q (.ref u) H'))) ∨
   (∃ t, TyX K H v (.type t) ∧ t ∈ tyNames ∧ (t == "str") = false ∧ Raised "row" CT (.int 0) H E))
theorem RowsL.upd50 {K : PySem.W.Frag} {H : Hp} {D : Addr} {xs : List V} {o : HO} {ts : List V} {rows : List (List Nat)} (h : RowsL K H ts rows) (hD : H D = some (.lst xs)) : RowsL K (upd H D o) ts rows :=
  PySem.Paired.mono (fun v ms ⟨t, e, z⟩ => ⟨t, e, SqT_updL z hD⟩) h
section
variable {P : Program} {w : World} {K : PySem.W.Frag} {mg : Str → Option Value} {base : Heap}
theorem ok_readt (T : Txt K mg) {j : Nat} : FnOk P w K mg base (L2.CX P w) (j + 5) T.fReadT T.fdReadT ["text"] (spReadT K T.cNoT) := by
  refine T.FReadT.okX scReadT (fun vs H Q E h => ?_) (fun cdv A outer s H vs Q E hr h => ?_)
  · obtain ⟨v, rfl, _⟩ := h
    rfl
  · obtain ⟨v, rfl, h⟩ := h
    refine ⟨_, pss_cons (ps_set (i := 1) scReadT.nd rfl (.inl rfl) (pe_call (ok_rowsof T) hr (by rfl) T.gRowsOf T.FRowsOf.kp T.bRowsOf .nil (passes_call (takes_of rfl rfl rfl rfl) (fun _ _ _ _ h => h)) (pa_cons (pv 0) pa_nil))) (pss_cons (ps_set (i := 2) scReadT.nd rfl (.inl rfl) (pe_call (ok_readf T) hr (by rfl) T.gReadF T.FReadF.kp T.bReadF .nil pass0 (pa_cons (pe_ix (ix_listK K) (pv 1) pe_int (fun _ _ => rfl)) (pa_cons pe_str (pa_cons pe_int pa_nil))))) (pss_cons (ps_if (pt_cmpR op_isN (pv 2) pe_non (nomark _)) (pss_one (ps_raise rfl (takes_of rfl rfl rfl rfl) (pmk_oex T.eNoT.ox T.eNoT.iC T.eNoT.tI (ok_not T) hr T.bNoT .nil pass0 (by rfl) T.gcNoT (pa_cons pe_int pa_nil)))) pss_nil) (pss_cons (ps_asg (pv 2) (pg_tup rfl (pgs_cons (pg_name (i := 3) scReadT.nd rfl (.inl rfl)) (pgs_cons (pg_name (i := 4) scReadT.nd rfl (.inl rfl)) pgs_nil)))) (pss_cons (ps_if (PW.pt (pw_or (pt_cmpR op_lt (pv 3) (pe_glob (v := .int 2) (by rfl) T.gLEAST_SERVERS ⟨_, rfl⟩) (nomark _)) (pw_or (pt_cmpR op_gt (pv 3) (pe_glob (v := .int 60) (by rfl) T.gMOST_SERVERS ⟨_, rfl⟩) (nomark _)) (pw_or (pt_cmpR op_lt (pv 4) pe_int (nomark _)) (pw_or1 (pt_cmpR op_gt (pv 4) (pv 3) (nomark _))))))) (pss_one (ps_raise rfl (takes_of rfl rfl rfl rfl) (pmk_oex T.eNoT.ox T.eNoT.iC T.eNoT.tI (ok_not T) hr T.bNoT .nil pass0 (by rfl) T.gcNoT (pa_cons pe_int pa_nil)))) pss_nil) (pss_cons (ps_set (i := 5) scReadT.nd rfl (.inl rfl) (pe_lst pa_nil)) (pss_cons (ps_for (passes_of rfl) rfl (pi_list (pe_slice (sl_listK (K := K)) (pv 1) (po_some pe_int) po_none)) (pg_name (i := 6) scReadT.nd rfl (.inl rfl)) (C8.pss_cut (ps_set (i := 7) scReadT.nd rfl (.inl rfl) (pe_call (ok_readn T) hr (by rfl) T.gReadN T.FReadN.kp T.bReadN .nil pass0 (pa_cons (pe_split (pv 6) pe_str) pa_nil))) (pss_cons (ps_if (PW.pt (pw_or (pt_cmpR op_ge (pe_callB (call_lenK K) (by rfl) T.n_len PySem.boot_len (pa_cons (pv 5) pa_nil)) (pe_glob (v := .int 5000) (by rfl) T.gMOST_LISTS ⟨_, rfl⟩) (nomark _)) (pw_or1 (pt_not (pt_val (pe_call (ok_isl T) hr (by rfl) T.gIsL T.FIsL.kp T.bIsL .nil pass0 (pa_cons (pv 3) (pa_cons (pv 4) (pa_cons (pv 7) pa_nil))))))))) (pss_one (ps_raise rfl (takes_of rfl rfl rfl rfl) (pmk_oex T.eNoT.ox T.eNoT.iC T.eNoT.tI (ok_not T) hr T.bNoT .nil pass0 (by rfl) T.gcNoT (pa_cons (pe_op op_add (pe_callB (call_lenK K) (by rfl) T.n_len PySem.boot_len (pa_cons (pv 5) pa_nil)) pe_int) pa_nil)))) pss_nil) (pss_one (ps_expr (pe_bm PySem.F.plainAttrs_list PySem.F.slot_list_append PySem.F.type_list_append mt_append (pv 5) (pa_cons (pv 7) pa_nil))))))) (pss_cons (ps_if (pt_cmpR op_eq (pe_callB (call_lenK K) (by rfl) T.n_len PySem.boot_len (pa_cons (pv 5) pa_nil)) pe_int (nomark _)) (pss_one (ps_raise rfl (takes_of rfl rfl rfl rfl) (pmk_oex T.eNoT.ox T.eNoT.iC T.eNoT.tI (ok_not T) hr T.bNoT .nil pass0 (by rfl) T.gcNoT (pa_cons (pe_callB (call_lenK K) (by rfl) T.n_len PySem.boot_len (pa_cons (pv 1) pa_nil)) pa_nil)))) pss_nil) (pss_one (ps_ret (pe_tup (pa_cons (pv 3) (pa_cons (pe_callTy (call_tupleK K) (by rfl) T.n_tuple (by decide +kernel) (pa_cons (pv 5) pa_nil)) pa_nil)))))))))))), ?_⟩
    rcases h with ⟨x, rfl, hl, q0, qs⟩ | ⟨t, ty, ht, ns, q⟩
    rotate_left
    · exact ⟨v, rfl, v, rfl, .inr ⟨t, ty, ht, ns, q⟩⟩
    refine ⟨.str x, rfl, .str x, rfl, .inl ⟨x, rfl, hl, fun H1 p s1 np hp => ?_⟩⟩
    have n1 := split_line x
    have hsz : (Txt.split x lineS).length ≤ sizeLine := Nat.le_trans (PyProof.Rows.split_le x lineS) hl
    have hpt : ∀ p ∈ Txt.split x lineS, p.length + 2 ≤ sizeLine := fun p h => by
      have := split_part h
      omega
    obtain ⟨w0, r, e0⟩ : ∃ w0 r, Txt.split x lineS = w0 :: r := by
      cases e : Txt.split x lineS with
      | nil => rw [e] at n1; exact absurd n1 (by decide)
      | cons w0 r => exact ⟨w0, r, rfl⟩
    have eh : headW x = match fieldsW w0 tableS 2 with
        | some [n, d] => if 2 ≤ n ∧ n ≤ 60 ∧ 1 ≤ d ∧ d ≤ n then some (n, d) else none
        | _ => none := by
      unfold headW
      rw [e0]
      rfl
    rw [e0] at hp hsz hpt qs
    dsimp only [List.tail_cons] at qs
    dsimp only [gName]
    have raiseK : ∀ {σ : L2.St} {k : Int} {H' : Hp}, Same H H' → Raised "row" T.cNoT (.int k) H E → (tMkO T.cNoT (spErr K T.cNoT "row") [] (tCons (tC (V.int k)) tNil)) σ H' (fun cls d H' => E cls d H') := fun {σ k H'} s' e => by
      refine ⟨(by show 1 ≤ 1000; decide), fun a na => ⟨a, .int k, rfl, upd_same, fun dx nd ne => ?_⟩⟩
      obtain ⟨e1, e2, e3, e4, e5⟩ := err_end (f := "row") (v := .int k) na nd ne
      exact ⟨rfl, dx, _, e1, e2, e3, e.on s' _ dx e4 e5 e3⟩
    -- the fields
    refine ⟨.ref p, rfl, p, _, 0, .str w0, rfl, rfl, SqL.of hp, atI_nat (j := 0) rfl, w0, tableS, 2, rfl, hpt w0 List.mem_cons_self, fun fs hf H2 t2 s2 nt2 ht2 => ?_, fun hf H2 s2 => ?_⟩
    rotate_left
    · refine ⟨.non, rfl, rfl, _, rfl, iteT (raiseK (k := 0) (s1.trans s2) (q0 ?_))⟩
      rw [eh, hf]
    refine ⟨.ref t2, rfl, rfl, _, rfl, iteF ?_⟩
    obtain ⟨n, d, rfl⟩ := fields_two hf
    have s02 := s1.trans s2
    have hp2 := s2 _ _ hp
    refine ⟨.ref t2, rfl, t2, _, rfl, SqT.of ht2, rfl, _, _, rfl, _, _, rfl, rfl, ?_⟩
    have no : ¬ (2 ≤ n ∧ n ≤ 60 ∧ 1 ≤ d ∧ d ≤ n) → headW x = none := fun z => by
      rw [eh, hf]
      exact if_neg z
    refine ⟨_, rfl, _, _, rfl, rfl, _, rfl, ?_⟩
    refine ite2 (fun hb => raiseK (k := 0) s02 (q0 (no fun z => ?_))) (fun hb1 => ?_)
    · have := of_decide_eq_true hb
      omega
    refine ⟨_, rfl, _, _, rfl, rfl, _, rfl, ?_⟩
    refine ite2 (fun hb => raiseK (k := 0) s02 (q0 (no fun z => ?_))) (fun hb2 => ?_)
    · have := of_decide_eq_true hb
      omega
    refine ⟨_, rfl, _, _, rfl, rfl, _, rfl, ?_⟩
    refine ite2 (fun hb => raiseK (k := 0) s02 (q0 (no fun z => ?_))) (fun hb3 => ?_)
    · have := of_decide_eq_true hb
      omega
    refine ⟨_, rfl, _, rfl, _, _, rfl, rfl, _, rfl, ?_⟩
    refine ite2 (fun hb => raiseK (k := 0) s02 (q0 (no fun z => ?_))) (fun hb4 => ?_)
    · have := of_decide_eq_true hb
      omega
    have rg : 2 ≤ n ∧ n ≤ 60 ∧ 1 ≤ d ∧ d ≤ n := by
      refine ⟨?_, ?_, ?_, ?_⟩
      · exact Nat.le_of_not_lt fun z => hb1 (decide_eq_true (by omega))
      · exact Nat.le_of_not_lt fun z => hb2 (decide_eq_true (by omega))
      · exact Nat.le_of_not_lt fun z => hb3 (decide_eq_true (by omega))
      · exact Nat.le_of_not_lt fun z => hb4 (decide_eq_true (by omega))
    obtain ⟨qe, qr, qg⟩ := qs n d (by rw [eh, hf]; exact if_pos rg)
    -- the rows
    refine ⟨Nat.zero_le _, fun D nD => ?_⟩
    have sD := same_new (o := .lst []) nD
    have hpD := sD _ _ hp2
    refine ⟨.ref p, rfl, (1 : Int), rfl, p, _, rfl, SqL.of hpD, fun b nb => ?_⟩
    rw [cut_tail (by rw [List.length_map, List.length_cons]; omega)]
    have sb := same_new (o := .lst (((w0 :: r).map V.str).tail)) nb
    have hb0 : (upd (upd H2 D (.lst [])) b (.lst (((w0 :: r).map V.str).tail))) b = some (.lst (r.map V.str)) := upd_same
    have hD0 := sb _ _ (upd_same (H := H2) (a := D) (o := .lst []))
    have hp0 := sb _ _ hpD
    have sB := sD.trans sb
    have nbD : b ≠ D := fun z => by
      rw [z, upd_same] at nb
      cases nb
    have rl : r.length ≤ sizeLine := by
      rw [List.length_cons] at hsz
      omega
    generalize upd (upd H2 D (.lst [])) b (.lst (((w0 :: r).map V.str).tail)) = HB at sb hb0 hD0 hp0 sB ⊢
    refine ⟨b, rfl, ⟨_, SqL.of hb0⟩, for_list (K := K) (a := b) (xs := r.map V.str) (fun i σ H3 => ∃ ts v6 v7, σ = [some (.str x), some (.ref p), some (.ref t2), some (.int n), some (.int d), some (.ref D), v6, v7] ∧ Same H2 H3 ∧ H3 b = some (.lst (r.map V.str)) ∧ H3 p = some (.lst ((w0 :: r).map V.str)) ∧ H3 D = some (.lst ts) ∧ RowsL K H3 ts ((r.take i).map fun r => (orderW r).getD []) ∧ (∀ r' ∈ r.take i, goodW n d r' = true) ∧ i ≤ 5000) ⟨[], none, none, rfl, sB, hb0, hp0, hD0, .nil, fun _ h => absurd h List.not_mem_nil, Nat.zero_le _⟩ (fun i σ H3 _ h => by obtain ⟨_, _, _, _, _, h, _⟩ := h; exact SqL.of h) ?_ ?_⟩
    · rintro i v σ H3 hz ⟨ts, v6, v7, rfl, s3, hb3, hp3, hD3, r3, g3, i5⟩
      obtain ⟨row, hrow, rfl⟩ := strs_get hz
      have hrm := List.mem_of_getElem? hrow
      have tl := r3.len
      rw [List.length_map, List.length_take] at tl
      have il := (List.getElem?_eq_some_iff.mp hrow).1
      have ti : ts.length = i := by omega
      refine ⟨fun σ H4 => ∃ ov, σ = [some (.str x), some (.ref p), some (.ref t2), some (.int n), some (.int d), some (.ref D), some (.str row), some ov] ∧ Same H3 H4 ∧ VT K H4 ov (tdW (orderW row)) ∧ (∀ o, orderW row = some o → ∃ t, ov = .ref t ∧ H4 t = some (.tup (setV o))), ?_, ?_⟩
      · refine ⟨_, rfl, ⟨row, rfl⟩, row, blankS, rfl, rfl, rfl, hpt row (List.mem_cons_of_mem _ hrm), fun c nc => ?_⟩
        have sc := same_new (o := .lst ((Txt.split row blankS).map V.str)) nc
        have hcl : (Txt.split row blankS).length ≤ sizeLine := Nat.le_trans (PyProof.Rows.split_le row blankS) (hpt row (List.mem_cons_of_mem _ hrm))
        have hcp : ∀ p ∈ Txt.split row blankS, p.length ≤ sizeLine := fun p h => by
          have h1 := split_part h
          have h2 := hpt row (List.mem_cons_of_mem _ hrm)
          omega
        refine ⟨c, _, rfl, SqL.of upd_same, hcl, hcp, fun ha H4 t4 s4 nt4 ht4 => ?_, fun ha => ?_⟩
        · have eo : orderW row = some ((Txt.split row blankS).map valW) := if_pos ha
          exact ⟨_, rfl, sc.trans s4, by rw [eo]; exact .tup (SqT.of ht4) (vts_nat _), fun o h => by
            rw [eo] at h
            obtain rfl := Option.some.inj h
            exact ⟨t4, rfl, ht4⟩⟩
        · have eo : orderW row = none := if_neg (by rw [ha]; decide)
          exact ⟨_, rfl, sc, by rw [eo]; exact .oth (.base .non) (by decide) rfl rfl, fun o h => by rw [eo] at h; cases h⟩
      rintro σ H4 ⟨ov, rfl, s4, vt, ho⟩
      have hD4 := s4 _ _ hD3
      have s34 := s3.trans s4
      have bad : ∀ {σ : L2.St} {H' : Hp}, σ[5]? = some (some (.ref D)) → Same H4 H' → (5000 ≤ i ∨ goodW n d row = false) → (tMkO T.cNoT (spErr K T.cNoT "row") [] (tCons (tOp (rI0 fun i j => V.int (i + j)) (tCB (rLenK K) (tCons (tVar 5) tNil)) (tC (V.int 1))) tNil)) σ H' (fun cls d H' => E cls d H') := fun {σ H'} e5 s' hb => by
        refine ⟨.ref D, e5, D, _, rfl, .inl (SqL.of (s' _ _ hD4)), _, _, rfl, rfl, (by show 1 ≤ 1000; decide), fun a na => ⟨a, _, rfl, upd_same, fun dx nd ne => ?_⟩⟩
        obtain ⟨e1, e2, e3, e4, e5⟩ := err_end (f := "row") (v := .int ((ts.length : Int) + 1)) na nd ne
        have rr := qr i row hrow hb g3 i5
        rw [← ti] at rr
        exact ⟨rfl, dx, _, e1, e2, e3, rr.on ((s02.trans s34).trans s') _ dx e4 e5 e3⟩
      refine ⟨.ref D, rfl, D, _, rfl, .inl (SqL.of hD4), _, _, rfl, rfl, _, rfl, ?_⟩
      refine ite2 (fun hb => bad rfl (Same.refl _) (.inl (by have := of_decide_eq_true hb; omega))) (fun hb => ?_)
      have hi5 : i < 5000 := by
        have : ¬ ((5000 : Int) ≤ (ts.length : Int)) := fun z => hb (decide_eq_true z)
        omega
      refine ⟨_, rfl, _, rfl, ov, rfl, (n : Int), d, ov, _, rfl, vt, by omega, fun H5 s5 => ⟨_, rfl, ?_⟩⟩
      have hD5 := s5 _ _ hD4
      cases hg : goodW n d row with
      | false =>
        have hg' : listT n d (tdW (orderW row)) = false := hg
        rw [hg']
        exact iteT (bad rfl s5 (.inr hg))
      | true =>
        have hg' : listT n d (tdW (orderW row)) = true := hg
        rw [hg']
        refine iteF ?_
        obtain ⟨o, eo⟩ : ∃ o, orderW row = some o := by
          cases e : orderW row with
          | none => rw [e] at hg'; cases hg'
          | some o => exact ⟨o, rfl⟩
        obtain ⟨t, rfl, ht⟩ := ho o eo
        have ht5 := s5 _ _ ht
        have s35 := s4.trans s5
        refine ⟨.ref D, rfl, .inl ⟨rfl, _, SqL.of hD5⟩, .ref t, rfl, D, _, _, rfl, rfl, hD5, by rw [ti, sizeLine_eq]; omega, ?_⟩
        have uD : ∀ {b o}, H5 b = some o → b ≠ D → (upd H5 D (.lst (ts ++ [V.ref t]))) b = some o := fun e ne => by
          rw [upd_ne ne]
          exact e
        refine ⟨_, _, _, rfl, keep_upd (s34.trans s5) nD, uD (s35 _ _ hb3) nbD, uD (s35 _ _ hp3) (ne_of_none hp2 nD), upd_same, ?_, ?_, by omega⟩
        · rw [take_snocT hrow, List.map_append]
          refine RowsL.app ((r3.same s35).upd50 hD5) (.cons ⟨t, rfl, ?_⟩ .nil)
          show SqT K _ t (setV ((orderW row).getD []))
          rw [eo]
          exact SqT_updL (SqT.of ht5) hD5
        · intro r' hr'
          rw [take_snocT hrow] at hr'
          rcases List.mem_append.mp hr' with h | h
          · exact g3 r' h
          · rw [List.mem_singleton.mp h]
            exact hg
    rintro σ H3 ⟨ts, v6, v7, rfl, s3, hb3, hp3, hD3, r3, g3, i5⟩
    rw [List.length_map, List.take_length] at r3 g3
    rw [List.length_map] at i5
    have tl := r3.len
    rw [List.length_map] at tl
    have s03 := s02.trans s3
    refine ⟨.ref D, rfl, D, _, rfl, .inl (SqL.of hD3), rfl, _, rfl, ?_⟩
    refine ite2 (fun hb => ?_) (fun hb => ?_)
    · have l0 : r = [] := by
        have h := of_decide_eq_true hb
        injection h with h
        exact List.length_eq_zero_iff.mp (by omega)
      refine ⟨.ref p, rfl, p, _, rfl, .inl (SqL.of hp3), (by show 1 ≤ 1000; decide), fun a na => ⟨a, _, rfl, upd_same, fun dx nd ne => ?_⟩⟩
      obtain ⟨e1, e2, e3, e4, e5⟩ := err_end (f := "row") (v := .int ((((w0 :: r).map V.str).length : Nat) : Int)) na nd ne
      have rr := qe l0
      rw [show (1 : Int) = ((((w0 :: r).map V.str).length : Nat) : Int) by rw [l0]; rfl] at rr
      exact ⟨rfl, dx, _, e1, e2, e3, rr.on s03 _ dx e4 e5 e3⟩
    have l1 : r ≠ [] := fun z => hb (decide_eq_true (by rw [tl, z]; rfl))
    refine ⟨_, rfl, .ref D, rfl, D, _, rfl, .inl ⟨SqL.of hD3, fun t nt => ⟨by show 2 ≤ sizeLine; decide, fun u nu => ?_⟩⟩⟩
    have s4 := same_new (o := .tup ts) nt
    have s5 := same_new (o := .tup [V.int (n : Int), V.ref t]) nu
    have s45 := s4.trans s5
    exact qg l1 i5 g3 _ u t ts (s03.trans s45) ((s03.trans s4).free nu) (s03.free nt) upd_same (s5 _ _ upd_same) (r3.same s45)
end
/-! ### show_table -/
def rowS (r : List Nat) : Str := Txt.join blankS (r.map natS)
def textT (n d : Nat) (rows : List (List Nat)) : Str := Txt.join lineS (Txt.join blankS [tableS, natS n, natS d] :: rows.map rowS)
theorem words_nat : ∀ {r : List Nat}, (∀ x ∈ r, x < 60) → PySem.Paired WordV (setV r) (r.map natS)
  | [], _ => .nil
  | x :: r, h => .cons (.inr ⟨x, rfl, Nat.lt_of_lt_of_le (h x List.mem_cons_self) (by decide +kernel), rfl⟩) (words_nat fun y hy => h y (List.mem_cons_of_mem _ hy))
theorem natS_short {x : Nat} (h : x ≤ 60) : (natS x).length ≤ 2 := natS_len (by decide) (by omega)
theorem rowS_len {r : List Nat} (hl : r.length ≤ 60) (h : ∀ x ∈ r, x < 60) : (rowS r).length ≤ 180 := by
  have h1 := join_len blankS (r.map natS)
  have h2 := sum_le (f := fun x : Str => x.length) (b := 2) (l := r.map natS) fun w hw => by
    obtain ⟨x, hx, rfl⟩ := List.mem_map.mp hw
    exact natS_short (by have := h x hx; omega)
  rw [List.length_map] at h1 h2
  have h3 : blankS.length = 1 := by rw [blank_mk]; rfl
  rw [h3] at h1
  show (Txt.join blankS (r.map natS)).length ≤ 180
  omega
theorem head_len {n d : Nat} (hn : n ≤ 60) (hd : d ≤ 60) : (Txt.join blankS [tableS, natS n, natS d]).length ≤ 180 := by
  have h1 := join_len blankS [tableS, natS n, natS d]
  have h3 : blankS.length = 1 := by rw [blank_mk]; rfl
  have h4 : tableS.length ≤ 5 := by decide +kernel
  have h5 := natS_short hn
  have h6 := natS_short hd
  rw [h3] at h1
  have h7 : ([tableS, natS n, natS d].map (·.length)).sum = tableS.length + ((natS n).length + ((natS d).length + 0)) := rfl
  rw [h7] at h1
  have h8 : [tableS, natS n, natS d].length = 3 := rfl
  rw [h8] at h1
  omega
def spShowT (K : PySem.W.Frag) : Sp := fun vs H Q _ => ∃ (n d : Nat) (a : Addr) (ts : List V) (rows : List (List Nat)), vs = [.int n, .ref a] ∧ SqT K H a ts ∧ RowsL K H ts rows ∧ rows.length ≤ 1000 ∧ rows ≠ [] ∧ n ≤ 60 ∧ d ≤ 60 ∧ (∀ r ∈ rows, r.length = d ∧ ∀ x ∈ r, x < 60) ∧
  ∀ H', Same H H' → Q (.str (textT n d rows)) H'
section
variable {P : Program} {w : World} {K : PySem.W.Frag} {mg : Str → Option Value} {base : Heap}
theorem ok_showt (T : Txt K mg) {j : Nat} : FnOk P w K mg base CX0 (j + 2) T.fShowT T.fdShowT ["n", "table"] (spShowT K) := by
  refine T.FShowT.ok scShowT (fun vs H Q E h => ?_) (fun cdv A outer s H vs Q E hr h => ?_)
  · obtain ⟨n, d, a, ts, rows, rfl, _⟩ := h
    rfl
  · obtain ⟨n, d, a, ts, rows, rfl, hA, R0, hl, hne, hn, hd, hrows, q⟩ := h
    have hu64 : (A.deeper (envOfC "show_table" (defScope sShowT) s.heap.objs.size T.fShowT cdv)).units + 64 < cLine := by
      have := hr.un
      omega
    refine ⟨_, pss_cons (ps_set (i := 2) scShowT.nd rfl (.inl rfl) (pe_callBK (cr_maxDf K rfl hu64) (by rfl) T.n_max (by decide +kernel) (pa_cons (pe_lc (own := [("order", 3)]) (g := (gName 3)) (tt := tYes) rfl scShowT.nd (pi_tup (pv 1)) (blkOk_by (own := [("order", 3)]) (N := NShowT) (sc := defScope sShowT) (by decide +kernel)) (fun _ _ _ _ _ => (pg_name (i := 3) scShowT.nd rfl (.inl rfl))) (fun _ _ _ _ _ => pts_nil) (fun _ _ _ _ _ => (pe_callB (call_lenK K) (by rfl) T.n_len PySem.boot_len (pa_cons (pv 3) pa_nil)))) pa_nil) (pk_cons pe_int pk_nil))) (pss_cons (ps_set (i := 4) scShowT.nd rfl (.inl rfl) (pe_op op_cat (pe_lst (pa_cons (pe_call (ok_showr T) hr (by rfl) T.gShowR T.FShowR.kp T.bShowR .nil pass0 (pa_cons (pe_tup (pa_cons pe_str (pa_cons (pv 0) (pa_cons (pv 2) pa_nil)))) pa_nil)) pa_nil)) (pe_lc (own := [("order", 3)]) (g := (gName 3)) (tt := tYes) rfl scShowT.nd (pi_tup (pv 1)) (blkOk_by (own := [("order", 3)]) (N := NShowT) (sc := defScope sShowT) (by decide +kernel)) (fun _ _ _ _ _ => (pg_name (i := 3) scShowT.nd rfl (.inl rfl))) (fun _ _ _ _ _ => pts_nil) (fun _ _ _ _ _ => (pe_call (ok_showr T) hr (by rfl) T.gShowR T.FShowR.kp T.bShowR .nil pass0 (pa_cons (pv 3) pa_nil)))))) (pss_one (ps_ret (pe_join pe_str (pv 4))))), ?_⟩
    have tl := R0.len
    refine ⟨.ref a, rfl, a, rfl, ⟨_, hA⟩, fun D nD => ?_⟩
    refine lc_tup (a := a) (xs := ts) (fun z H3 => Same H H3 ∧ H3 D = some (.lst (setV (List.replicate z d)))) ⟨same_new nD, upd_same⟩ (fun _ H3 _ h3 => Same.seqT h3.1 hA) ?_ ?_
    · rintro z v H3 hz ⟨s3, hD⟩
      obtain ⟨r, hr2, t, rfl, hT⟩ := (R0.same s3).at hz
      have hz2 : z < ts.length := (List.getElem?_eq_some_iff.mp hz).1
      refine ⟨rfl, .ref t, rfl, t, _, rfl, .inr hT, _, hD, ?_, keep_upd s3 nD, ?_⟩
      · rw [setV_len, List.length_replicate, sizeLine_eq]
        omega
      · rw [upd_same, setV_len, (hrows r (List.mem_of_getElem? hr2)).1, List.replicate_succ', setV_app]
        rfl
    rintro H3 ⟨s3, hD⟩
    have rp : 0 < rows.length := List.length_pos_iff.mpr hne
    refine ⟨D, intL (List.replicate ts.length d), _, rfl, rfl, SqL.of (by rw [hD, setV_ints]), by rw [List.length_map, List.length_replicate]; omega, fun m m1 _ => ?_⟩
    obtain ⟨x, hx, rfl⟩ := List.mem_map.mp m1
    obtain rfl : x = d := List.eq_of_mem_replicate hx
    dsimp only [gName]
    have h60 : (60 : Nat) < 2 ^ 1000 := by decide +kernel
    refine ⟨_, rfl, _, rfl, by show 3 ≤ sizeLine; decide, fun t1 n1 => ?_⟩
    have s4 := same_new (o := .tup [V.str tableS, V.int (n : Int), V.int (x : Int)]) n1
    refine ⟨t1, _, [tableS, natS n, natS x], rfl, SqT.of upd_same, .cons (.inl rfl) (.cons (.inr ⟨n, rfl, by omega, rfl⟩) (.cons (.inr ⟨x, rfl, by omega, rfl⟩) .nil)), by show 3 ≤ 1000; decide, ?_, fun H5 s5 => ?_⟩
    · intro w hw
      rcases List.mem_cons.mp hw with rfl | hw
      · exact Nat.le_trans (show tableS.length ≤ 5 by decide +kernel) (by decide)
      rcases List.mem_cons.mp hw with rfl | hw
      · have := natS_short hn; omega
      · rw [List.mem_singleton.mp hw]
        have := natS_short hd; omega
    refine ⟨by show 1 ≤ sizeLine; decide, fun l1 nl1 => ?_⟩
    have s6 := same_new (o := .lst [V.str (Txt.join blankS [tableS, natS n, natS x])]) nl1
    have h6 : (upd H5 l1 (.lst [V.str (Txt.join blankS [tableS, natS n, natS x])])) l1 = some (.lst [V.str (Txt.join blankS [tableS, natS n, natS x])]) := upd_same
    have s06 := ((s3.trans s4).trans s5).trans s6
    generalize upd H5 l1 (.lst [V.str (Txt.join blankS [tableS, natS n, natS x])]) = H6 at s6 h6 s06 ⊢
    refine ⟨.ref a, rfl, a, rfl, ⟨_, Same.seqT s06 hA⟩, fun D2 nD2 => ?_⟩
    refine lc_tup (a := a) (xs := ts) (fun z H7 => Same H6 H7 ∧ H7 D2 = some (.lst (((rows.take z).map rowS).map V.str))) ⟨same_new nD2, upd_same⟩ (fun _ H7 _ h7 => Same.seqT (s06.trans h7.1) hA) ?_ ?_
    · rintro z v H7 hz ⟨s7, hD7⟩
      obtain ⟨r, hr2, t, rfl, hT⟩ := (R0.same (s06.trans s7)).at hz
      obtain ⟨r1, r2⟩ := hrows r (List.mem_of_getElem? hr2)
      refine ⟨rfl, .ref t, rfl, t, _, r.map natS, rfl, hT, words_nat r2, by rw [List.length_map]; omega, fun w hw => ?_, fun H8 s8 => ?_⟩
      · obtain ⟨y, hy, rfl⟩ := List.mem_map.mp hw
        have := natS_short (x := y) (by have := r2 y hy; omega)
        omega
      · refine ⟨_, s8 _ _ hD7, by rw [List.length_map, List.length_map, List.length_take, sizeLine_eq]; omega, keep_upd (s7.trans s8) nD2, ?_⟩
        rw [upd_same, take_snocT hr2, List.map_append, List.map_append]
        rfl
    rintro H7 ⟨s7, hD7⟩
    rw [tl, List.take_length] at hD7
    refine ⟨l1, D2, _, _, rfl, rfl, s7 _ _ h6, hD7, by rw [List.length_map, List.length_map, sizeLine_eq]; show 1 + _ ≤ _; omega, fun l2 nl2 => ?_⟩
    have h8 : (upd H7 l2 (.lst ([V.str (Txt.join blankS [tableS, natS n, natS x])] ++ (rows.map rowS).map V.str))) l2 = some (.lst ((Txt.join blankS [tableS, natS n, natS x] :: rows.map rowS).map V.str)) := upd_same
    have s8 := same_new (o := .lst ([V.str (Txt.join blankS [tableS, natS n, natS x])] ++ (rows.map rowS).map V.str)) nl2
    dsimp only [gName]
    refine ⟨⟨lineS, rfl⟩, .ref l2, rfl, lineS, l2, _, rfl, rfl, .inl (SqL.of h8), ?_, q _ ((s06.trans s7).trans s8)⟩
    have h9 := sum_le (f := fun x : Str => x.length) (b := 180) (l := Txt.join blankS [tableS, natS n, natS x] :: rows.map rowS) fun w hw => by
      rcases List.mem_cons.mp hw with rfl | hw
      · exact head_len hn hd
      · obtain ⟨r, hr, rfl⟩ := List.mem_map.mp hw
        exact rowS_len (by rw [(hrows r hr).1]; exact hd) (hrows r hr).2
    have h10 : lineS.length = 1 := by rw [line_mk]; rfl
    rw [h10]
    rw [List.length_cons, List.length_map] at h9 ⊢
    omega
end
/-! ### the law's stream of drawn numbers -/
def StrAt (H : Hp) (p : Addr) : Prop := ∃ a b : Int, H p = some (.lst [.int a, .int b]) ∧ (0 ≤ a ∧ a < 10 ^ 900) ∧ (0 ≤ b ∧ b < 2305843009213693951)
theorem StrAt.same {H H' : Hp} {p : Addr} (h : StrAt H p) (s : Same H H') : StrAt H' p := by
  obtain ⟨a, b, h1, h2⟩ := h
  exact ⟨a, b, s _ _ h1, h2⟩
theorem StrAt.ne {H : Hp} {p q : Addr} (h : StrAt H p) (n : H q = none) : p ≠ q := by
  obtain ⟨a, b, h1, _⟩ := h
  exact ne_of_none h1 n
theorem StrAt.lst {H : Hp} {p : Addr} (h : StrAt H p) : ∃ ys, H p = some (.lst ys) := by
  obtain ⟨a, b, h1, _⟩ := h
  exact ⟨_, h1⟩
theorem StrAt.upd {H : Hp} {p q : Addr} {o : HO} (h : StrAt H p) (n : p ≠ q) : StrAt (L2.upd H q o) p := by
  obtain ⟨a, b, h1, h2⟩ := h
  exact ⟨a, b, by rw [upd_ne n]; exact h1, h2⟩
def spStream (K : PySem.W.Frag) : Sp := fun vs H Q _ => ∃ (a : Addr) (ns : List Int) (i : Nat), vs = [.ref a, .int i] ∧ SqL K H a (ns.map V.int) ∧ i ≤ 100 ∧ ns.length ≤ 1000 ∧ ∀ H' p, Same H H' → H p = none → StrAt H' p → Q (.ref p) H'
theorem own_okS (x : Int) (c : Bool) : 0 ≤ x % (10 : Int) ^ 900 * (if c then 1 else 0) ∧ x % (10 : Int) ^ 900 * (if c then 1 else 0) < 10 ^ 900 := by
  have p : (0 : Int) < 10 ^ 900 := Int.pow_pos (by decide)
  generalize (10 : Int) ^ 900 = B at p
  have h1 := Int.emod_nonneg x (show B ≠ 0 by omega)
  have h2 := Int.emod_lt_of_pos x p
  cases c with
  | true =>
    rw [if_pos rfl, Int.mul_one]
    exact ⟨h1, h2⟩
  | false =>
    rw [if_neg (by decide), Int.mul_zero]
    exact ⟨Int.le_refl _, p⟩
theorem bit_inS (c : Bool) : -(2 ^ 64) < (if c then (1 : Int) else 0) ∧ (if c then (1 : Int) else 0) < 2 ^ 64 := by
  cases c <;> decide
section
variable {P : Program} {w : World} {K : PySem.W.Frag} {mg : Str → Option Value} {base : Heap}
theorem ok_stream (T : Txt K mg) {j : Nat} : FnOk P w K mg base CX0 (j + 1) T.fStream T.fdStream ["_law_script", "_law_k"] (spStream K) := by
  refine T.FStream.ok scStream (fun vs H Q E h => ?_) (fun cdv A outer s H vs Q E hr h => ?_)
  · obtain ⟨a, ns, i, rfl, _⟩ := h
    rfl
  · obtain ⟨a, ns, i, rfl, hS, hi, hl, q⟩ := h
    refine ⟨_, C8.pss_cut (ps_set (i := 2) scStream.nd rfl (.inl rfl) (pe_ifExp (pt_cmpR op_lt (pv 1) (pe_callB (call_lenK K) (by rfl) T.n_len PySem.boot_len (pa_cons (pv 0) pa_nil)) (nomark _)) (pe_ix (ix_listK K) (pv 0) (pv 1) (fun _ _ => rfl)) (pe_op op_add (pe_op op_mul pe_int (pv 1)) (pe_callB (call_lenK K) (by rfl) T.n_len PySem.boot_len (pa_cons (pv 0) pa_nil))))) (pss_cons (ps_set (i := 3) scStream.nd rfl (.inl rfl) (pe_op op_mul (pe_op op_mod (pe_callB call_abs (by rfl) T.n_abs (by decide +kernel) (pa_cons (pv 2) pa_nil)) (pe_callTy (cr_intL T.kitDig) (by rfl) T.n_int (by decide +kernel) (pa_cons (pe_op op_add_str pe_str (pe_op op_repS pe_str pe_int)) pa_nil))) (pe_callTy call_int1 (by rfl) T.n_int (by decide +kernel) (pa_cons (pe_cmpR op_ge (pe_callB call_abs (by rfl) T.n_abs (by decide +kernel) (pa_cons (pv 2) pa_nil)) (pe_op op_pow pe_int pe_int) (nomark _)) pa_nil)))) (pss_one (ps_ret (pe_lst (pa_cons (pv 3) (pa_cons (pe_op op_mod (pe_op op_mul (pe_op op_add (pe_op op_add (pe_op op_mod (pv 2) pe_int) (pe_op op_mul (pe_op op_mul pe_int (pv 1)) (pv 1))) pe_int) pe_int) pe_int) pa_nil)))))), ?_⟩
    refine ⟨fun σ H2 => ∃ x : Int, σ = [some (.ref a), some (.int i), some (.int x), none] ∧ H2 = H, ?_, ?_⟩
    · refine ⟨_, rfl, .ref a, rfl, a, _, rfl, .inl hS, _, _, rfl, rfl, _, rfl, ite2 (fun h1 => ?_) (fun h1 => ?_)⟩
      · have hlt : i < ns.length := by
          have h2 := of_decide_eq_true h1
          rw [List.length_map] at h2
          omega
        exact ⟨.ref a, rfl, _, rfl, a, _, _, _, rfl, rfl, hS, atI_nat (v := V.int ns[i]) (by rw [List.getElem?_map, List.getElem?_eq_getElem hlt]; rfl), _, rfl, rfl⟩
      · exact ⟨_, rfl, _, _, rfl, rfl, .inl ⟨by decide, by decide⟩, .ref a, rfl, a, _, rfl, .inl hS, _, _, rfl, rfl, _, rfl, rfl⟩
    · rintro σ H2 ⟨x, rfl, rfl⟩
      refine ⟨_, rfl, _, rfl, Str.ofString "0", 900, rfl, rfl, by decide, by decide, by decide, by decide, (by show zeros900.length ≤ sizeLine; rw [zeros_len, sizeLine_eq]; decide), Str.ofString "1", zeros900, rfl, rfl, (by rw [zeros_len, sizeLine_eq]; decide), Str.ofString "1" ++ zeros900, 10 ^ 900, rfl, big_text, big_seen, (by rw [big_len]; decide), _, _, rfl, rfl, Int.pow_pos (by decide), ?_⟩
      refine ⟨_, rfl, _, rfl, _, _, rfl, rfl, ⟨by decide, by decide, by decide⟩, _, _, rfl, rfl, .inr ⟨_, rfl, _, _, rfl, rfl, .inr (bit_inS _), ?_⟩⟩
      refine ⟨_, rfl, _, rfl, _, _, rfl, rfl, (show (0 : Int) < 2305843009213693951 by decide), _, rfl, _, _, rfl, rfl, .inl ⟨by decide, by decide⟩, _, rfl, _, _, rfl, rfl, .inr ⟨by omega, by omega⟩, _, _, rfl, rfl, _, _, rfl, rfl, _, _, rfl, rfl, .inr ⟨by decide, by decide⟩, _, _, rfl, rfl, (show (0 : Int) < 2305843009213693951 by decide), ?_⟩
      refine ⟨by show 2 ≤ sizeLine; decide, fun p np => ?_⟩
      refine q _ p (same_new np) np ⟨_, _, upd_same, own_okS _ _, ⟨Int.emod_nonneg _ (by decide), Int.emod_lt_of_pos _ (by decide)⟩⟩
end
/-! ### a number drawn -/
def spDraw : Sp := fun vs H Q _ => ∃ (p : Addr) (u : Int), vs = [.ref p, .int u] ∧ StrAt H p ∧ 1 ≤ u ∧ u < 2 ^ 1000 ∧
  ∀ (r : Int) (H' : Hp), 0 ≤ r → r < u → StrAt H' p → But p H H' → Q (.int r) H'
section
variable {P : Program} {w : World} {K : PySem.W.Frag} {mg : Str → Option Value} {base : Heap}
theorem ok_draw (T : Txt K mg) {j : Nat} : FnOk P w K mg base CX0 (j + 1) T.fDraw T.fdDraw ["_law_stream_here", "_law_below"] spDraw := by
  refine T.FDraw.ok scDraw (fun vs H Q E h => ?_) (fun cdv A outer s H vs Q E hr h => ?_)
  · obtain ⟨p, u, rfl, _⟩ := h
    rfl
  · obtain ⟨p, u, rfl, ⟨a, b, hp, ha, hb⟩, hu1, hu2, q⟩ := h
    refine ⟨_, pss_cons (ps_if (pt_cmpR op_gt (pe_ix (ix_listK K) (pv 0) pe_int (fun _ _ => rfl)) pe_int (nomark _)) (pss_cons (ps_set (i := 2) scDraw.nd rfl (.inl rfl) (pe_op op_mod (pe_ix (ix_listK K) (pv 0) pe_int (fun _ _ => rfl)) (pv 1))) (pss_cons (ps_asg (pe_op op_fdivW (pe_ix (ix_listK K) (pv 0) pe_int (fun _ _ => rfl)) (pv 1)) (pg_sub (pv 0) pe_int set_list)) (pss_one (ps_ret (pv 2))))) pss_nil) (pss_cons (ps_asg (pe_op op_mod (pe_op op_add (pe_op op_mul (pe_ix (ix_listK K) (pv 0) pe_int (fun _ _ => rfl)) pe_int) pe_int) pe_int) (pg_sub (pv 0) pe_int set_list)) (pss_one (ps_ret (pe_op op_mod (pe_op op_fdiv (pe_op op_mod (pe_op op_mul (pe_op op_fdiv (pe_ix (ix_listK K) (pv 0) pe_int (fun _ _ => rfl)) pe_int) (pe_op op_add (pe_op op_mod (pe_ix (ix_listK K) (pv 0) pe_int (fun _ _ => rfl)) pe_int) pe_int)) pe_int) pe_int) (pv 1))))), ?_⟩
    refine ⟨.ref p, rfl, p, _, _, _, rfl, rfl, SqL.of hp, rfl, _, _, rfl, rfl, _, rfl, ite2 (fun h1 => ?_) (fun h1 => ?_)⟩
    · have h0 : 0 < a := of_decide_eq_true h1
      refine ⟨.ref p, rfl, p, _, _, _, rfl, rfl, SqL.of hp, rfl, _, rfl, _, _, rfl, rfl, by omega, ?_⟩
      refine ⟨.ref p, rfl, p, _, _, _, rfl, rfl, SqL.of hp, rfl, _, rfl, _, _, rfl, rfl, wide_div (b := 1000) (by omega) (by omega) (by decide) (by decide), ?_⟩
      refine ⟨.ref p, rfl, p, _, _, 0, rfl, rfl, hp, rfl, ?_⟩
      refine ⟨_, rfl, q _ _ (Int.emod_nonneg _ (by omega)) (Int.emod_lt_of_pos _ (by omega)) ⟨a / u, b, upd_same, ?_, hb⟩ (But.refl p H).upd⟩
      have h3 : a / u ≤ a := Int.ediv_le_self _ (by omega)
      exact ⟨Int.ediv_nonneg (by omega) (by omega), Int.lt_of_le_of_lt h3 ha.2⟩
    · refine ⟨.ref p, rfl, p, _, _, _, rfl, rfl, SqL.of hp, rfl, _, _, rfl, rfl, .inl ⟨by omega, by omega⟩, _, _, rfl, rfl, _, _, rfl, rfl, (show (0 : Int) < 2305843009213693951 by decide), .ref p, rfl, p, _, _, 1, rfl, rfl, hp, rfl, ?_⟩
      have c0 := Int.emod_nonneg (b * 1181783497276652981 + 12345678910987) (show (2305843009213693951 : Int) ≠ 0 by decide)
      have c1 := Int.emod_lt_of_pos (b * 1181783497276652981 + 12345678910987) (show (0 : Int) < 2305843009213693951 by decide)
      dsimp only
      generalize (b * 1181783497276652981 + 12345678910987) % 2305843009213693951 = c at c0 c1 ⊢
      have hp2 : (upd H p (.lst ([V.int a, V.int b].set 1 (V.int c)))) p = some (.lst [V.int a, V.int c]) := upd_same
      have d0 := Int.ediv_nonneg c0 (show (0 : Int) ≤ 65537 by decide)
      have d1 : c / 65537 ≤ c := Int.ediv_le_self _ c0
      refine ⟨.ref p, rfl, p, _, _, _, rfl, rfl, SqL.of hp2, rfl, _, _, rfl, rfl, ⟨by decide, by decide⟩, .ref p, rfl, p, _, _, _, rfl, rfl, SqL.of hp2, rfl, _, _, rfl, rfl, (show (0 : Int) < 65537 by decide), _, _, rfl, rfl, _, _, rfl, rfl, .inl ⟨by omega, by omega⟩, _, _, rfl, rfl, (show (0 : Int) < 2305843009213693921 by decide), _, _, rfl, rfl, ⟨by decide, by decide⟩, _, rfl, _, _, rfl, rfl, by omega, ?_⟩
      exact q _ _ (Int.emod_nonneg _ (by omega)) (Int.emod_lt_of_pos _ (by omega)) ⟨a, c, hp2, ha, c0, c1⟩ (But.refl p H).upd
end
/-! ### one of some things -/
def spPick (K : PySem.W.Frag) : Sp := fun vs H Q _ => ∃ (p a : Addr) (xs : List V), vs = [.ref p, .ref a] ∧ StrAt H p ∧ a ≠ p ∧ (SqL K H a xs ∨ SqT K H a xs) ∧ 1 ≤ xs.length ∧ xs.length ≤ 100000 ∧
  ∀ (v : V) (H' : Hp), v ∈ xs → StrAt H' p → But p H H' → Q v H'
theorem SqT_butP {K : PySem.W.Frag} {H H' : Hp} {a p : Addr} {xs ys : List V} (h : SqT K H a xs) (hp : H p = some (.lst ys)) (b : But p H H') : SqT K H' a xs := by
  rcases h with (h | ⟨o, h⟩) | h
  · exact .inl (.inl (b _ _ (fun c => by rw [c, hp] at h; cases h) h))
  · exact .inl (.inr ⟨o, b _ _ (fun c => by rw [c, hp] at h; cases h) h⟩)
  · exact .inr h
theorem SqL_butP {K : PySem.W.Frag} {H H' : Hp} {a p : Addr} {xs : List V} (h : SqL K H a xs) (n : a ≠ p) (b : But p H H') : SqL K H' a xs := by
  rcases h with (h | ⟨o, h⟩) | h
  · exact .inl (.inl (b _ _ n h))
  · exact .inl (.inr ⟨o, b _ _ n h⟩)
  · exact .inr h
section
variable {P : Program} {w : World} {K : PySem.W.Frag} {mg : Str → Option Value} {base : Heap}
theorem ok_pick (T : Txt K mg) {j : Nat} : FnOk P w K mg base CX0 (j + 2) T.fPick T.fdPick ["_law_stream_here", "_law_items"] (spPick K) := by
  refine T.FPick.ok scPick (fun vs H Q E h => ?_) (fun cdv A outer s H vs Q E hr h => ?_)
  · obtain ⟨p, a, xs, rfl, _⟩ := h
    rfl
  · obtain ⟨p, a, xs, rfl, P0, nap, hA, h1, h2, q⟩ := h
    refine ⟨_, pss_one (ps_ret (pe_ix (ix_either K) (pv 1) (pe_call (ok_draw T) hr (by rfl) T.gDraw T.FDraw.kp T.bDraw .nil pass0 (pa_cons (pv 0) (pa_cons (pe_callB (call_lenK K) (by rfl) T.n_len PySem.boot_len (pa_cons (pv 1) pa_nil)) pa_nil))) (fun _ _ => rfl))), ?_⟩
    refine ⟨.ref a, rfl, .ref p, rfl, .ref a, rfl, a, _, rfl, hA, p, _, rfl, P0, by omega, ?_, fun r H2 r0 rl P2 B2 => ?_⟩
    · exact Int.lt_trans (show ((xs.length : Nat) : Int) < 1000000 by omega) (by decide +kernel)
    obtain ⟨k, rfl⟩ := Int.eq_ofNat_of_zero_le r0
    have hk : k < xs.length := by omega
    obtain ⟨ys, hp⟩ := P0.lst
    rcases hA with hA | hA
    · exact .inl ⟨a, _, _, _, rfl, rfl, SqL_butP hA nap B2, atI_nat (List.getElem?_eq_getElem hk), q _ _ (List.getElem_mem _) P2 B2⟩
    · exact .inr ⟨a, _, _, _, rfl, rfl, SqT_butP hA hp B2, atI_nat (List.getElem?_eq_getElem hk), q _ _ (List.getElem_mem _) P2 B2⟩
end
/-! ### some things in a drawn order -/
/-- a server, or a tuple of servers -/
def TI (K : PySem.W.Frag) (H : Hp) (v : V) (d : PyData) : Prop := (∃ m : Nat, m < 60 ∧ v = .int (m : Int) ∧ d = .int (m : Int)) ∨ ∃ (t : Addr) (ms : List Nat), v = .ref t ∧ SqT K H t (setV ms) ∧ ms.length ≤ 60 ∧ (∀ x ∈ ms, x < 60) ∧ d = .tuple (natD ms)
theorem TI.dp {K : PySem.W.Frag} {H : Hp} {v : V} {d : PyData} (h : TI K H v d) : Dp K H v d := by
  rcases h with ⟨m, _, rfl, rfl⟩ | ⟨t, ms, rfl, hT, _, _, rfl⟩
  · exact .int _
  · exact .tup hT (dp_set ms)
theorem TI.sh {K : PySem.W.Frag} {H : Hp} {v : V} {d : PyData} (h : TI K H v d) : Sh 1 500 d := by
  rcases h with ⟨m, hm, rfl, rfl⟩ | ⟨t, ms, rfl, hT, hl, hx, rfl⟩
  · exact (Sh.int (b := 6) (by decide) (by decide) (i := (m : Int)) (by rw [Int.natAbs_natCast]; omega)).mono (by decide) (by decide)
  · exact sh_list hl hx
theorem SqT_but {K : PySem.W.Frag} {H H' : Hp} {a p : Addr} {xs ys : List V} (h : SqT K H a xs) (hp : H p = some (.lst ys)) (b : But p H H') : SqT K H' a xs := by
  rcases h with (h | ⟨o, h⟩) | h
  · exact .inl (.inl (b _ _ (fun c => by rw [c, hp] at h; cases h) h))
  · exact .inl (.inr ⟨o, b _ _ (fun c => by rw [c, hp] at h; cases h) h⟩)
  · exact .inr h
theorem TI.same {K : PySem.W.Frag} {H H' : Hp} {v : V} {d : PyData} (s : Same H H') (h : TI K H v d) : TI K H' v d := by
  rcases h with h | ⟨t, ms, e, hT, r⟩
  · exact .inl h
  · exact .inr ⟨t, ms, e, Same.seqT s hT, r⟩
theorem TI.updL {K : PySem.W.Frag} {H : Hp} {v : V} {d : PyData} {D : Addr} {ys : List V} {o : HO} (h : TI K H v d) (hD : H D = some (.lst ys)) : TI K (upd H D o) v d := by
  rcases h with h | ⟨t, ms, e, hT, r⟩
  · exact .inl h
  · exact .inr ⟨t, ms, e, SqT_updL hT hD, r⟩
theorem TI.but {K : PySem.W.Frag} {H H' : Hp} {v : V} {d : PyData} {p : Addr} (h : TI K H v d) (hp : StrAt H p) (b : But p H H') : TI K H' v d := by
  obtain ⟨ys, e⟩ := hp.lst
  rcases h with h | ⟨t, ms, e2, hT, r⟩
  · exact .inl h
  · exact .inr ⟨t, ms, e2, SqT_but hT e b, r⟩
def Els (K : PySem.W.Frag) (H : Hp) (xs : List V) : Prop := ∀ x ∈ xs, ∃ d, TI K H x d
theorem Els.data {K : PySem.W.Frag} {H : Hp} : ∀ {xs : List V}, Els K H xs → ∃ ds, DpAll K H xs ds ∧ ShAll 1 (501 * xs.length) ds ∧ ds.length = xs.length
  | [], _ => ⟨[], .nil, ShAll.nil.mono (by decide) (Nat.zero_le _), rfl⟩
  | x :: r, h => by
    obtain ⟨d, hd⟩ := h x List.mem_cons_self
    obtain ⟨ds, h1, h2, h3⟩ := Els.data fun y hy => h y (List.mem_cons_of_mem _ hy)
    exact ⟨d :: ds, .cons hd.dp h1, (ShAll.cons hd.sh h2).mono (Nat.le_refl _) (by rw [List.length_cons, Nat.mul_succ]; omega), congrArg (· + 1) h3⟩
theorem Els.set {K : PySem.W.Frag} {H : Hp} {ms : List Nat} (h : ∀ x ∈ ms, x < 60) : Els K H (setV ms) := fun v hv => by
  obtain ⟨m, hm, rfl⟩ := setV_mem hv
  exact ⟨_, .inl ⟨m, h m hm, rfl, rfl⟩⟩
def spShuffd (K : PySem.W.Frag) : Sp := fun vs H Q _ => ∃ (p : Addr) (a : Addr) (xs : List V), vs = [.ref p, .ref a] ∧ StrAt H p ∧ (SqL K H a xs ∨ SqT K H a xs) ∧ xs.length ≤ 1000 ∧ Els K H xs ∧
  ∀ H' q ys, But p H H' → H q = none → H' q = some (.lst ys) → ys.Perm xs → StrAt H' p → Q (.ref q) H'
def WShuffd (K : PySem.W.Frag) (p a pl pf : Addr) (xs : List V) (H : Hp) (k : Nat) (σ : L2.St) (H' : Hp) : Prop := ∃ L F : List V, σ = [some (.ref p), some (.ref a), some (.ref pl), some (.ref pf)] ∧ H' pl = some (.lst L) ∧ H' pf = some (.lst F) ∧ (F ++ L).Perm xs ∧ StrAt H' p ∧ But p H H' ∧ Els K H' xs ∧ k = L.length
section
variable {P : Program} {w : World} {K : PySem.W.Frag} {mg : Str → Option Value} {base : Heap}
theorem ok_shuffd (T : Txt K mg) {j : Nat} : FnOk P w K mg base CX0 (j + 2) T.fShuffd T.fdShuffd ["_law_stream_here", "_law_items"] (spShuffd K) := by
  refine T.FShuffd.ok scShuffd (fun vs H Q E h => ?_) (fun cdv A outer s H vs Q E hr h => ?_)
  · obtain ⟨p, a, xs, rfl, _⟩ := h
    rfl
  · obtain ⟨p, a, xs, rfl, P0, hA, hl, els, q⟩ := h
    have hu64 : (A.deeper (envOfC "_law_shuffled" (defScope sShuffd) s.heap.objs.size T.fShuffd cdv)).units + 64 < cLine := by
      have := hr.un
      omega
    refine ⟨_, pss_cons (ps_par (i := 2) (j := 3) rfl scShuffd.nd rfl rfl (by decide) rfl rfl (pa_cons (pe_callTy (call_listK K) (by rfl) T.n_list (by decide +kernel) (pa_cons (pv 1) pa_nil)) (pa_cons (pe_lst pa_nil) pa_nil)) (by rfl)) (pss_cons (ps_while PassesOwn.never (pt_cmpR (op_neDK K hu64) (pv 2) (pe_lst pa_nil) (nomark _)) (pss_one (ps_expr (pe_bm PySem.F.plainAttrs_list PySem.F.slot_list_append PySem.F.type_list_append mt_append (pv 3) (pa_cons (pe_bm PySem.F.plainAttrs_list PySem.F.slot_list_pop PySem.F.type_list_pop mt_popAt (pv 2) (pa_cons (pe_call (ok_draw T) hr (by rfl) T.gDraw T.FDraw.kp T.bDraw .nil pass0 (pa_cons (pv 0) (pa_cons (pe_callB (call_lenK K) (by rfl) T.n_len PySem.boot_len (pa_cons (pv 2) pa_nil)) pa_nil))) pa_nil)) pa_nil))))) (pss_one (ps_ret (pv 3)))), ?_⟩
    refine ⟨.ref a, rfl, a, _, rfl, hA, fun pl nl => ⟨Nat.zero_le _, fun pf nf => ⟨_, _, rfl, ?_⟩⟩⟩
    have hpl : pl ≠ p := (P0.ne nl).symm
    have P1 := P0.same (same_new (o := .lst xs) nl)
    have hpf : pf ≠ p := (P1.ne nf).symm
    have npf : pf ≠ pl := fun z => by
      rw [z, upd_same] at nf
      cases nf
    have ff : H pf = none := (same_new nl).free nf
    have s0 := (same_new (o := .lst xs) nl).trans (same_new (o := .lst []) nf)
    refine ⟨WShuffd K p a pl pf xs H, ⟨xs.length, xs, [], rfl, ?_, upd_same, List.Perm.refl _, P0.same s0, But.of s0, fun x hx => ?_, rfl⟩, ?_⟩
    · rw [upd_ne npf.symm]
      exact upd_same
    · obtain ⟨d, hd⟩ := els x hx
      exact ⟨d, hd.same s0⟩
    rintro k σ H2 ⟨L, F, rfl, hL, hF, pm, P2, B2, els2, rfl⟩
    have elsL : Els K H2 L := fun x hx => els2 x (pm.mem_iff.mp (List.mem_append_right _ hx))
    have hlen := pm.length_eq
    rw [List.length_append] at hlen
    refine ⟨.ref pl, rfl, Nat.zero_le _, fun e ne => ?_⟩
    have se := same_new (o := .lst []) ne
    obtain ⟨ds, d1, d2, d3⟩ := Els.data elsL
    have sL := (Sh.lst d2).shaped (by decide)
    refine ⟨.list ds, .list [], .lst (SqL.of (se _ _ hL)) (DpAll.mono se d1), .lst (SqL.of upd_same) .nil, sL, (Sh.lst ShAll.nil).shaped (by decide), _, rfl, ?_⟩
    have P3 := P2.same se
    have B3 := B2.same se
    have hL3 := se _ _ hL
    have hF3 := se _ _ hF
    have els3 : Els K (upd H2 e (.lst [])) xs := fun x hx => by
      obtain ⟨d, hd⟩ := els2 x hx
      exact ⟨d, hd.same se⟩
    generalize upd H2 e (.lst []) = H3 at P3 B3 hL3 hF3 els3
    cases L with
    | nil =>
      cases ds with
      | cons _ _ => cases d3
      | nil =>
        refine iteF ⟨_, rfl, ?_⟩
        rw [List.append_nil] at pm
        rw [List.length_nil, Nat.add_zero] at hlen
        exact q H3 pf F B3 ff hF3 pm P3
    | cons y r =>
      cases ds with
      | nil => cases d3
      | cons d ds =>
        refine iteT ?_
        refine ⟨WShuffd K p a pl pf xs H r.length, fun σ' H'' hw => ⟨r.length, Nat.lt_succ_self _, hw⟩, ?_⟩
        have hlr : (y :: r).length = r.length + 1 := rfl
        refine ⟨.ref pf, rfl, .inl ⟨rfl, _, SqL.of hF3⟩, .ref pl, rfl, .inl ⟨rfl, _, SqL.of hL3⟩, .ref p, rfl,   .ref pl, rfl, pl, _, rfl, .inl (SqL.of hL3), p, _, rfl, P3, by omega, ?_, fun x H7 x0 xl P7 B7 => ?_⟩
        · exact Int.lt_trans (show ((y :: r).length : Int) < 2000 by omega) (by decide +kernel)
        obtain ⟨k, rfl⟩ := Int.eq_ofNat_of_zero_le x0
        have hk : k < (y :: r).length := by omega
        have hL7 := B7 _ _ hpl hL3
        have hF7 := B7 _ _ hpf hF3
        refine ⟨pl, _, (k : Int), k, _, rfl, rfl, hL7, by omega, by omega, seq_at hk, List.getElem?_eq_getElem hk, pf, _, _, rfl, rfl, (by rw [upd_ne npf]; exact hF7), small1000 (by omega), ?_⟩
        refine ⟨(y :: r).eraseIdx k, F ++ [(y :: r)[k]], rfl, ?_, upd_same, ?_, ?_, ?_, ?_, ?_⟩
        · rw [upd_ne npf.symm, upd_same]
        · rw [List.append_assoc]
          exact ((erase_perm (y :: r) k _ (List.getElem?_eq_getElem hk)).append_left F).trans pm
        · exact (P7.upd hpl.symm).upd hpf.symm
        · exact but_new (but_new (B3.trans B7) nl) ff
        · intro x hx
          obtain ⟨d, hd⟩ := els3 x hx
          have h7 := hd.but P3 B7
          exact ⟨d, (h7.updL hL7).updL (ys := F) (by rw [upd_ne npf]; exact hF7)⟩
        · rw [List.length_eraseIdx, if_pos hk]
          omega
end
/-! ### a drawn table -/
theorem SqT_butT {K : PySem.W.Frag} {H H' : Hp} {a p : Addr} {xs ys : List V} (h : SqT K H a xs) (hp : H p = some (.lst ys)) (b : But p H H') : SqT K H' a xs := by
  rcases h with (h | ⟨o, h⟩) | h
  · exact .inl (.inl (b _ _ (fun c => by rw [c, hp] at h; cases h) h))
  · exact .inl (.inr ⟨o, b _ _ (fun c => by rw [c, hp] at h; cases h) h⟩)
  · exact .inr h
theorem RowsL.butT {K : PySem.W.Frag} {H H' : Hp} {p : Addr} {ts : List V} {rows : List (List Nat)} (h : RowsL K H ts rows) (hp : StrAt H p) (b : But p H H') : RowsL K H' ts rows := by
  obtain ⟨ys, e⟩ := hp.lst
  exact PySem.Paired.mono (fun v ms ⟨t, e1, z⟩ => ⟨t, e1, SqT_butT z e b⟩) h
theorem RowsL.updT {K : PySem.W.Frag} {H : Hp} {D : Addr} {ts ys : List V} {rows : List (List Nat)} {o : HO} (h : RowsL K H ts rows) (hD : H D = some (.lst ys)) : RowsL K (upd H D o) ts rows := PySem.Paired.mono (fun v ms ⟨t, e, z⟩ => ⟨t, e, SqT_updL z hD⟩) h
def spTableS (K : PySem.W.Frag) : Sp := fun vs H Q _ => ∃ (p : Addr) (n d : Nat), vs = [.ref p, .int n, .int d] ∧ StrAt H p ∧ n ≤ 60 ∧ d ≤ n ∧
  ∀ H' t ts rows, But p H H' → StrAt H' p → H' t = some (.tup ts) → RowsL K H' ts rows → Tab n d rows → 1 ≤ rows.length → rows.length ≤ 9 → Q (.ref t) H'
section
variable {P : Program} {w : World} {K : PySem.W.Frag} {mg : Str → Option Value} {base : Heap}
theorem ok_tables (T : Txt K mg) {j : Nat} : FnOk P w K mg base CX0 (j + 3) T.fTableS T.fdTableS ["_law_stream_here", "_law_n", "_law_depth"] (spTableS K) := by
  refine T.FTableS.ok scTableS (fun vs H Q E h => ?_) (fun cdv A outer s H vs Q E hr h => ?_)
  · obtain ⟨p, n, d, rfl, _⟩ := h
    rfl
  · obtain ⟨p, n, d, rfl, P0, hn, hd, q⟩ := h
    refine ⟨_, pss_cons (ps_set (i := 3) scTableS.nd rfl (.inl rfl) (pe_lst pa_nil)) (pss_cons (ps_for PassesOwn.never rfl (pi_range1 (by rfl) T.n_range (pa_cons (pe_op op_add pe_int (pe_call (ok_draw T) hr (by rfl) T.gDraw T.FDraw.kp T.bDraw .nil pass0 (pa_cons (pv 0) (pa_cons pe_int pa_nil)))) pa_nil)) (pg_name (i := 4) scTableS.nd rfl (.inl rfl)) (pss_one (ps_expr (pe_bm PySem.F.plainAttrs_list PySem.F.slot_list_append PySem.F.type_list_append mt_append (pv 3) (pa_cons (pe_callTy (call_tupleK K) (by rfl) T.n_tuple (by decide +kernel) (pa_cons (pe_slice (sl_listK (K := K)) (pe_call (ok_shuffd T) hr (by rfl) T.gShuffd T.FShuffd.kp T.bShuffd .nil pass0 (pa_cons (pv 0) (pa_cons (pe_listRg rfl (by rfl) T.n_list (prg_1 (by rfl) T.n_range (pv 1))) pa_nil))) po_none (po_some (pv 2))) pa_nil)) pa_nil))))) (pss_one (ps_ret (pe_callTy (call_tupleK K) (by rfl) T.n_tuple (by decide +kernel) (pa_cons (pv 3) pa_nil))))), ?_⟩
    refine ⟨Nat.zero_le _, fun F nF => ?_⟩
    have P1 := P0.same (same_new (o := .lst []) nF)
    have nFp : F ≠ p := (P0.ne nF).symm
    refine ⟨.ref p, rfl, p, 9, rfl, P1, by decide, by decide +kernel, fun r H2 r0 rl P2 B2 => ⟨_, _, rfl, rfl, _, rfl, by omega, by omega, ?_⟩⟩
    obtain ⟨k, rfl⟩ := Int.eq_ofNat_of_zero_le r0
    have hF2 : H2 F = some (.lst []) := B2 _ _ nFp upd_same
    refine for_range (lo := 0) (fun z σ H3 => ∃ (v4 : Option V) (ts : List V) (rows : List (List Nat)), σ = [some (.ref p), some (.int n), some (.int d), some (.ref F), v4] ∧ But p H H3 ∧ StrAt H3 p ∧ H3 F = some (.lst ts) ∧ RowsL K H3 ts rows ∧ Tab n d rows ∧ rows.length = z) ⟨none, [], [], rfl, (But.of (same_new nF)).trans B2, P2, hF2, .nil, fun r hr => absurd hr List.not_mem_nil, rfl⟩ ?_ ?_
    · rintro z σ H3 hz ⟨v4, ts, rows, rfl, B3, P3, hF3, r3, G3, rlz⟩
      refine ⟨.ref F, rfl, .inl ⟨rfl, _, SqL.of hF3⟩, .ref p, rfl, _, rfl, _, rfl, .of_le (by omega) (by omega) (by omega) (by omega), fun pe npe => ?_⟩
      rw [setV_range]
      have se := same_new (o := .lst (setV (List.range' 0 n))) npe
      have P4 := P3.same se
      refine ⟨p, pe, _, rfl, P4, .inl (SqL.of upd_same), by rw [setV_len, List.length_range']; omega, Els.set (fun x hx => by have := mem_range0.mp hx; omega), fun H5 q5 ys B5 n5 h5 pm P5 => ?_⟩
      obtain ⟨ks, rfl, pk⟩ := perm_setV pm
      refine ⟨_, rfl, _, rfl, q5, _, rfl, SqL.of h5, fun p6 n6 => ?_⟩
      rw [cut_take]
      refine ⟨p6, _, rfl, .inl ⟨SqL.of upd_same, fun t nt => ?_⟩⟩
      have s7 := (same_new (o := .lst (setV (ks.take d))) n6).trans (same_new (o := .tup (setV (ks.take d))) nt)
      have hT : (upd (upd H5 p6 (.lst (setV (ks.take d)))) t (.tup (setV (ks.take d)))) t = some (.tup (setV (ks.take d))) := upd_same
      have B35 : But p H3 H5 := fun b o nb e => B5 b o nb (se b o e)
      have hF7 := s7 _ _ (B35 _ _ nFp hF3)
      have r7 := (r3.butT P3 B35).same s7
      have P7 := P5.same s7
      have B7 := (B3.trans B35).same s7
      dsimp only [gName]
      generalize upd (upd H5 p6 (.lst (setV (ks.take d)))) t (.tup (setV (ks.take d))) = H7 at s7 hT hF7 r7 P7 B7 ⊢
      have tl := r3.len
      have kl := pk.length_eq
      rw [List.length_range'] at kl
      refine ⟨F, _, _, rfl, rfl, hF7, small1000 (by omega), _, ts ++ [.ref t], rows ++ [ks.take d], rfl, but_new B7 nF, P7.upd nFp.symm, upd_same, RowsL.app (r7.updT hF7) (.cons ⟨t, rfl, SqT_updL (SqT.of hT) hF7⟩ .nil), fun r hr => ?_, by rw [List.length_append, rlz]; rfl⟩
      rcases List.mem_append.mp hr with hr | hr
      · exact G3 r hr
      · rw [List.mem_singleton.mp hr]
        exact ⟨by rw [List.length_take]; omega, (pk.nodup_iff.mpr (asc_nodup (asc_range' n 0))).sublist (List.take_sublist _ _), fun x hx => mem_range0.mp (pk.mem_iff.mp (List.mem_of_mem_take hx))⟩
    · rintro σ H3 ⟨v4, ts, rows, rfl, B3, P3, hF3, r3, G3, rlz⟩
      refine ⟨.ref F, rfl, F, _, rfl, .inl ⟨SqL.of hF3, fun t nt => ?_⟩⟩
      have s4 := same_new (o := .tup ts) nt
      exact q _ t ts rows (B3.same s4) (P3.same s4) upd_same (r3.same s4) G3 (by omega) (by omega)
end
/-! ### what a reader returns or raises, told as a pair -/
/-- the error of a text that is refused: its class, its own dict with the row, and the pair that tells of it -/
def EOutR {K : PySem.W.Frag} {mg : Str → Option Value} (T : Txt K mg) (Q : VK) : XK := fun cls d H' => ∃ (d' : Addr) (v : V), d = some d' ∧ cls = .ref T.cNoT ∧ H' d' = some (.xd [("row", v)]) ∧ ∀ H2 x, Same H' H2 → H' x = none → H2 x = some (.tup [.str "row", v]) → Q (.ref x) H2
def TTOutR {K : PySem.W.Frag} {mg : Str → Option Value} (T : Txt K mg) : (XK → Hp → VK → Prop) → Hp → VK → Prop := fun tl H Q => ∀ H0 Q', Same H H0 → (∀ v H1, (∀ H2 x, Same H1 H2 → H1 x = none → H2 x = some (.tup [.str "returned", v]) → Q (.ref x) H2) → Q' v H1) → tl (EOutR T Q) H0 Q'
theorem gives_readl {X : Cx} {K : PySem.W.Frag} {mg : Str → Option Value} (T : Txt K mg) (hK : X.K = K) (hmg : X.mg = mg) {cdg : Value} {q : Str} : LamX.GivesTo X NReadL "_law_read" (defScope sReadL) T.fReadL cdg (defBody sReadL) "_law_ask" q (TTOutR T) := by
  subst hK hmg
  intro f c' s H Q tl act hc h
  refine ⟨_, pss_cons (ps_asg (pe_tup (pa_cons pe_non (pa_cons pe_non pa_nil))) (pg_tup rfl (pgs_cons (pg_name (i := 1) scReadL.nd rfl (.inl rfl)) (pgs_cons (pg_name (i := 2) scReadL.nd rfl (.inl rfl)) pgs_nil)))) (pss_cons (ps_try_keep (i := 3) (Wout := fun _ _ _ _ => False) rfl rfl rfl scReadL.nd rfl rfl ⟨rfl, by decide, Or.inl T.gcBase⟩ takesF (fun W pn xe tk _ => (pss_one (ps_set (i := 2) scReadL.nd rfl (.inl rfl) (pe_actE 5 tk (fun E W' tk' hE => act W' pn xe E _ _ tk' hE))))) (fun _ _ _ _ _ _ _ => (pss_one (ps_set (i := 1) scReadL.nd rfl (.inl rfl) (pv 3))))) (pss_cons (ps_if (pt_cmpR op_isN (pv 1) pe_non (nomark _)) (pss_one (ps_ret (pe_tup (pa_cons pe_str (pa_cons (pv 2) pa_nil))))) pss_nil) (pss_cons (ps_set (i := 4) scReadL.nd rfl (.inl rfl) (pe_and (pe_callB call_isX (by rfl) T.n_isinstance (by decide +kernel) (pa_cons (pv 1) (pa_cons (pe_glob (v := .ref T.cNoT) (by rfl) T.gcNoT rfl) pa_nil))) (pe_one (pe_callB call_isX (by rfl) T.n_isinstance (by decide +kernel) (pa_cons (pv 1) (pa_cons (pe_bltn (v := .ty "ValueError") (by rfl) T.n_ValueError (by decide +kernel) rfl) pa_nil)))))) (pss_one (ps_ret (pe_ifExp (pt_val (pv 4)) (pe_tup (pa_cons pe_str (pa_cons (pe_fldX (pv 1)) pa_nil))) (pe_tup (pa_cons pe_str (pa_cons pe_non pa_nil))))))))), ?_⟩
  refine ⟨by show 2 ≤ sizeLine; decide, fun t0 n0 => ?_⟩
  have s0 := same_new (o := .tup [V.non, V.non]) n0
  refine ⟨t0, _, rfl, SqT.of upd_same, rfl, _, _, rfl, _, _, rfl, rfl, ?_⟩
  refine ⟨EOutR T Q, fun cls d σ' H' he hlen => ?_, rfl, s0 _ _ hc, ?_⟩
  · obtain ⟨d', v, rfl, rfl, hd, hq⟩ := he
    obtain ⟨a1, a2, a3, a4, a5, rfl⟩ := len5 hlen
    refine ⟨true, T.eNoT.ex, fun _ e ne => ?_, fun z => nomatch z⟩
    have s2 := same_new (o := exk e (.ref T.cNoT) (some d')) ne
    have ea : (upd H' e (exk e (.ref T.cNoT) (some d'))) e = some (exk e (.ref T.cNoT) (some d')) := upd_same
    have ed : (upd H' e (exk e (.ref T.cNoT) (some d'))) d' = some (.xd [("row", v)]) := s2 _ _ hd
    refine ⟨.ref e, rfl, ?_⟩
    refine ⟨.ref e, rfl, rfl, _, rfl, iteF ?_⟩
    refine ⟨.ref e, rfl, e, T.cNoT, d', _, _, _, _, rfl, ea, ed, T.eNoT.ec, .own _, T.kit_NoT_NoT, ?_⟩
    refine ⟨_, rfl, iteT ?_⟩
    refine ⟨.ref e, rfl, e, T.cNoT, d', _, _, _, _, rfl, ea, ed, T.eNoT.ec, .ty _, T.kSV_NoT, ?_⟩
    refine ⟨_, rfl, _, rfl, iteT ?_⟩
    refine ⟨.ref e, rfl, e, T.cNoT, d', _, v, rfl, ea, ed, T.eNoT.xf, T.eNoT.no, rfl, (by show 2 ≤ sizeLine; decide), fun x nx => ?_⟩
    exact hq _ x (s2.trans (same_new nx)) (s2.free nx) upd_same
  · refine h _ _ s0 fun v H1 hq => ?_
    refine ⟨_, rfl, rfl, _, rfl, iteT ?_⟩
    refine ⟨v, rfl, (by show 2 ≤ sizeLine; decide), fun p np => ?_⟩
    exact hq _ p (same_new np) np upd_same
/-! ### the integer that a word writes -/
def numV (x : Str) : V := if numW x = true then .int ((valW x : Nat) : Int) else .non
def digitB (c : Nat) : Bool := decide (c ∈ ("0123456789" : Str).cps.toList)
theorem digitB_iff (c : Nat) : digitB c = true ↔ 48 ≤ c ∧ c ≤ 57 := by
  unfold digitB
  have e : ("0123456789" : Str).cps.toList = [48, 49, 50, 51, 52, 53, 54, 55, 56, 57] := by decide +kernel
  rw [e, decide_eq_true_eq]
  simp only [List.mem_cons, List.not_mem_nil, or_false]
  omega
theorem digitB_all {x : Str} : x.cps.toList.all digitB = true ↔ PySem.NumText.AllDigits x.cps.toList := by
  rw [List.all_eq_true]
  exact ⟨fun h c hc => (digitB_iff c).mp (h c hc), fun h c hc => (digitB_iff c).mpr (h c hc)⟩
theorem numW_no {x : Str} (h : x.cps.toList.all digitB = false) : numW x = false := by
  cases e : numW x with
  | false => rfl
  | true =>
    have := digitB_all.mpr (numW_digits e).1
    rw [h] at this
    cases this
theorem numW_yes {x : Str} (h : x.cps.toList.all digitB = true) (h1 : 1 ≤ x.length) (h4 : x.length ≤ 40) : numW x = !(decide (1 < x.length) && decide (headS x = zeroS)) := by
  have hd := digitB_all.mp h
  have ha : Txt.isascii x = true := by
    unfold Txt.isascii
    rw [← Array.all_toList, List.all_eq_true]
    intro c hc
    have := hd c hc
    exact decide_eq_true (by omega)
  have hg : Txt.isdigit x = true := by
    unfold Txt.isdigit
    rw [Bool.and_eq_true]
    refine ⟨decide_eq_true h1, ?_⟩
    rw [← Array.all_toList, List.all_eq_true]
    intro c hc
    exact dig_back c (hd c hc).1 (hd c hc).2
  unfold numW
  rw [decide_eq_true h4, ha, hg]
  show (decide (x = zeroS) || !decide (headS x = zeroS)) = _
  by_cases hh : headS x = zeroS
  · rw [decide_eq_true hh, Bool.and_true, Bool.not_true, Bool.or_false]
    have hl : x.length = x.cps.toList.length := rfl
    by_cases hz : x = zeroS
    · rw [decide_eq_true hz, hz]
      decide +kernel
    · have : 1 < x.length := by
        refine Classical.byContradiction fun z => hz ?_
        have e1 : x.length = 1 := by omega
        unfold headS at hh
        split at hh
        · rename_i c r hr
          rw [hl, hr] at e1
          have r0 : r = [] := List.length_eq_zero_iff.mp (by rw [List.length_cons] at e1; omega)
          rw [← hh]
          rw [r0] at hr
          have : x.cps = #[c] := Array.toList_inj.mp hr
          cases x
          exact congrArg Str.mk this
        · exact hh
      rw [decide_eq_true this, decide_eq_false hz]
      rfl
  · rw [decide_eq_false hh, Bool.and_false]
    simp
def spLInt : Sp := fun vs H Q _ => ∃ x : Str, vs = [.str x] ∧ x.length ≤ sizeLine ∧ ∀ H', Same H H' → Q (numV x) H'
section
variable {P : Program} {w : World} {K : PySem.W.Frag} {mg : Str → Option Value} {base : Heap}
theorem ok_lint (T : Txt K mg) {j : Nat} : FnOk P w K mg base CX0 (j + 1) T.fLInt T.fdLInt ["_law_word"] spLInt := by
  refine T.FLInt.ok scLInt (fun vs H Q E h => ?_) (fun cdv A outer s H vs Q E hr h => ?_)
  · obtain ⟨x, rfl, _⟩ := h
    rfl
  · obtain ⟨x, rfl, hx, q⟩ := h
    refine ⟨_, pss_cons (ps_if (PW.pt (pw_or (pt_not (pt_chain op_le op_le pe_int (pe_callB call_len_str (by rfl) T.n_len PySem.boot_len (pa_cons (pv 0) pa_nil)) pe_int)) (pw_or1 (pt_not (pt_val (pe_callB (cr_allK K) (by rfl) T.n_all (by decide +kernel) (pa_cons (pe_lc (own := [("_law_sign", 1)]) (g := (gName 1)) (tt := tYes) rfl scLInt.nd (pi_str (pv 0)) (blkOk_by (own := [("_law_sign", 1)]) (N := NLInt) (sc := defScope sLInt) (by decide +kernel)) (fun _ _ _ _ _ => (pg_name (i := 1) scLInt.nd rfl (.inl rfl))) (fun _ _ _ _ _ => pts_nil) (fun _ _ _ _ _ => (pe_cmpR op_in_str (pv 1) pe_str (by rfl)))) pa_nil))))))) (pss_one (ps_ret pe_non)) pss_nil) (pss_one (ps_ret (pe_ifExp (PW.pt (pw_and (pt_cmpR op_gt (pe_callB call_len_str (by rfl) T.n_len PySem.boot_len (pa_cons (pv 0) pa_nil)) pe_int (nomark _)) (pw_and1 (pt_cmpR op_eq (pe_ix ix_str (pv 0) pe_int (fun _ _ => rfl)) pe_str (nomark _))))) pe_non (pe_callTy call_int_str (by rfl) T.n_int (by decide +kernel) (pa_cons (pv 0) pa_nil))))), ?_⟩
    have qno : numW x = false → ∀ H', Same H H' → Q .non H' := fun e H' s => by
      have := q H' s
      unfold numV at this
      rw [e] at this
      exact this
    refine ⟨_, rfl, x, rfl, hx, _, _, rfl, rfl, _, rfl, ?_⟩
    have short : numW x = true → 1 ≤ x.length ∧ x.length ≤ 40 := fun e => by
      obtain ⟨_, h1, h2⟩ := numW_digits e
      refine ⟨?_, h2⟩
      show 1 ≤ x.cps.toList.length
      exact List.length_pos_iff.mpr h1
    have nof : ∀ {b : Bool}, (numW x = true → b = true) → b = false → numW x = false := fun {b} h e => by
      cases n : numW x with
      | false => rfl
      | true => exact absurd (h n) (by rw [e]; decide)
    refine ite2 (fun h1 => ?_) (fun h1 => ?_)
    rotate_left
    · refine ⟨_, rfl, iteT (iteT (qno (nof (b := decide (1 ≤ ((x.length : Nat) : Int))) (fun e => decide_eq_true (by have := short e; omega)) (Bool.not_eq_true _ ▸ h1)) H (Same.refl H)))⟩
    have l1 : 1 ≤ x.length := by
      have := of_decide_eq_true h1
      omega
    refine ⟨_, _, rfl, rfl, _, rfl, ?_⟩
    cases h4 : decide (((x.length : Nat) : Int) ≤ 40) with
    | false =>
      refine iteT (iteT (qno (nof (fun e => decide_eq_true (by have := short e; omega)) h4) H (Same.refl H)))
    | true =>
      have l4 : x.length ≤ 40 := by
        have := of_decide_eq_true h4
        omega
      refine iteF ⟨_, rfl, x, rfl, fun D nD => ?_⟩
      refine lc_it walk_str (fun z H3 => Same H H3 ∧ H3 D = some (.lst (((x.cps.toList.take z).map digitB).map V.bl))) ⟨same_new nD, upd_same⟩ (fun _ _ _ _ => True.intro) ?_ ?_
      · rintro z v H3 H3' hz ⟨s3, hD⟩ ⟨rfl, c, hc, rfl⟩
        have hc2 : x.cps.toList[z]? = some c := by rw [Array.getElem?_toList]; exact hc
        refine ⟨rfl, _, rfl, _, _, rfl, rfl, ?_⟩
        have zl : z < x.cps.toList.length := hz
        have xl : x.cps.toList.length ≤ 40 := l4
        refine ⟨_, hD, by rw [List.length_map, List.length_map, List.length_take, sizeLine_eq]; omega, keep_upd s3 nD, ?_⟩
        have e1 : x.cps.toList.take (z + 1) = x.cps.toList.take z ++ [c] := by
          rw [List.take_add_one, hc2]
          rfl
        rw [upd_same, e1, List.map_append, List.map_append, StrLaws.found_one]
        rfl
      rintro H3 ⟨s3, hD⟩
      have hD2 : H3 D = some (.lst ((x.cps.toList.map digitB).map V.bl)) := by
        rw [show x.cps.size = x.cps.toList.length from rfl, List.take_length] at hD
        exact hD
      refine ⟨D, _, rfl, SqL.of hD2, _, rfl, ?_⟩
      have ee : (x.cps.toList.map digitB).all id = x.cps.toList.all digitB := by rw [List.all_map]; rfl
      cases ha : (x.cps.toList.map digitB).all id with
      | false => exact iteT (qno (numW_no (ee ▸ ha)) H3 s3)
      | true =>
        have nw := numW_yes (ee ▸ ha) l1 l4
        refine iteF ⟨_, rfl, x, rfl, hx, _, _, rfl, rfl, _, rfl, ?_⟩
        have yes : numW x = true → Q (.int ((valW x : Nat) : Int)) H3 := fun e => by
          have := q H3 s3
          unfold numV at this
          rw [e] at this
          exact this
        cases h2 : decide ((1 : Int) < ((x.length : Nat) : Int)) with
        | false =>
          have d1 : decide (1 < x.length) = false := decide_eq_false (by have := of_decide_eq_false h2; omega)
          rw [d1] at nw
          exact iteF (iteF ⟨_, rfl, x, _, rfl, numW_int nw, by omega, yes nw⟩)
        | true =>
          have d1 : decide (1 < x.length) = true := decide_eq_true (by have := of_decide_eq_true h2; omega)
          rw [d1, Bool.true_and] at nw
          obtain ⟨c, r, hcr⟩ : ∃ c r, x.cps.toList = c :: r := by
            have h5 : x.length = x.cps.toList.length := rfl
            cases e : x.cps.toList with
            | nil => rw [h5, e] at l1; exact absurd l1 (by decide)
            | cons c r => exact ⟨c, r, rfl⟩
          have hh : headS x = ⟨#[c]⟩ := by
            unfold headS
            split
            · rename_i d r' hr'
              rw [hcr] at hr'
              injection hr' with h5
              rw [h5]
            · rename_i hr'
              rw [hcr] at hr'
              cases hr'
          refine iteT ⟨_, rfl, x, 0, c, rfl, rfl, hx, atI_nat (j := 0) (by rw [hcr]; rfl), rfl, _, rfl, ?_⟩
          refine ite2 (fun hb => ?_) (fun hb => ?_)
          · have e : headS x = zeroS := by
              rw [hh]
              have := of_decide_eq_true hb
              injection this
            refine qno ?_ H3 s3
            rw [nw, decide_eq_true e]
            rfl
          · have e : ¬ headS x = zeroS := fun z => hb (decide_eq_true (by rw [← hh, z]; rfl))
            rw [decide_eq_false e] at nw
            exact ⟨_, rfl, x, _, rfl, numW_int nw, by omega, yes nw⟩
end
/-! ### the integers that words write -/
def spLInts (K : PySem.W.Frag) : Sp := fun vs H Q _ => ∃ (a : Addr) (ws : List Str), vs = [.ref a] ∧ SqL K H a (ws.map V.str) ∧ ws.length ≤ sizeLine ∧ (∀ x ∈ ws, x.length ≤ sizeLine) ∧
  (ws.all numW = true → ∀ H' t, Same H H' → H t = none → H' t = some (.lst (setV (ws.map valW))) → Q (.ref t) H') ∧ (ws.all numW = false → ∀ H', Same H H' → Q .non H')
section
variable {P : Program} {w : World} {K : PySem.W.Frag} {mg : Str → Option Value} {base : Heap}
theorem ok_lints (T : Txt K mg) {j : Nat} : FnOk P w K mg base CX0 (j + 2) T.fLInts T.fdLInts ["_law_words"] (spLInts K) := by
  refine T.FLInts.ok scLInts (fun vs H Q E h => ?_) (fun cdv A outer s H vs Q E hr h => ?_)
  · obtain ⟨a, ws, rfl, _⟩ := h
    rfl
  · obtain ⟨a, ws, rfl, hA, hl, hx, q1, q2⟩ := h
    refine ⟨_, pss_cons (ps_setLc (i := 1) (own := [("_law_word", 2)]) (g := (gName 2)) (tt := tYes) rfl scLInts.nd rfl rfl (sw_true rfl rfl rfl (by decide +kernel)) (pi_list (pv 0)) (blkOk_by (own := [("_law_word", 2)]) (N := NLInts) (sc := defScope sLInts) (by decide +kernel)) (fun _ _ _ _ _ => (pg_name (i := 2) scLInts.nd rfl (.inl rfl))) (fun _ _ _ _ _ => pts_nil) (fun _ _ _ _ _ => (pe_call (ok_lint T) hr (by rfl) T.gLInt T.FLInt.kp T.bLInt .nil pass0 (pa_cons (pv 2) pa_nil)))) (pss_one (ps_ret (pe_ifExp (pt_cmpR (op_inK K) pe_non (pv 1) (by rfl)) pe_non (pv 1)))), ?_⟩
    refine ⟨.ref a, rfl, a, rfl, ⟨_, hA⟩, fun D nD => ?_⟩
    refine lc_list (K := K) (a := a) (xs := ws.map V.str) (fun z H3 => Same H H3 ∧ H3 D = some (.lst ((ws.take z).map numV))) ⟨same_new nD, upd_same⟩ (fun _ H3 _ h => h.1.seq hA) ?_ ?_
    · rintro z v H3 hz ⟨s3, hD⟩
      obtain ⟨x, hx2, rfl⟩ := strs_get hz
      have zl := (List.getElem?_eq_some_iff.mp hx2).1
      refine ⟨rfl, _, rfl, x, rfl, hx x (List.mem_of_getElem? hx2), fun H4 s4 => ?_⟩
      refine ⟨_, s4 _ _ hD, by rw [List.length_map, List.length_take]; omega, keep_upd (s3.trans s4) nD, ?_⟩
      rw [upd_same, take_snocT hx2, List.map_append]
      rfl
    rintro H3 ⟨s3, hD⟩
    rw [List.length_map, List.take_length] at hD
    refine ⟨_, rfl, D, _, rfl, .inl (SqL.of hD), rfl, ?_, _, rfl, ?_⟩
    · rw [List.all_map, List.all_eq_true]
      intro x _
      show flatV (numV x) = true
      unfold numV
      split <;> rfl
    have hin : inV .non (ws.map numV) = !ws.all numW := by
      unfold inV
      rw [List.any_map, List.all_eq_not_any_not, Bool.not_not]
      refine congrArg (fun f => ws.any f) (funext fun x => ?_)
      show eqV (numV x) .non = !numW x
      unfold numV
      cases numW x <;> rfl
    cases hn : ws.all numW with
    | true =>
      have e : ws.map numV = setV (ws.map valW) := by
        unfold setV
        rw [List.map_map]
        refine List.map_congr_left fun x hx => ?_
        unfold numV
        rw [List.all_eq_true.mp hn x hx]
        rfl
      rw [hn] at hin
      cases h : inV .non (ws.map numV) with
      | true => rw [h] at hin; cases hin
      | false =>
      refine iteF ⟨_, rfl, ?_⟩
      rw [e] at hD
      exact q1 hn H3 D s3 nD hD
    | false =>
      rw [hn] at hin
      cases h : inV .non (ws.map numV) with
      | false => rw [h] at hin; cases hin
      | true =>
      refine iteT ?_
      exact q2 hn H3 s3
end
/-! ### a text with one change -/
def spLBent (K : PySem.W.Frag) : Sp := fun vs H Q _ => ∃ (p : Addr) (x : Str), vs = [.ref p, .str x] ∧ StrAt H p ∧ x.length ≤ 100000 ∧ ∀ (H' : Hp) (y : Str), But p H H' → StrAt H' p → y.length ≤ 3 * x.length + 100 → Q (.str y) H'
/-- the weight of some rows -/
def wtS (ys : List Str) : Nat := (ys.map (·.length)).sum + ys.length
theorem wtS_app (a b : List Str) : wtS (a ++ b) = wtS a + wtS b := by
  unfold wtS
  rw [List.map_append, List.sum_append, List.length_append]
  omega
theorem wtS_cons (a : Str) (b : List Str) : wtS (a :: b) = a.length + 1 + wtS b := by
  unfold wtS
  rw [List.map_cons, List.sum_cons, List.length_cons]
  omega
theorem wtS_mem : ∀ {ys : List Str} {y : Str}, y ∈ ys → y.length + 1 ≤ wtS ys
  | a :: r, y, h => by
    rw [wtS_cons]
    rcases List.mem_cons.mp h with rfl | h
    · omega
    · have := wtS_mem h
      omega
theorem wtS_erase : ∀ (ys : List Str) (i : Nat), wtS (ys.eraseIdx i) ≤ wtS ys
  | [], _ => Nat.le_refl _
  | a :: r, 0 => by rw [wtS_cons]; show wtS r ≤ _; omega
  | a :: r, i + 1 => by
    show wtS (a :: r.eraseIdx i) ≤ _
    have := wtS_erase r i
    rw [wtS_cons, wtS_cons]
    omega
theorem wtS_set : ∀ (ys : List Str) (i : Nat) (v : Str), wtS (ys.set i v) ≤ wtS ys + v.length
  | [], _, _ => Nat.le_add_right _ _
  | a :: r, 0, v => by
    show wtS (v :: r) ≤ _
    rw [wtS_cons, wtS_cons]
    omega
  | a :: r, i + 1, v => by
    show wtS (a :: r.set i v) ≤ _
    have := wtS_set r i v
    rw [wtS_cons, wtS_cons]
    omega
theorem wtS_ins (ys : List Str) (i : Nat) (v : Str) : wtS (ys.take i ++ [v] ++ ys.drop i) = wtS ys + v.length + 1 := by
  have e : wtS (ys.take i) + wtS (ys.drop i) = wtS ys := by rw [← wtS_app, List.take_append_drop]
  have e2 : wtS [v] = v.length + 1 := by rw [wtS_cons]; rfl
  rw [wtS_app, wtS_app, e2]
  omega
theorem wtS_split (x y : Str) (hy : 1 ≤ y.length) : wtS (Txt.split x y) ≤ x.length + 1 := split_weight x y hy
theorem wtS_join {y : Str} (hy : y.length ≤ 1) (ys : List Str) : (Txt.join y ys).length ≤ wtS ys := by
  have h := join_len y ys
  have : ys.length * y.length ≤ ys.length := Nat.le_trans (Nat.mul_le_mul_left _ hy) (Nat.le_of_eq (Nat.mul_one _))
  unfold wtS
  omega
theorem erase_map : ∀ (ys : List Str) (i : Nat), (ys.map V.str).eraseIdx i = (ys.eraseIdx i).map V.str
  | [], _ => rfl
  | a :: r, 0 => rfl
  | a :: r, i + 1 => congrArg (V.str a :: ·) (erase_map r i)
theorem set_map (ys : List Str) (i : Nat) (v : Str) : (ys.map V.str).set i (.str v) = (ys.set i v).map V.str := by rw [List.map_set]
theorem ixN_at {k n : Nat} (h : k < n) : ixN n (k : Int) = some k := by
  unfold ixN
  rw [if_pos (by omega), if_pos (by omega)]
  rfl
def nine40 : Str := ⟨(List.replicate (40 : Int).toNat (Str.ofString "9").cps).foldl (· ++ ·) #[]⟩
def nine41 : Str := ⟨(List.replicate (41 : Int).toNat (Str.ofString "9").cps).foldl (· ++ ·) #[]⟩
def oddW : List Str := ["", "0", "00", "01", "1", "2", "-", "-1", "x", nine40, nine41, "dead", "table", "60", "61"]
theorem oddW_len : ∀ s ∈ oddW, s.length ≤ 41 := by decide +kernel
section
variable {P : Program} {w : World} {K : PySem.W.Frag} {mg : Str → Option Value} {base : Heap}
theorem ok_lbent (T : Txt K mg) {j : Nat} : FnOk P w K mg base CX0 (j + 3) T.fLBent T.fdLBent ["_law_stream_here", "_law_text"] (spLBent K) := by
  refine T.FLBent.ok scLBent (fun vs H Q E h => ?_) (fun cdv A outer s H vs Q E hr h => ?_)
  · obtain ⟨p, x, rfl, _⟩ := h
    rfl
  · obtain ⟨p, x, rfl, P0, hl, q⟩ := h
    refine ⟨_, pss_cons (ps_par (i := 2) (j := 3) rfl scLBent.nd rfl rfl (by decide) rfl rfl (pa_cons (pe_split (pv 1) pe_str) (pa_cons (pe_call (ok_draw T) hr (by rfl) T.gDraw T.FDraw.kp T.bDraw .nil pass0 (pa_cons (pv 0) (pa_cons pe_int pa_nil))) pa_nil)) (by rfl)) (pss_cons (ps_par (i := 4) (j := 5) rfl scLBent.nd rfl rfl (by decide) rfl rfl (pa_cons (pe_call (ok_draw T) hr (by rfl) T.gDraw T.FDraw.kp T.bDraw .nil pass0 (pa_cons (pv 0) (pa_cons (pe_callB (call_lenK K) (by rfl) T.n_len PySem.boot_len (pa_cons (pv 2) pa_nil)) pa_nil))) (pa_cons (pe_call (ok_draw T) hr (by rfl) T.gDraw T.FDraw.kp T.bDraw .nil pass0 (pa_cons (pv 0) (pa_cons (pe_callB (call_lenK K) (by rfl) T.n_len PySem.boot_len (pa_cons (pv 2) pa_nil)) pa_nil))) pa_nil)) (by rfl)) (C8.pss_cut (ps_if (pt_cmpR op_eq (pv 3) pe_int (nomark _)) (pss_one (ps_expr (pe_bm PySem.F.plainAttrs_list PySem.F.slot_list_pop PySem.F.type_list_pop mt_popAt (pv 2) (pa_cons (pv 4) pa_nil)))) (pss_one (ps_if (pt_cmpR op_eq (pv 3) pe_int (nomark _)) (pss_one (ps_expr (pe_bm PySem.F.plainAttrs_list PySem.F.slot_list_insert PySem.F.type_list_insert mt_insert (pv 2) (pa_cons (pv 5) (pa_cons (pe_ix (ix_listK K) (pv 2) (pv 4) (fun _ _ => rfl)) pa_nil))))) (pss_one (ps_if (pt_cmpR op_eq (pv 3) pe_int (nomark _)) (pss_one (ps_asg (pe_tup (pa_cons (pe_ix (ix_listK K) (pv 2) (pv 5) (fun _ _ => rfl)) (pa_cons (pe_ix (ix_listK K) (pv 2) (pv 4) (fun _ _ => rfl)) pa_nil))) (pg_tup rfl (pgs_cons (pg_sub (pv 2) (pv 4) set_list) (pgs_cons (pg_sub (pv 2) (pv 5) set_list) pgs_nil))))) (pss_one (ps_if (pt_cmpR op_eq (pv 3) pe_int (nomark _)) (pss_one (ps_expr (pe_bm PySem.F.plainAttrs_list PySem.F.slot_list_insert PySem.F.type_list_insert mt_insert (pv 2) (pa_cons (pv 4) (pa_cons (pe_call (ok_pick T) hr (by rfl) T.gPick T.FPick.kp T.bPick .nil pass0 (pa_cons (pv 0) (pa_cons (pe_lst (pa_cons pe_str (pa_cons pe_str (pa_cons pe_str (pa_cons pe_str (pa_cons pe_str (pa_cons pe_str (pa_cons pe_str (pa_cons pe_str pa_nil))))))))) pa_nil))) pa_nil))))) (pss_one (ps_if (pt_cmpR op_lt (pv 3) pe_int (nomark _)) (pss_cons (ps_set (i := 6) scLBent.nd rfl (.inl rfl) (pe_split (pe_ix (ix_listK K) (pv 2) (pv 4) (fun _ _ => rfl)) pe_str)) (pss_cons (ps_set (i := 7) scLBent.nd rfl (.inl rfl) (pe_call (ok_draw T) hr (by rfl) T.gDraw T.FDraw.kp T.bDraw .nil pass0 (pa_cons (pv 0) (pa_cons (pe_callB (call_lenK K) (by rfl) T.n_len PySem.boot_len (pa_cons (pv 6) pa_nil)) pa_nil)))) (pss_cons (ps_set (i := 8) scLBent.nd rfl (.inl rfl) (pe_lst (pa_cons pe_str (pa_cons pe_str (pa_cons pe_str (pa_cons pe_str (pa_cons pe_str (pa_cons pe_str (pa_cons pe_str (pa_cons pe_str (pa_cons pe_str (pa_cons (pe_op op_repS pe_str pe_int) (pa_cons (pe_op op_repS pe_str pe_int) (pa_cons pe_str (pa_cons pe_str (pa_cons pe_str (pa_cons pe_str pa_nil))))))))))))))))) (C8.pss_cut (ps_if (pt_cmpR op_eq (pv 3) pe_int (nomark _)) (pss_one (ps_expr (pe_bm PySem.F.plainAttrs_list PySem.F.slot_list_pop PySem.F.type_list_pop mt_popAt (pv 6) (pa_cons (pv 7) pa_nil)))) (pss_one (ps_if (pt_cmpR op_eq (pv 3) pe_int (nomark _)) (pss_one (ps_expr (pe_bm PySem.F.plainAttrs_list PySem.F.slot_list_insert PySem.F.type_list_insert mt_insert (pv 6) (pa_cons (pv 7) (pa_cons (pe_call (ok_pick T) hr (by rfl) T.gPick T.FPick.kp T.bPick .nil pass0 (pa_cons (pv 0) (pa_cons (pv 8) pa_nil))) pa_nil))))) (pss_one (ps_asg (pe_call (ok_pick T) hr (by rfl) T.gPick T.FPick.kp T.bPick .nil pass0 (pa_cons (pv 0) (pa_cons (pv 8) pa_nil))) (pg_sub (pv 6) (pv 7) set_list)))))) (pss_one (ps_asg (pe_join pe_str (pv 6)) (pg_sub (pv 2) (pv 4) set_list))))))) (pss_cons (ps_set (i := 9) scLBent.nd rfl (.inl rfl) (pe_ix (ix_listK K) (pv 2) (pv 4) (fun _ _ => rfl))) (pss_cons (ps_set (i := 7) scLBent.nd rfl (.inl rfl) (pe_call (ok_draw T) hr (by rfl) T.gDraw T.FDraw.kp T.bDraw .nil pass0 (pa_cons (pv 0) (pa_cons (pe_op op_add (pe_callB call_len_str (by rfl) T.n_len PySem.boot_len (pa_cons (pv 9) pa_nil)) pe_int) pa_nil)))) (pss_cons (ps_set (i := 10) scLBent.nd rfl (.inl rfl) (pe_call (ok_pick T) hr (by rfl) T.gPick T.FPick.kp T.bPick .nil pass0 (pa_cons (pv 0) (pa_cons (pe_lst (pa_cons pe_str (pa_cons pe_str (pa_cons pe_str (pa_cons pe_str (pa_cons pe_str (pa_cons pe_str pa_nil))))))) pa_nil)))) (pss_cons (ps_set (i := 11) scLBent.nd rfl (.inl rfl) (pe_slice sl_str (pv 9) (po_some (pe_op op_add (pv 7) (pe_callTy call_int1 (by rfl) T.n_int (by decide +kernel) (pa_cons (pe_cmpR op_eq (pv 3) pe_int (nomark _)) pa_nil)))) po_none)) (pss_one (ps_asg (pe_op op_add_str (pe_op op_add_str (pe_slice sl_str (pv 9) po_none (po_some (pv 7))) (pe_op op_rep01 (pv 10) (pe_callTy call_int1 (by rfl) T.n_int (by decide +kernel) (pa_cons (pe_cmpR op_eq (pv 3) pe_int (nomark _)) pa_nil)))) (pv 11)) (pg_sub (pv 2) (pv 4) set_list)))))))))))))))) (pss_one (ps_ret (pe_join pe_str (pv 2)))))), ?_⟩
    refine ⟨.str x, rfl, ⟨x, rfl⟩, x, lineS, rfl, rfl, rfl, by rw [sizeLine_eq]; omega, fun pr npr => ?_⟩
    have s1 := same_new (o := .lst ((Txt.split x lineS).map V.str)) npr
    have hr1 : (upd H pr (.lst ((Txt.split x lineS).map V.str))) pr = some (.lst ((Txt.split x lineS).map V.str)) := upd_same
    have w0 : wtS (Txt.split x lineS) ≤ x.length + 1 := wtS_split x lineS (by decide +kernel)
    have n1 : 1 ≤ (Txt.split x lineS).length := split_line x
    generalize Txt.split x lineS = ys at s1 hr1 w0 n1 ⊢
    have P1 := P0.same s1
    generalize upd H pr (.lst (ys.map V.str)) = H1 at s1 hr1 P1 ⊢
    have np : pr ≠ p := (P0.ne npr).symm
    have yl : ys.length ≤ x.length + 1 := by
      unfold wtS at w0
      omega
    have big : ∀ {k : Nat}, k ≤ 500000 → ((k : Nat) : Int) < 2 ^ 1000 := fun h => Int.lt_trans (show ((_ : Nat) : Int) < 1000000 by omega) (by decide +kernel)
    refine ⟨.ref p, rfl, p, 9, rfl, P1, by decide, by decide +kernel, fun way H2 w90 w9 P2 b2 => ⟨_, _, rfl, ?_⟩⟩
    have hr2 := b2 _ _ np hr1
    refine ⟨.ref p, rfl, .ref pr, rfl, pr, _, rfl, .inl (SqL.of hr2), p, _, rfl, P2, by rw [List.length_map]; omega, by rw [List.length_map]; exact big (by omega), fun at' H3 a0 al P3 b3 => ?_⟩
    have hr3 := b3 _ _ np hr2
    refine ⟨.ref p, rfl, .ref pr, rfl, pr, _, rfl, .inl (SqL.of hr3), p, _, rfl, P3, by rw [List.length_map]; omega, by rw [List.length_map]; exact big (by omega), fun ot H4 o0 ol P4 b4 => ⟨_, _, rfl, ?_⟩⟩
    have hr4 := b4 _ _ np hr3
    rw [List.length_map] at al ol
    obtain ⟨at', rfl⟩ := Int.eq_ofNat_of_zero_le a0
    obtain ⟨ot, rfl⟩ := Int.eq_ofNat_of_zero_le o0
    have al' : at' < ys.length := by omega
    have ol' : ot < ys.length := by omega
    have B4 : But p H H4 := (((But.of s1).trans b2).trans b3).trans b4
    clear s1 b2 b3 b4 hr1 hr2 hr3 P1 P2 P3
    have ya : (ys.map V.str)[at']? = some (.str ys[at']) := by rw [List.getElem?_map, List.getElem?_eq_getElem al']; rfl
    have yo : (ys.map V.str)[ot]? = some (.str ys[ot]) := by rw [List.getElem?_map, List.getElem?_eq_getElem ol']; rfl
    have wa := wtS_mem (List.getElem_mem al')
    have wo := wtS_mem (List.getElem_mem ol')
    have mlen : ∀ zs : List Str, (zs.map V.str).length = zs.length := fun zs => List.length_map _
    refine ⟨fun σ H' => ∃ (zs : List Str) (v3 v4 v5 v6 v7 v8 v9 v10 v11 : Option V), σ = [some (.ref p), some (.str x), some (.ref pr), v3, v4, v5, v6, v7, v8, v9, v10, v11] ∧ But p H H' ∧ StrAt H' p ∧ H' pr = some (.lst (zs.map V.str)) ∧ wtS zs ≤ 3 * x.length + 90, ?_, ?_⟩
    rotate_left
    · rintro σ H' ⟨zs, v3, v4, v5, v6, v7, v8, v9, v10, v11, rfl, B', P', hr', wz⟩
      refine ⟨⟨_, rfl⟩, .ref pr, rfl, lineS, pr, zs, rfl, rfl, .inl (SqL.of hr'), ?_, ?_⟩
      · unfold wtS at wz
        have : zs.length * lineS.length ≤ zs.length := Nat.le_trans (Nat.mul_le_mul_left _ (by decide +kernel)) (Nat.le_of_eq (Nat.mul_one _))
        omega
      · refine q H' _ B' P' ?_
        have := wtS_join (y := lineS) (by decide +kernel) zs
        omega
    have fin : ∀ {H' : Hp} {zs : List V} {ws : List Str}, But p H H' → StrAt H' p → zs = ws.map V.str → wtS ws ≤ 3 * x.length + 90 → ∀ {v3 v4 v5 v6 v7 v8 v9 v10 v11 : Option V}, ∃ (zs' : List Str) (v3' v4' v5' v6' v7' v8' v9' v10' v11' : Option V), [some (.ref p), some (.str x), some (.ref pr), v3, v4, v5, v6, v7, v8, v9, v10, v11] = [some (.ref p), some (.str x), some (.ref pr), v3', v4', v5', v6', v7', v8', v9', v10', v11'] ∧ But p H (upd H' pr (.lst zs)) ∧ StrAt (upd H' pr (.lst zs)) p ∧ (upd H' pr (.lst zs)) pr = some (.lst (zs'.map V.str)) ∧ wtS zs' ≤ 3 * x.length + 90 := fun {H' zs ws} B' P' e wz => by
      intro v3 v4 v5 v6 v7 v8 v9 v10 v11
      exact ⟨ws, v3, v4, v5, v6, v7, v8, v9, v10, v11, rfl, but_new B' npr, P'.upd np.symm, by rw [upd_same, e], wz⟩
    refine ⟨_, rfl, rfl, _, rfl, ?_⟩
    refine ite2 (fun _ => ?_) (fun _ => ?_)
    · refine ⟨.ref pr, rfl, .inl ⟨rfl, _, SqL.of hr4⟩, .int (at' : Int), rfl, pr, _, _, at', _, rfl, rfl, hr4, by omega, by omega, seq_at (by rw [mlen]; exact al'), ya, ?_⟩
      exact fin B4 P4 (ws := ys.eraseIdx at') (erase_map _ _) (by have := wtS_erase ys at'; omega)
    refine ⟨_, rfl, rfl, _, rfl, ?_⟩
    refine ite2 (fun _ => ?_) (fun _ => ?_)
    · refine ⟨.ref pr, rfl, .inl ⟨rfl, _, SqL.of hr4⟩, .int (ot : Int), rfl, .ref pr, rfl, .int (at' : Int), rfl, pr, _, _, _, rfl, rfl, SqL.of hr4, atI_nat ya, pr, _, _, _, rfl, rfl, hr4, by rw [mlen, sizeLine_eq]; omega, by omega, by omega, ?_⟩
      exact fin B4 P4 (ws := ys.take ot ++ [ys[at']] ++ ys.drop ot) (by rw [List.map_append, List.map_append, List.map_take, List.map_drop]; rfl) (by have := wtS_ins ys ot ys[at']; omega)
    refine ⟨_, rfl, rfl, _, rfl, ?_⟩
    refine ite2 (fun _ => ?_) (fun _ => ?_)
    · refine ⟨.ref pr, rfl, .int (ot : Int), rfl, pr, _, _, _, rfl, rfl, SqL.of hr4, atI_nat yo, .ref pr, rfl, .int (at' : Int), rfl, pr, _, _, _, rfl, rfl, SqL.of hr4, atI_nat ya, (by show 2 ≤ sizeLine; decide), fun t nt => ?_⟩
      have st := same_new (o := .tup [V.str ys[ot], V.str ys[at']]) nt
      have hr5 := st _ _ hr4
      have B5 := B4.trans (But.of st)
      have P5 := P4.same st
      refine ⟨t, _, rfl, SqT.of upd_same, rfl, _, _, rfl, .ref pr, rfl, .int (at' : Int), rfl, pr, _, _, at', rfl, rfl, hr5, ixN_at (by rw [mlen]; exact al'), ?_⟩
      refine ⟨_, _, rfl, .ref pr, rfl, .int (ot : Int), rfl, pr, _, _, ot, rfl, rfl, upd_same, ixN_at (by rw [List.length_set, mlen]; exact ol'), rfl, ?_⟩
      refine fin (but_new B5 npr) (P5.upd np.symm) (ws := (ys.set at' ys[ot]).set ot ys[at']) ?_ ?_
      · rw [set_map, set_map]
      · have h1 := wtS_set ys at' ys[ot]
        have h2 := wtS_set (ys.set at' ys[ot]) ot ys[at']
        omega
    refine ⟨_, rfl, rfl, _, rfl, ?_⟩
    refine ite2 (fun _ => ?_) (fun _ => ?_)
    · refine ⟨.ref pr, rfl, .inl ⟨rfl, _, SqL.of hr4⟩, .int (at' : Int), rfl, .ref p, rfl, (by show 8 ≤ sizeLine; decide), fun l nl => ?_⟩
      have sl := same_new (o := .lst [V.str "", V.str "-", V.str "dead -", V.str "dead", V.str "table 2 2", V.str "0 1", V.str "1", V.str "cluster 2 1 1 2"]) nl
      refine ⟨p, l, _, rfl, P4.same sl, (P4.ne nl).symm, .inl (SqL.of upd_same), (by show 1 ≤ 8; decide), (by show 8 ≤ 100000; decide), fun v H5 hv P5 b5 => ?_⟩
      obtain ⟨s0, hs0, rfl⟩ : ∃ s0 : Str, s0 ∈ (["", "-", "dead -", "dead", "table 2 2", "0 1", "1", "cluster 2 1 1 2"] : List Str) ∧ V.str s0 = v := List.mem_map.mp hv
      have ls : s0.length ≤ 20 := by
        have : ∀ s ∈ (["", "-", "dead -", "dead", "table 2 2", "0 1", "1", "cluster 2 1 1 2"] : List Str), s.length ≤ 20 := by decide +kernel
        exact this s0 hs0
      have hr5 := b5 _ _ np (sl _ _ hr4)
      refine ⟨pr, _, _, _, rfl, rfl, hr5, by rw [mlen, sizeLine_eq]; omega, by omega, by omega, ?_⟩
      exact fin ((B4.trans (But.of sl)).trans b5) P5 (ws := ys.take at' ++ [s0] ++ ys.drop at') (by rw [List.map_append, List.map_append, List.map_take, List.map_drop]; rfl) (by have := wtS_ins ys at' s0; omega)
    refine ⟨_, rfl, _, _, rfl, rfl, _, rfl, ?_⟩
    refine ite2 (fun _ => ?_) (fun _ => ?_)
    · have rw1 : ys[at'].length + 2 ≤ sizeLine := by
        rw [sizeLine_eq]
        omega
      refine ⟨.ref pr, rfl, .int (at' : Int), rfl, pr, _, _, _, rfl, rfl, SqL.of hr4, atI_nat ya, ⟨_, rfl⟩, ys[at'], blankS, rfl, rfl, rfl, rw1, fun pw npw => ?_⟩
      have sw := same_new (o := .lst ((Txt.split ys[at'] blankS).map V.str)) npw
      have hw1 : (upd H4 pw (.lst ((Txt.split ys[at'] blankS).map V.str))) pw = some (.lst ((Txt.split ys[at'] blankS).map V.str)) := upd_same
      have ww := wtS_split ys[at'] blankS (by decide +kernel)
      have nw := split_blank ys[at']
      generalize Txt.split ys[at'] blankS = ws at sw hw1 ww nw ⊢
      have P5 := P4.same sw
      have hr5 := sw _ _ hr4
      have B5 := B4.trans (But.of sw)
      have nwp : pw ≠ p := (P4.ne npw).symm
      have nwr : pw ≠ pr := fun z => by
        rw [z, hr4] at npw
        cases npw
      have hnw : H pw = none := by
        cases e : H pw with
        | none => rfl
        | some o =>
          have := B4 _ _ nwp e
          rw [npw] at this
          cases this
      generalize upd H4 pw (.lst (ws.map V.str)) = H5 at sw hw1 P5 hr5 B5 ⊢
      have wl : ws.length ≤ ys[at'].length + 1 := by
        unfold wtS at ww
        omega
      refine ⟨.ref p, rfl, .ref pw, rfl, pw, _, rfl, .inl (SqL.of hw1), p, _, rfl, P5, by rw [mlen]; omega, by rw [mlen]; exact big (by omega), fun sp H6 sp0 spl P6 b6 => ?_⟩
      rw [mlen] at spl
      obtain ⟨sp, rfl⟩ := Int.eq_ofNat_of_zero_le sp0
      have hw6 := b6 _ _ nwp hw1
      have hr6 := b6 _ _ np hr5
      have B6 := B5.trans b6
      refine ⟨_, _, rfl, rfl, by decide, by decide, by decide +kernel, by decide +kernel, by decide +kernel, _, _, rfl, rfl, by decide, by decide, by decide +kernel, by decide +kernel, by decide +kernel, (by show 15 ≤ sizeLine; decide), fun l nl => ?_⟩
      have sl : Same H6 (upd H6 l (.lst (oddW.map V.str))) := same_new nl
      have hl7 : (upd H6 l (.lst (oddW.map V.str))) l = some (.lst (oddW.map V.str)) := upd_same
      have hw7 := sl _ _ hw6
      have hr7 := sl _ _ hr6
      have B7 := B6.trans (But.of sl)
      have P7 := P6.same sl
      have nlp : l ≠ p := (P6.ne nl).symm
      change C8.tCut _ _ _ _ (upd H6 l (.lst (oddW.map V.str)))
      generalize upd H6 l (.lst (oddW.map V.str)) = H7 at sl hl7 hw7 hr7 B7 P7 ⊢
      have nwr2 : pr ≠ pw := nwr.symm
      refine ⟨fun σ H' => ∃ (zs : List Str), σ = [some (.ref p), some (.str x), some (.ref pr), some (.int way), some (.int (at' : Int)), some (.int (ot : Int)), some (.ref pw), some (.int (sp : Int)), some (.ref l), none, none, none] ∧ But p H H' ∧ StrAt H' p ∧ H' pr = some (.lst (ys.map V.str)) ∧ H' pw = some (.lst (zs.map V.str)) ∧ wtS zs ≤ wtS ws + 42, ?_, ?_⟩
      rotate_left
      · rintro σ H' ⟨zs, rfl, B', P', hr', hw', wz⟩
        have wj := wtS_join (y := blankS) (by decide +kernel) zs
        refine ⟨⟨_, rfl⟩, .ref pw, rfl, blankS, pw, zs, rfl, rfl, .inl (SqL.of hw'), ?_, ?_⟩
        · have : zs.length * blankS.length ≤ zs.length := Nat.le_trans (Nat.mul_le_mul_left _ (by decide +kernel)) (Nat.le_of_eq (Nat.mul_one _))
          unfold wtS at wz ww
          omega
        · refine ⟨.ref pr, rfl, .int (at' : Int), rfl, pr, _, _, at', rfl, rfl, hr', ixN_at (by rw [mlen]; exact al'), ?_⟩
          refine fin B' P' (ws := ys.set at' (Txt.join blankS zs)) (set_map _ _ _) ?_
          have h1 := wtS_set ys at' (Txt.join blankS zs)
          omega
      have sp' : sp < ws.length := by omega
      have ys0 : (ws.map V.str)[sp]? = some (.str ws[sp]) := by rw [List.getElem?_map, List.getElem?_eq_getElem sp']; rfl
      have out : ∀ {H' : Hp} {zs : List V} {us : List Str}, But p H H' → StrAt H' p → H' pr = some (.lst (ys.map V.str)) → zs = us.map V.str → wtS us ≤ wtS ws + 42 → But p H (upd H' pw (.lst zs)) ∧ StrAt (upd H' pw (.lst zs)) p ∧ (upd H' pw (.lst zs)) pr = some (.lst (ys.map V.str)) ∧ (upd H' pw (.lst zs)) pw = some (.lst (us.map V.str)) ∧ wtS us ≤ wtS ws + 42 := fun {H' zs us} B' P' hr' e wz =>
        ⟨but_new B' hnw, P'.upd nwp.symm, by rw [upd_ne nwr2]; exact hr', by rw [upd_same, e], wz⟩
      have picked : ∀ v : V, v ∈ oddW.map V.str → ∃ s0 : Str, v = .str s0 ∧ s0.length ≤ 41 := fun v hv => by
        obtain ⟨s0, hs0, rfl⟩ := List.mem_map.mp hv
        exact ⟨s0, rfl, oddW_len s0 hs0⟩
      refine ⟨_, rfl, rfl, _, rfl, ?_⟩
      refine ite2 (fun _ => ?_) (fun _ => ?_)
      · refine ⟨.ref pw, rfl, .inl ⟨rfl, _, SqL.of hw7⟩, .int (sp : Int), rfl, pw, _, _, sp, _, rfl, rfl, hw7, by omega, by omega, seq_at (by rw [mlen]; exact sp'), ys0, ?_⟩
        exact ⟨_, rfl, out B7 P7 hr7 (erase_map ws sp) (by have := wtS_erase ws sp; omega)⟩
      refine ⟨_, rfl, rfl, _, rfl, ?_⟩
      refine ite2 (fun _ => ?_) (fun _ => ?_)
      · refine ⟨.ref pw, rfl, .inl ⟨rfl, _, SqL.of hw7⟩, .int (sp : Int), rfl, .ref p, rfl, .ref l, rfl, p, l, _, rfl, P7, nlp, .inl (SqL.of hl7), (by show 1 ≤ 15; decide), (by show 15 ≤ 100000; decide), fun v H8 hv P8 b8 => ?_⟩
        obtain ⟨s0, rfl, ls⟩ := picked v hv
        refine ⟨pw, _, _, _, rfl, rfl, b8 _ _ nwp hw7, by rw [mlen, sizeLine_eq]; omega, by omega, by omega, ?_⟩
        exact ⟨_, rfl, out (us := ws.take sp ++ [s0] ++ ws.drop sp) (B7.trans b8) P8 (b8 _ _ np hr7) (by rw [List.map_append, List.map_append, List.map_take, List.map_drop]; rfl) (by have := wtS_ins ws sp s0; omega)⟩
      · refine ⟨.ref p, rfl, .ref l, rfl, p, l, _, rfl, P7, nlp, .inl (SqL.of hl7), (by show 1 ≤ 15; decide), (by show 15 ≤ 100000; decide), fun v H8 hv P8 b8 => ?_⟩
        obtain ⟨s0, rfl, ls⟩ := picked v hv
        refine ⟨.ref pw, rfl, .int (sp : Int), rfl, pw, _, _, sp, rfl, rfl, b8 _ _ nwp hw7, ixN_at (by rw [mlen]; exact sp'), ?_⟩
        exact ⟨_, rfl, out (us := ws.set sp s0) (B7.trans b8) P8 (b8 _ _ np hr7) (set_map _ _ _) (by have := wtS_set ws sp s0; omega)⟩
    have rl := wtS_mem (List.getElem_mem al')
    refine ⟨.ref pr, rfl, .int (at' : Int), rfl, pr, _, _, _, rfl, rfl, SqL.of hr4, atI_nat ya, ?_⟩
    generalize ys[at'] = row at *
    have rsz : row.length ≤ sizeLine := by
      rw [sizeLine_eq]
      omega
    refine ⟨.ref p, rfl, .str row, rfl, row, rfl, rsz, _, _, rfl, rfl, p, _, rfl, P4, by omega, big (k := row.length + 1) (by omega), fun sp H5 sp0 spl P5 b5 => ?_⟩
    have hr5 := b5 _ _ np hr4
    refine ⟨.ref p, rfl, (by show 6 ≤ sizeLine; decide), fun l nl => ?_⟩
    have sl := same_new (o := .lst [V.str " ", V.str "\n", V.str "0", V.str "7", V.str "-", V.str "x"]) nl
    refine ⟨p, l, _, rfl, P5.same sl, (P5.ne nl).symm, .inl (SqL.of upd_same), (by show 1 ≤ 6; decide), (by show 6 ≤ 100000; decide), fun v H6 hv P6 b6 => ?_⟩
    obtain ⟨s0, hs0, rfl⟩ : ∃ s0 : Str, s0 ∈ ([" ", "\n", "0", "7", "-", "x"] : List Str) ∧ V.str s0 = v := List.mem_map.mp hv
    have ls : s0.length ≤ 1 := by
      have : ∀ s ∈ ([" ", "\n", "0", "7", "-", "x"] : List Str), s.length ≤ 1 := by decide +kernel
      exact this s0 hs0
    have hr6 := b6 _ _ np (sl _ _ hr5)
    refine ⟨.str row, rfl, .int sp, rfl, .int way, rfl, rfl, .inr ⟨_, rfl, _, _, rfl, rfl, _, rfl, row, rfl, rsz, ?_⟩⟩
    obtain ⟨k8, hk8⟩ : ∃ k8 : Bool, decide (V.int way = V.int 8) = k8 := ⟨_, rfl⟩
    obtain ⟨t0, ht0, lt0⟩ : ∃ t0 : Str, cutS row (some (sp + (if decide (V.int way = V.int 8) = true then 1 else 0))) none = t0 ∧ t0.length ≤ row.length := ⟨_, rfl, cutS_length _ _ _⟩
    obtain ⟨t1, ht1, lt1⟩ : ∃ t1 : Str, cutS row none (some sp) = t1 ∧ t1.length ≤ row.length := ⟨_, rfl, cutS_length _ _ _⟩
    obtain ⟨t2, ht2, lt2⟩ : ∃ t2 : Str, (if decide (V.int way = V.int 7) = true then s0 else Str.empty) = t2 ∧ t2.length ≤ 1 := ⟨_, rfl, by
      split
      · exact ls
      · decide⟩
    have app : ∀ a b : Str, (a ++ b).length = a.length + b.length := fun a b => Array.size_append
    rw [ht0]
    refine ⟨.str row, rfl, .int sp, rfl, _, rfl, row, rfl, rsz, ?_⟩
    rw [ht1]
    refine ⟨.str s0, rfl, .int way, rfl, rfl, .inr ⟨_, rfl, s0, _, rfl, rfl, ?_⟩⟩
    rw [ht2]
    refine ⟨t1, t2, rfl, rfl, by rw [sizeLine_eq]; omega, .str t0, rfl, t1 ++ t2, t0, rfl, rfl, by rw [sizeLine_eq, app]; omega, ?_⟩
    refine ⟨.ref pr, rfl, .int (at' : Int), rfl, pr, _, _, at', rfl, rfl, hr6, ixN_at (by rw [mlen]; exact al'), ?_⟩
    refine fin (((B4.trans b5).trans (But.of sl)).trans b6) P6 (ws := ys.set at' (t1 ++ t2 ++ t0)) (set_map _ _ _) ?_
    have h1 := wtS_set ys at' (t1 ++ t2 ++ t0)
    rw [app, app] at h1
    omega
end
/-! ### the table that a text holds, by the format -/
theorem lchk_iff {n : Nat} : ∀ {o : List Nat} {seen : List Int}, lchk n seen (o.map fun (x : Nat) => TD.int (x : Int)) = true ↔ o.Nodup ∧ (∀ x ∈ o, x < n) ∧ ∀ x ∈ o, ((x : Nat) : Int) ∉ seen
  | [], seen => ⟨fun _ => ⟨.nil, fun x h => absurd h List.not_mem_nil, fun x h => absurd h List.not_mem_nil⟩, fun _ => rfl⟩
  | x :: o, seen => by
    show (decide ((0 : Int) ≤ (x : Int)) && (decide ((x : Int) < (n : Int)) && (!decide ((x : Int) ∈ seen) && lchk n ((x : Int) :: seen) (o.map fun (x : Nat) => TD.int (x : Int))))) = true ↔ _
    rw [Bool.and_eq_true, Bool.and_eq_true, Bool.and_eq_true, lchk_iff, decide_eq_true_eq, decide_eq_true_eq, Bool.not_eq_true', decide_eq_false_iff_not, List.nodup_cons]
    constructor
    · rintro ⟨_, h1, h2, h3, h4, h5⟩
      refine ⟨⟨fun m => h5 x m List.mem_cons_self, h3⟩, fun y hy => ?_, fun y hy => ?_⟩
      · rcases List.mem_cons.mp hy with rfl | hy
        · omega
        · exact h4 y hy
      · rcases List.mem_cons.mp hy with rfl | hy
        · exact h2
        · exact fun m => h5 y hy (List.mem_cons_of_mem _ m)
    · rintro ⟨⟨h1, h2⟩, h3, h4⟩
      refine ⟨by omega, by have := h3 x List.mem_cons_self; omega, h4 x List.mem_cons_self, h2, fun y hy => h3 y (List.mem_cons_of_mem _ hy), fun y hy m => ?_⟩
      rcases List.mem_cons.mp m with e | m
      · have : y = x := by omega
        exact h1 (this ▸ hy)
      · exact h4 y (List.mem_cons_of_mem _ hy) m
theorem goodW_some {n d : Nat} {row : Str} {o : List Nat} (h : orderW row = some o) : goodW n d row = true ↔ o.length = d ∧ o.Nodup ∧ ∀ x ∈ o, x < n := by
  unfold goodW
  rw [h]
  show (decide ((o.map fun (x : Nat) => TD.int (x : Int)).length = d) && lchk n [] (o.map fun (x : Nat) => TD.int (x : Int))) = true ↔ _
  rw [Bool.and_eq_true, lchk_iff, decide_eq_true_eq, List.length_map]
  exact ⟨fun ⟨h1, h2, h3, _⟩ => ⟨h1, h2, h3⟩, fun ⟨h1, h2, h3⟩ => ⟨h1, h2, h3, fun _ _ z => nomatch z⟩⟩
theorem goodW_none {n d : Nat} {row : Str} (h : orderW row = none) : goodW n d row = false := by
  unfold goodW
  rw [h]
  rfl
theorem sh_rows51 : ∀ {rows : List (List Nat)}, (∀ l ∈ rows, l.length ≤ 60 ∧ ∀ x ∈ l, x < 60) → ShAll 1 (501 * rows.length) (rows.map tupD)
  | [], _ => ShAll.nil.mono (by decide) (by decide)
  | l :: r, h => ((ShAll.cons (sh_list (h l List.mem_cons_self).1 (h l List.mem_cons_self).2) (sh_rows51 fun x hx => h x (List.mem_cons_of_mem _ hx)))).mono (Nat.le_refl _) (by rw [List.length_cons]; omega)
/-- a row that is refused -/
def RowR (H : Hp) (Q : VK) (k : Int) : Prop := ∀ H' z, Same H H' → H z = none → H' z = some (.tup [.str "row", .int k]) → Q (.ref z) H'
def spLTabR (K : PySem.W.Frag) : Sp := fun vs H Q _ => ∃ x : Str, vs = [.str x] ∧ x.length + 2 ≤ sizeLine ∧ (headW x = none → RowR H Q 0) ∧
  (∀ n d : Nat, headW x = some (n, d) → ((Txt.split x lineS).tail = [] → RowR H Q 1) ∧
    (∀ (i : Nat) (r : Str), (Txt.split x lineS).tail[i]? = some r → (5000 ≤ i ∨ goodW n d r = false) → (∀ r' ∈ (Txt.split x lineS).tail.take i, goodW n d r' = true) → i ≤ 5000 → RowR H Q ((i : Int) + 1)) ∧
    ((Txt.split x lineS).tail ≠ [] → (Txt.split x lineS).tail.length ≤ 5000 → (∀ r ∈ (Txt.split x lineS).tail, goodW n d r = true) → ∀ H' z u t ts, Same H H' → H z = none → H' z = some (.tup [.str "returned", .ref u]) → H' u = some (.tup [.int n, .ref t]) → H' t = some (.tup ts) → RowsL K H' ts ((Txt.split x lineS).tail.map fun r => (orderW r).getD []) → Q (.ref z) H'))
section
variable {P : Program} {w : World} {K : PySem.W.Frag} {mg : Str → Option Value} {base : Heap}
theorem ok_ltabr (T : Txt K mg) {j : Nat} : FnOk P w K mg base CX0 (j + 3) T.fLTabR T.fdLTabR ["_law_text"] (spLTabR K) := by
  refine T.FLTabR.ok scLTabR (fun vs H Q E h => ?_) (fun cdv A outer s H vs Q E hr h => ?_)
  · obtain ⟨x, rfl, _⟩ := h
    rfl
  · obtain ⟨x, rfl, hl, q0, qs⟩ := h
    have hu64 : (A.deeper (envOfC "_law_table_read" (defScope sLTabR) s.heap.objs.size T.fLTabR cdv)).units + 64 < cLine := by
      have := hr.un
      omega
    refine ⟨_, pss_cons (ps_set (i := 1) scLTabR.nd rfl (.inl rfl) (pe_split (pv 0) pe_str)) (pss_cons (ps_set (i := 2) scLTabR.nd rfl (.inl rfl) (pe_split (pe_ix (ix_listK K) (pv 1) pe_int (fun _ _ => rfl)) pe_str)) (pss_cons (ps_set (i := 3) scLTabR.nd rfl (.inl rfl) (pe_call (ok_lints T) hr (by rfl) T.gLInts T.FLInts.kp T.bLInts .nil pass0 (pa_cons (pe_slice (sl_listK (K := K)) (pv 2) (po_some pe_int) po_none) pa_nil))) (pss_cons (ps_if (PW.pt (pw_or (pt_cmpR op_ne (pe_ix (ix_listK K) (pv 2) pe_int (fun _ _ => rfl)) pe_str (nomark _)) (pw_or (pt_cmpR op_isN (pv 3) pe_non (nomark _)) (pw_or (pt_cmpR op_ne (pe_callB (call_lenK K) (by rfl) T.n_len PySem.boot_len (pa_cons (pv 3) pa_nil)) pe_int (nomark _)) (pw_or (pt_not (pt_chain op_le op_le pe_int (pe_ix (ix_listK K) (pv 3) pe_int (fun _ _ => rfl)) pe_int)) (pw_or1 (pt_not (pt_chain op_le op_le pe_int (pe_ix (ix_listK K) (pv 3) pe_int (fun _ _ => rfl)) (pe_ix (ix_listK K) (pv 3) pe_int (fun _ _ => rfl)))))))))) (pss_one (ps_ret (pe_tup (pa_cons pe_str (pa_cons pe_int pa_nil))))) pss_nil) (pss_cons (ps_set (i := 4) scLTabR.nd rfl (.inl rfl) (pe_lst pa_nil)) (pss_cons (ps_for PassesOwn.never rfl (pi_enum (by rfl) T.n_enumerate (pa_cons (pe_slice (sl_listK (K := K)) (pv 1) (po_some pe_int) po_none) pa_nil)) (pg_tup rfl (pgs_cons (pg_name (i := 5) scLTabR.nd rfl (.inl rfl)) (pgs_cons (pg_name (i := 6) scLTabR.nd rfl (.inl rfl)) pgs_nil))) (pss_cons (ps_set (i := 7) scLTabR.nd rfl (.inl rfl) (pe_call (ok_lints T) hr (by rfl) T.gLInts T.FLInts.kp T.bLInts .nil pass0 (pa_cons (pe_split (pv 6) pe_str) pa_nil))) (pss_cons (ps_if (PW.pt (pw_or (pt_cmpR op_isN (pv 7) pe_non (nomark _)) (pw_or (pt_cmpR op_ne (pe_callB (call_lenK K) (by rfl) T.n_len PySem.boot_len (pa_cons (pv 7) pa_nil)) (pe_ix (ix_listK K) (pv 3) pe_int (fun _ _ => rfl)) (nomark _)) (pw_or1 (pt_cmpR op_eq (pe_callB (call_lenK K) (by rfl) T.n_len PySem.boot_len (pa_cons (pv 4) pa_nil)) pe_int (nomark _)))))) (pss_one (ps_ret (pe_tup (pa_cons pe_str (pa_cons (pe_op op_add (pv 5) pe_int) pa_nil))))) pss_nil) (pss_cons (ps_if (PW.pt (pw_or (pt_cmpR op_lt (pe_callB call_lenSet (by rfl) T.n_len PySem.boot_len (pa_cons (pe_callTy (cr_setLn K w rfl) (by rfl) T.n_set (by decide +kernel) (pa_cons (pv 7) pa_nil)) pa_nil)) (pe_callB (call_lenK K) (by rfl) T.n_len PySem.boot_len (pa_cons (pv 7) pa_nil)) (nomark _)) (pw_or1 (pt_cmpR op_ge (pe_callB (cr_max rfl) (by rfl) T.n_max (by decide +kernel) (pa_cons (pv 7) pa_nil)) (pe_ix (ix_listK K) (pv 3) pe_int (fun _ _ => rfl)) (nomark _))))) (pss_one (ps_ret (pe_tup (pa_cons pe_str (pa_cons (pe_op op_add (pv 5) pe_int) pa_nil))))) pss_nil) (pss_one (ps_expr (pe_bm PySem.F.plainAttrs_list PySem.F.slot_list_append PySem.F.type_list_append mt_append (pv 4) (pa_cons (pe_callTy (call_tupleK K) (by rfl) T.n_tuple (by decide +kernel) (pa_cons (pv 7) pa_nil)) pa_nil)))))))) (pss_one (ps_ret (pe_ifExp (pt_cmpR (op_neDK K hu64) (pv 4) (pe_lst pa_nil) (nomark _)) (pe_tup (pa_cons pe_str (pa_cons (pe_tup (pa_cons (pe_ix (ix_listK K) (pv 3) pe_int (fun _ _ => rfl)) (pa_cons (pe_callTy (call_tupleK K) (by rfl) T.n_tuple (by decide +kernel) (pa_cons (pv 4) pa_nil)) pa_nil))) pa_nil))) (pe_tup (pa_cons pe_str (pa_cons pe_int pa_nil))))))))))), ?_⟩
    have n1 := split_line x
    have hsz : (Txt.split x lineS).length ≤ sizeLine := Nat.le_trans (PyProof.Rows.split_le x lineS) hl
    have hpt : ∀ p ∈ Txt.split x lineS, p.length + 2 ≤ sizeLine := fun p h => by
      have := split_part h
      omega
    refine ⟨.str x, rfl, ⟨x, rfl⟩, x, lineS, rfl, rfl, rfl, hl, fun p np => ?_⟩
    have s1 := same_new (o := .lst ((Txt.split x lineS).map V.str)) np
    have hp : (upd H p (.lst ((Txt.split x lineS).map V.str))) p = some (.lst ((Txt.split x lineS).map V.str)) := upd_same
    generalize upd H p (.lst ((Txt.split x lineS).map V.str)) = H1 at s1 hp ⊢
    obtain ⟨w0, r, e0⟩ : ∃ w0 r, Txt.split x lineS = w0 :: r := by
      cases e : Txt.split x lineS with
      | nil => rw [e] at n1; exact absurd n1 (by decide)
      | cons w0 r => exact ⟨w0, r, rfl⟩
    have eh : headW x = match fieldsW w0 tableS 2 with
        | some [n, d] => if 2 ≤ n ∧ n ≤ 60 ∧ 1 ≤ d ∧ d ≤ n then some (n, d) else none
        | _ => none := by
      unfold headW
      rw [e0]
      rfl
    rw [e0] at hp hsz hpt qs
    dsimp only [List.tail_cons] at qs
    dsimp only [gName]
    obtain ⟨f, fr, e1⟩ : ∃ f fr, Txt.split w0 blankS = f :: fr := by
      have n2 := split_blank w0
      cases e : Txt.split w0 blankS with
      | nil => rw [e] at n2; exact absurd n2 (by decide)
      | cons f fr => exact ⟨f, fr, rfl⟩
    have hno : ¬ (f = tableS ∧ fr.length = 2 ∧ fr.all numW = true) → headW x = none := fun z => by
      rw [eh]
      have : fieldsW w0 tableS 2 = none := by
        unfold fieldsW
        rw [e1]
        refine if_neg fun ⟨h1, h2, h3⟩ => z ⟨Option.some.inj h1, ?_, h3⟩
        rw [List.length_cons] at h2
        omega
      rw [this]
    have hw0 := hpt w0 List.mem_cons_self
    refine ⟨.ref p, rfl, p, _, 0, .str w0, rfl, rfl, SqL.of hp, atI_nat (j := 0) rfl, ⟨w0, rfl⟩, w0, blankS, rfl, rfl, rfl, hw0, fun pw npw => ?_⟩
    have hfl : (f :: fr).length ≤ sizeLine := by
      rw [← e1]
      exact Nat.le_trans (PyProof.Rows.split_le w0 blankS) hw0
    have hfp : ∀ u ∈ fr, u.length ≤ sizeLine := fun u hu => by
      have h1 := split_part (x := w0) (y := blankS) (p := u) (by rw [e1]; exact List.mem_cons_of_mem _ hu)
      omega
    rw [e1]
    have s2 := same_new (o := .lst ((f :: fr).map V.str)) npw
    have hpw : (upd H1 pw (.lst ((f :: fr).map V.str))) pw = some (.lst ((f :: fr).map V.str)) := upd_same
    have hp2 := s2 _ _ hp
    replace s2 := s1.trans s2
    generalize upd H1 pw (.lst ((f :: fr).map V.str)) = H2 at s2 hp2 hpw ⊢
    dsimp only [gName]
    have row : ∀ {σ : L2.St} {k : Int} {H' : Hp} {D : L2.Ends}, D.rt = Q → Same H H' → RowR H Q k → tRet (tTup (tCons (tC (V.str "row")) (tCons (tC (V.int k)) tNil))) D σ H' := fun {σ k H' D} eD s' e => by
      refine ⟨(by show 2 ≤ sizeLine; decide), fun z nz => ?_⟩
      show D.rt (.ref z) _
      rw [eD]
      exact e _ z (s'.trans (same_new nz)) (s'.free nz) upd_same
    refine ⟨.ref pw, rfl, (1 : Int), rfl, pw, _, rfl, SqL.of hpw, fun b nb => ?_⟩
    rw [cut_tail (by rw [List.length_map, List.length_cons]; omega)]
    have sb := same_new (o := .lst (((f :: fr).map V.str).tail)) nb
    have hb0 : (upd H2 b (.lst (((f :: fr).map V.str).tail))) b = some (.lst (fr.map V.str)) := upd_same
    have hp3 := sb _ _ hp2
    have hpw3 := sb _ _ hpw
    have s3 := s2.trans sb
    generalize upd H2 b (.lst (((f :: fr).map V.str).tail)) = H3 at sb hb0 hp3 hpw3 s3 ⊢
    refine ⟨b, fr, rfl, SqL.of hb0, by rw [List.length_cons] at hfl; omega, hfp, fun ha H4 t4 s4 nt4 ht4 => ?_, fun ha H4 s4 => ?_⟩
    rotate_left
    · -- None
      have hpw4 := s4 _ _ hpw3
      have r0 := q0 (hno fun ⟨_, _, z⟩ => by rw [ha] at z; cases z)
      refine ⟨.ref pw, rfl, pw, _, 0, .str f, rfl, rfl, SqL.of hpw4, atI_nat (j := 0) rfl, rfl, _, rfl, ?_⟩
      refine ite2 (fun _ => row rfl (s3.trans s4) r0) (fun _ => ?_)
      exact ⟨.non, rfl, rfl, _, rfl, iteT (row rfl (s3.trans s4) r0)⟩
    have hpw4 := s4 _ _ hpw3
    have hp4 := s4 _ _ hp3
    have s04 := s3.trans s4
    refine ⟨.ref pw, rfl, pw, _, 0, .str f, rfl, rfl, SqL.of hpw4, atI_nat (j := 0) rfl, rfl, _, rfl, ?_⟩
    refine ite2 (fun hb => row rfl s04 (q0 (hno fun ⟨z, _, _⟩ => ?_))) (fun hf => ?_)
    · rw [z] at hb
      rw [show (!decide (V.str tableS = V.str "table")) = false by decide +kernel] at hb
      cases hb
    have ef : f = tableS := by
      refine Classical.byContradiction fun z => hf ?_
      rw [decide_eq_false (fun e => z (by injection e))]
      rfl
    refine ⟨.ref t4, rfl, rfl, _, rfl, iteF ?_⟩
    refine ⟨.ref t4, rfl, t4, _, rfl, .inl (SqL.of ht4), rfl, _, rfl, ?_⟩
    refine ite2 (fun hb => row rfl s04 (q0 (hno fun ⟨_, z, _⟩ => ?_))) (fun hfl2 => ?_)
    · rw [setV_len, List.length_map, z] at hb
      exact absurd hb (by decide +kernel)
    have l2 : fr.length = 2 := by
      refine Classical.byContradiction fun z => hfl2 ?_
      rw [setV_len, List.length_map, decide_eq_false (fun e => z (by injection e with e; omega))]
      rfl
    obtain ⟨u1, u2, rfl⟩ : ∃ u1 u2, fr = [u1, u2] := by
      match fr, l2 with
      | [a, b], _ => exact ⟨a, b, rfl⟩
    have hh : headW x = if 2 ≤ valW u1 ∧ valW u1 ≤ 60 ∧ 1 ≤ valW u2 ∧ valW u2 ≤ valW u1 then some (valW u1, valW u2) else none := by
      rw [eh]
      have : fieldsW w0 tableS 2 = some [valW u1, valW u2] := by
        unfold fieldsW
        rw [e1]
        exact if_pos ⟨by rw [ef]; rfl, rfl, ha⟩
      rw [this]
    generalize en : valW u1 = n at hh
    generalize ed : valW u2 = d at hh
    have ht5 : H4 t4 = some (.lst [V.int (n : Int), V.int (d : Int)]) := by
      rw [ht4, ← en, ← ed]
      rfl
    have no : ¬ (2 ≤ n ∧ n ≤ 60 ∧ 1 ≤ d ∧ d ≤ n) → headW x = none := fun z => by rw [hh]; exact if_neg z
    refine ⟨.ref t4, rfl, t4, _, 0, .int n, rfl, rfl, SqL.of ht5, atI_nat (j := 0) rfl, _, _, rfl, rfl, _, rfl, ?_⟩
    refine ite2 (fun hb1 => ?_) (fun hb => ?_)
    rotate_left
    · exact ⟨_, rfl, iteT (row rfl s04 (q0 (no fun z => hb (decide_eq_true (by omega)))))⟩
    refine ⟨_, _, rfl, rfl, _, rfl, ?_⟩
    cases hb2 : decide ((n : Int) ≤ 60) with
    | false => exact iteT (row rfl s04 (q0 (no fun z => of_decide_eq_false hb2 (by omega))))
    | true =>
    refine iteF ?_
    refine ⟨.ref t4, rfl, t4, _, 1, .int d, rfl, rfl, SqL.of ht5, atI_nat (j := 1) rfl, _, _, rfl, rfl, _, rfl, ?_⟩
    refine ite2 (fun hb3 => ?_) (fun hb => ?_)
    rotate_left
    · exact ⟨_, rfl, iteT (row rfl s04 (q0 (no fun z => hb (decide_eq_true (by omega)))))⟩
    refine ⟨.ref t4, rfl, t4, _, 0, .int n, rfl, rfl, SqL.of ht5, atI_nat (j := 0) rfl, _, _, rfl, rfl, _, rfl, ?_⟩
    cases hb4 : decide ((d : Int) ≤ (n : Int)) with
    | false => exact iteT (row rfl s04 (q0 (no fun z => of_decide_eq_false hb4 (by omega))))
    | true =>
    refine iteF ?_
    have rg : 2 ≤ n ∧ n ≤ 60 ∧ 1 ≤ d ∧ d ≤ n := by
      have h1 := of_decide_eq_true hb1
      have h2 := of_decide_eq_true hb2
      have h3 := of_decide_eq_true hb3
      have h4 := of_decide_eq_true hb4
      omega
    obtain ⟨qe, qr, qg⟩ := qs n d (by rw [hh]; exact if_pos rg)
    clear hno no hh eh ha hb1 hb2 hb3 hb4 e1 hfl hfp l2 hfl2 hf
    refine ⟨Nat.zero_le _, fun D nD => ?_⟩
    have sD := same_new (o := .lst []) nD
    have hp5 := sD _ _ hp4
    refine ⟨.ref p, rfl, (1 : Int), rfl, p, _, rfl, SqL.of hp5, fun b2 nb2 => ?_⟩
    rw [cut_tail (by rw [List.length_map, List.length_cons]; omega)]
    have sb2 := same_new (o := .lst (((w0 :: r).map V.str).tail)) nb2
    have hb2 : (upd (upd H4 D (.lst [])) b2 (.lst (((w0 :: r).map V.str).tail))) b2 = some (.lst (r.map V.str)) := upd_same
    have hD0 := sb2 _ _ (upd_same (H := H4) (a := D) (o := .lst []))
    have sB := sD.trans sb2
    have nbD : b2 ≠ D := fun z => by
      rw [z, upd_same] at nb2
      cases nb2
    have ntD : t4 ≠ D := ne_of_none ht5 nD
    have rl : r.length ≤ sizeLine := by
      rw [List.length_cons] at hsz
      omega
    have ht6 := sB _ _ ht5
    generalize upd (upd H4 D (.lst [])) b2 (.lst (((w0 :: r).map V.str).tail)) = HB at sb2 hb2 hD0 sB ht6 ⊢
    refine ⟨b2, _, rfl, SqL.of hb2, ?_⟩
    refine for_it (walk_enum (xs := r.map V.str)) (fun i σ H' => ∃ (ts : List V) (v5 v6 v7 : Option V), σ = [some (.str x), some (.ref p), some (.ref pw), some (.ref t4), some (.ref D), v5, v6, v7] ∧ Same H4 H' ∧ H' b2 = some (.lst (r.map V.str)) ∧ H' t4 = some (.lst [V.int (n : Int), V.int (d : Int)]) ∧ H' D = some (.lst ts) ∧ RowsL K H' ts ((r.take i).map fun r => (orderW r).getD []) ∧ (∀ r' ∈ r.take i, goodW n d r' = true) ∧ i ≤ 5000)
      ⟨[], none, none, none, rfl, sB, hb2, ht6, hD0, .nil, fun r' h => absurd h List.not_mem_nil, Nat.zero_le _⟩ (fun _ σ H' _ h => by obtain ⟨_, _, _, _, _, _, h, _⟩ := h; exact SqL.of h) ?_ ?_
    · rintro i pr σ H5 H6 hi ⟨ts, v5, v6, v7, rfl, s5, hb5, ht7, hD5, r5, g5, i5⟩ ⟨T0, y, z, rfl, nT, rfl, e1, e2⟩
      obtain rfl := Option.some.inj e1
      obtain ⟨row1, hrow, rfl⟩ := strs_get e2
      have tl := r5.len
      rw [List.length_map, List.length_take] at tl
      have il := (List.getElem?_eq_some_iff.mp hrow).1
      have ti : ts.length = i := by omega
      have s6 := same_new (o := .tup [V.int (i : Nat), V.str row1]) nT
      refine ⟨T0, _, rfl, SqT.of upd_same, rfl, _, _, rfl, _, _, rfl, rfl, ?_⟩
      have hrm := List.mem_of_getElem? hrow
      have hr1 := hpt row1 (List.mem_cons_of_mem _ hrm)
      have bad : ∀ {σ : L2.St} {H' : Hp} {D : L2.Ends}, D.rt = Q → σ[5]? = some (some (.int (i : Int))) → Same H5 H' → (5000 ≤ i ∨ goodW n d row1 = false) → tRet (tTup (tCons (tC (V.str "row")) (tCons (tOp (rI0 fun i j => V.int (i + j)) (tVar 5) (tC (V.int 1))) tNil))) D σ H' := fun {σ H' D} eD e5 s' hb => by
        refine ⟨_, e5, _, _, rfl, rfl, (by show 2 ≤ sizeLine; decide), fun z nz => ?_⟩
        show D.rt (.ref z) _
        rw [eD]
        have sq := (s04.trans s5).trans s'
        exact qr i row1 hrow hb g5 i5 _ z (sq.trans (same_new nz)) (sq.free nz) upd_same
      refine ⟨.str row1, rfl, ⟨row1, rfl⟩, row1, blankS, rfl, rfl, rfl, hr1, fun c nc => ?_⟩
      have sc := same_new (o := .lst ((Txt.split row1 blankS).map V.str)) nc
      have hcl : (Txt.split row1 blankS).length ≤ sizeLine := Nat.le_trans (PyProof.Rows.split_le row1 blankS) hr1
      have hcp : ∀ p ∈ Txt.split row1 blankS, p.length ≤ sizeLine := fun p h => by
        have h1 := split_part h
        omega
      have s7 := s6.trans sc
      refine ⟨c, _, rfl, SqL.of upd_same, hcl, hcp, fun ha H8 t8 s8 nt8 ht8 => ?_, fun ha H8 s8 => ?_⟩
      rotate_left
      · have eo : orderW row1 = none := if_neg (by rw [ha]; decide)
        exact ⟨.non, rfl, rfl, _, rfl, iteT (bad rfl rfl (s7.trans s8) (.inr (goodW_none eo)))⟩
      have eo : orderW row1 = some ((Txt.split row1 blankS).map valW) := if_pos ha
      have gi := goodW_some (n := n) (d := d) eo
      generalize (Txt.split row1 blankS).map valW = o at eo gi ht8
      have s58 := s7.trans s8
      have ht9 := s58 _ _ ht7
      have hD8 := s58 _ _ hD5
      refine ⟨.ref t8, rfl, rfl, _, rfl, iteF ?_⟩
      refine ⟨.ref t8, rfl, t8, _, rfl, .inl (SqL.of ht8), .ref t4, rfl, t4, _, 1, .int d, rfl, rfl, SqL.of ht9, atI_nat (j := 1) rfl, rfl, _, rfl, ?_⟩
      refine ite2 (fun hb => bad rfl rfl s58 (.inr ?_)) (fun hb => ?_)
      · cases hg : goodW n d row1 with
        | false => rfl
        | true =>
          have l0 := (gi.mp hg).1
          rw [setV_len, l0] at hb
          simp at hb
      have lo : o.length = d := by
        refine Classical.byContradiction fun z => hb ?_
        rw [setV_len, decide_eq_false (fun e => z (by injection e with e; omega))]
        rfl
      refine ⟨.ref D, rfl, D, _, rfl, .inl (SqL.of hD8), rfl, _, rfl, ?_⟩
      refine ite2 (fun hb => bad rfl rfl s58 (.inl ?_)) (fun hb => ?_)
      · have e := of_decide_eq_true hb
        injection e with e
        omega
      have hi5 : i ≠ 5000 := fun z => hb (decide_eq_true (by rw [ti, z]; rfl))
      have ht8i := ht8
      rw [setV_ints] at ht8i
      refine ⟨.ref t8, rfl, t8, _, rfl, SqL.of ht8i, by rw [List.length_map]; omega, fun ps cc nps hdiff => ?_⟩
      have s9 := same_new (o := SetO w ps (fun j => decide (j ∈ o.map fun (m : Nat) => ((m : Nat) : Int))) cc) nps
      refine ⟨ps, _, cc, rfl, upd_same, .ref t8, rfl, t8, _, rfl, .inl (SqL.of (s9 _ _ ht8)), _, _, rfl, rfl, _, rfl, ?_⟩
      have s59 := s58.trans s9
      have ht10 := s9 _ _ ht8i
      have ht11 := s9 _ _ ht9
      have hD9 := s9 _ _ hD8
      have hb9 := s59 _ _ hb5
      have s49 := s5.trans s59
      have r9 := r5.same s59
      generalize upd H8 ps (SetO w ps (fun j => decide (j ∈ o.map fun (m : Nat) => ((m : Nat) : Int))) cc) = H9 at s59 ht10 ht11 hD9 hb9 s49 r9 ⊢
      refine ite2 (fun hb => bad rfl rfl s59 (.inr ?_)) (fun hb => ?_)
      · cases hg : goodW n d row1 with
        | false => rfl
        | true =>
          have nd := (gi.mp hg).2.1
          have e : cc = o.length := by
            have := hdiff.nodup (List.Pairwise.map (fun (m : Nat) => ((m : Nat) : Int)) (fun a b (h : a ≠ b) (e : ((a : Nat) : Int) = ((b : Nat) : Int)) => h (by omega)) nd)
            rw [List.length_map] at this
            exact this
          have := of_decide_eq_true hb
          rw [setV_len] at this
          omega
      have nd : o.Nodup := by
        refine Classical.byContradiction fun z => hb (decide_eq_true ?_)
        have h1 := hdiff.le
        have h2 := hdiff.not fun q => z (List.Pairwise.of_map (fun (m : Nat) => ((m : Nat) : Int)) (fun a b (h : ((a : Nat) : Int) ≠ ((b : Nat) : Int)) (e : a = b) => h (by rw [e])) q)
        rw [List.length_map] at h1 h2
        rw [setV_len]
        omega
      refine ⟨.ref t8, rfl, t8, _, rfl, SqL.of ht10, by rw [List.length_map]; omega, fun m hm hmax => ?_⟩
      obtain ⟨m0, hm0, rfl⟩ := List.mem_map.mp hm
      refine ⟨.ref t4, rfl, t4, _, 0, .int n, rfl, rfl, SqL.of ht11, atI_nat (j := 0) rfl, _, _, rfl, rfl, _, rfl, ?_⟩
      refine ite2 (fun hb => bad rfl rfl s59 (.inr ?_)) (fun hb => ?_)
      · cases hg : goodW n d row1 with
        | false => rfl
        | true =>
          have := (gi.mp hg).2.2 m0 hm0
          have := of_decide_eq_true hb
          omega
      have lt : ∀ x ∈ o, x < n := fun x hx => by
        have h1 := hmax _ (List.mem_map.mpr ⟨x, hx, rfl⟩)
        refine Nat.lt_of_not_le fun z => hb (decide_eq_true ?_)
        omega
      have good : goodW n d row1 = true := gi.mpr ⟨lo, nd, lt⟩
      refine ⟨.ref D, rfl, .inl ⟨rfl, _, SqL.of hD9⟩, .ref t8, rfl, t8, _, rfl, .inl ⟨SqL.of ht10, fun tt ntt => ?_⟩⟩
      rw [← setV_ints]
      have st := same_new (o := .tup (setV o)) ntt
      have htt : (upd H9 tt (.tup (setV o))) tt = some (.tup (setV o)) := upd_same
      have hDt := st _ _ hD9
      have hbt := st _ _ hb9
      have h4t := st _ _ ht11
      have s4t := s49.trans st
      have rt := r9.same st
      generalize upd H9 tt (.tup (setV o)) = HT at st htt hDt hbt h4t s4t rt ⊢
      refine ⟨D, _, _, rfl, rfl, hDt, by rw [ti, sizeLine_eq]; omega, ?_⟩
      have uD : ∀ {b o}, HT b = some o → b ≠ D → (upd HT D (.lst (ts ++ [V.ref tt]))) b = some o := fun e ne => by
        rw [upd_ne ne]
        exact e
      refine ⟨_, _, _, _, rfl, keep_upd s4t nD, uD hbt nbD, uD h4t ntD, upd_same, ?_, ?_, by omega⟩
      · rw [take_snocT hrow, List.map_append]
        refine RowsL.app (rt.upd50 hDt) (.cons ⟨tt, rfl, ?_⟩ .nil)
        show SqT K _ tt (setV ((orderW row1).getD []))
        rw [eo]
        exact SqT_updL (SqT.of htt) hDt
      · intro r' hr'
        rw [take_snocT hrow] at hr'
        rcases List.mem_append.mp hr' with h | h
        · exact g5 r' h
        · rw [List.mem_singleton.mp h]
          exact good
    · rintro σ H5 ⟨ts, v5, v6, v7, rfl, s5, hb5, ht7, hD5, r5, g5, i5⟩
      rw [List.length_map, List.take_length] at r5 g5
      rw [List.length_map] at i5
      have tl := r5.len
      rw [List.length_map] at tl
      have s05 := s04.trans s5
      refine ⟨.ref D, rfl, Nat.zero_le _, fun e ne => ?_⟩
      have se := same_new (o := .lst []) ne
      have sh : Sh 2 (501 * (r.map fun r => (orderW r).getD []).length) (.list ((r.map fun r => (orderW r).getD []).map tupD)) := Sh.lst (sh_rows51 fun l hl => by
        obtain ⟨r', hr', rfl⟩ := List.mem_map.mp hl
        have g := g5 r' hr'
        cases eo : orderW r' with
        | none => rw [goodW_none eo] at g; cases g
        | some o =>
          obtain ⟨h1, h2, h3⟩ := (goodW_some eo).mp g
          show o.length ≤ 60 ∧ ∀ x ∈ o, x < 60
          exact ⟨by omega, fun x hx => by have := h3 x hx; omega⟩)
      have hDe := se _ _ hD5
      have r6 := r5.same se
      have ht8 := se _ _ ht7
      have s06 := s05.trans se
      have hee : (upd H5 e (.lst [])) e = some (.lst []) := upd_same
      generalize upd H5 e (.lst []) = H6 at se hDe r6 ht8 s06 hee ⊢
      refine ⟨_, .list [], .lst (SqL.of hDe) r6.dp, .lst (SqL.of hee) .nil, sh.shaped (by decide), by decide +kernel, _, rfl, ?_⟩
      cases er : r with
      | nil =>
        refine iteF (row rfl s06 ?_)
        exact qe er
      | cons r0 r1 =>
        refine iteT ?_
        refine ⟨.ref t4, rfl, t4, _, 0, .int n, rfl, rfl, SqL.of ht8, atI_nat (j := 0) rfl, .ref D, rfl, D, _, rfl, .inl ⟨SqL.of hDe, fun t nt => ⟨(by show 2 ≤ sizeLine; decide), fun u nu => ⟨(by show 2 ≤ sizeLine; decide), fun z nz => ?_⟩⟩⟩⟩
        have sa := same_new (o := .tup ts) nt
        have sb := same_new (o := .tup [V.int (n : Int), V.ref t]) nu
        have sc := same_new (o := .tup [V.str "returned", V.ref u]) nz
        have s3 := (sa.trans sb).trans sc
        refine qg (by rw [er]; exact List.cons_ne_nil _ _) i5 g5 _ z u t ts (s06.trans s3) ((s06.trans (sa.trans sb)).free nz) upd_same (sc _ _ upd_same) ((sb.trans sc) _ _ upd_same) (r6.same s3)
end
/-! ### what a text of a table is told to be: one of two cases, with its number -/
def Shape51 (x : Str) (R : Int → Prop) (G : Nat → Nat → Prop) : Prop := (headW x = none → R 0) ∧
  (∀ n d : Nat, headW x = some (n, d) → ((Txt.split x lineS).tail = [] → R 1) ∧
    (∀ (i : Nat) (r : Str), (Txt.split x lineS).tail[i]? = some r → (5000 ≤ i ∨ goodW n d r = false) → (∀ r' ∈ (Txt.split x lineS).tail.take i, goodW n d r' = true) → i ≤ 5000 → R ((i : Int) + 1)) ∧
    ((Txt.split x lineS).tail ≠ [] → (Txt.split x lineS).tail.length ≤ 5000 → (∀ r ∈ (Txt.split x lineS).tail, goodW n d r = true) → G n d))
def RowK51 (x : Str) (k : Int) : Prop := (headW x = none ∧ k = 0) ∨ (∃ n d, headW x = some (n, d) ∧ (Txt.split x lineS).tail = [] ∧ k = 1) ∨
  ∃ n d i r, headW x = some (n, d) ∧ (Txt.split x lineS).tail[i]? = some r ∧ (5000 ≤ i ∨ goodW n d r = false) ∧ (∀ r' ∈ (Txt.split x lineS).tail.take i, goodW n d r' = true) ∧ i ≤ 5000 ∧ k = (i : Int) + 1
def GoodK51 (x : Str) (n d : Nat) : Prop := headW x = some (n, d) ∧ (Txt.split x lineS).tail ≠ [] ∧ (Txt.split x lineS).tail.length ≤ 5000 ∧ ∀ r ∈ (Txt.split x lineS).tail, goodW n d r = true
/-- the first row that is refused -/
theorem first51 {n d : Nat} : ∀ (l : List Str) (s : Nat), s ≤ 5000 → (l.length + s ≤ 5000 ∧ ∀ r ∈ l, goodW n d r = true) ∨ ∃ (i : Nat) (r : Str), l[i]? = some r ∧ (5000 ≤ s + i ∨ goodW n d r = false) ∧ (∀ r' ∈ l.take i, goodW n d r' = true) ∧ s + i ≤ 5000
  | [], s, hs => .inl ⟨by rw [List.length_nil]; omega, fun r h => absurd h List.not_mem_nil⟩
  | a :: l, s, hs => by
    by_cases h : 5000 ≤ s ∨ goodW n d a = false
    · exact .inr ⟨0, a, rfl, h, fun r h => absurd h List.not_mem_nil, hs⟩
    · have h1 : s + 1 ≤ 5000 := by
        have : ¬ 5000 ≤ s := fun z => h (.inl z)
        omega
      have h2 : goodW n d a = true := by
        cases e : goodW n d a with
        | true => rfl
        | false => exact absurd (.inr e) h
      rcases first51 (n := n) (d := d) l (s + 1) h1 with ⟨q1, q2⟩ | ⟨i, r, q1, q2, q3, q4⟩
      · refine .inl ⟨by rw [List.length_cons]; omega, fun r hr => ?_⟩
        rcases List.mem_cons.mp hr with rfl | hr
        · exact h2
        · exact q2 r hr
      · refine .inr ⟨i + 1, r, q1, ?_, fun r' hr' => ?_, by omega⟩
        · exact q2.imp_left fun z => by omega
        · rcases List.mem_cons.mp hr' with rfl | hr'
          · exact h2
          · exact q3 r' hr'
theorem cases51 (x : Str) : (∃ k, RowK51 x k) ∨ ∃ n d, GoodK51 x n d := by
  cases hh : headW x with
  | none => exact .inl ⟨0, .inl ⟨hh, rfl⟩⟩
  | some nd =>
    obtain ⟨n, d⟩ := nd
    by_cases ht : (Txt.split x lineS).tail = []
    · exact .inl ⟨1, .inr (.inl ⟨n, d, hh, ht, rfl⟩)⟩
    rcases first51 (n := n) (d := d) (Txt.split x lineS).tail 0 (by decide) with ⟨q1, q2⟩ | ⟨i, r, q1, q2, q3, q4⟩
    · exact .inr ⟨n, d, hh, ht, q1, q2⟩
    · rw [Nat.zero_add] at q2 q4
      exact .inl ⟨_, .inr (.inr ⟨n, d, i, r, hh, q1, q2, q3, q4, rfl⟩)⟩
theorem shape_row51 {x : Str} {k : Int} {R : Int → Prop} {G : Nat → Nat → Prop} (h : RowK51 x k) (r0 : R k) : Shape51 x R G := by
  rcases h with ⟨hh, rfl⟩ | ⟨n, d, hh, ht, rfl⟩ | ⟨n, d, i, r, hh, h1, h2, h3, h4, rfl⟩
  · exact ⟨fun _ => r0, fun n d e => (by rw [hh] at e; cases e)⟩
  · refine ⟨fun e => (by rw [hh] at e; cases e), fun n' d' e => ?_⟩
    rw [hh] at e
    cases e
    refine ⟨fun _ => r0, fun i r e => ?_, fun z => absurd ht z⟩
    rw [ht] at e
    cases e
  · refine ⟨fun e => (by rw [hh] at e; cases e), fun n' d' e => ?_⟩
    rw [hh] at e
    cases e
    refine ⟨fun z => (by rw [z] at h1; cases h1), fun i' r' g1 g2 g3 g4 => ?_, fun _ z1 z2 => ?_⟩
    · have ei : i' = i := by
        rcases Nat.lt_trichotomy i' i with lt | e | lt
        · have hm : r' ∈ (Txt.split x lineS).tail.take i := List.mem_of_getElem? (i := i') (by rw [List.getElem?_take, if_pos lt]; exact g1)
          rcases g2 with g2 | g2
          · omega
          · rw [h3 r' hm] at g2
            cases g2
        · exact e
        · have hm : r ∈ (Txt.split x lineS).tail.take i' := List.mem_of_getElem? (i := i) (by rw [List.getElem?_take, if_pos lt]; exact h1)
          rcases h2 with h2 | h2
          · omega
          · rw [g3 r hm] at h2
            cases h2
      rw [ei]
      exact r0
    · exfalso
      rcases h2 with h2 | h2
      · have := (List.getElem?_eq_some_iff.mp h1).1
        omega
      · rw [z2 r (List.mem_of_getElem? h1)] at h2
        cases h2
theorem shape_good51 {x : Str} {n d : Nat} {R : Int → Prop} {G : Nat → Nat → Prop} (h : GoodK51 x n d) (g : G n d) : Shape51 x R G := by
  obtain ⟨hh, h1, h2, h3⟩ := h
  refine ⟨fun e => (by rw [hh] at e; cases e), fun n' d' e => ?_⟩
  rw [hh] at e
  cases e
  refine ⟨fun z => absurd z h1, fun i r g1 g2 _ _ => ?_, fun _ _ _ => g⟩
  exfalso
  rcases g2 with g2 | g2
  · have := (List.getElem?_eq_some_iff.mp g1).1
    omega
  · rw [h3 r (List.mem_of_getElem? g1)] at g2
    cases g2
theorem readT_row51 {K : PySem.W.Frag} {CT : Addr} {H : Hp} {Q : VK} {E : XK} {x : Str} {k : Int} (h : RowK51 x k) (hl : x.length + 2 ≤ sizeLine) (r : Raised "row" CT (.int k) H E) : spReadT K CT [.str x] H Q E :=
  ⟨_, rfl, .inl ⟨x, rfl, hl, shape_row51 (R := fun k => Raised "row" CT (.int k) H E) h r⟩⟩
theorem readT_good51 {K : PySem.W.Frag} {CT : Addr} {H : Hp} {Q : VK} {E : XK} {x : Str} {n d : Nat} (h : GoodK51 x n d) (hl : x.length + 2 ≤ sizeLine)
    (g : ∀ H' u t ts, Same H H' → H u = none → H t = none → H' u = some (.tup [.int n, .ref t]) → H' t = some (.tup ts) → RowsL K H' ts ((Txt.split x lineS).tail.map fun r => (orderW r).getD []) → Q (.ref u) H') : spReadT K CT [.str x] H Q E :=
  ⟨_, rfl, .inl ⟨x, rfl, hl, shape_good51 (R := fun k => Raised "row" CT (.int k) H E) (G := fun n d => ∀ H' u t ts, Same H H' → H u = none → H t = none → H' u = some (.tup [.int n, .ref t]) → H' t = some (.tup ts) → RowsL K H' ts ((Txt.split x lineS).tail.map fun r => (orderW r).getD []) → Q (.ref u) H') h g⟩⟩
theorem tabR_row51 {K : PySem.W.Frag} {H : Hp} {Q : VK} {E : XK} {x : Str} {k : Int} (h : RowK51 x k) (hl : x.length + 2 ≤ sizeLine) (r : RowR H Q k) : spLTabR K [.str x] H Q E :=
  ⟨x, rfl, hl, shape_row51 (R := RowR H Q) h r⟩
theorem tabR_good51 {K : PySem.W.Frag} {H : Hp} {Q : VK} {E : XK} {x : Str} {n d : Nat} (h : GoodK51 x n d) (hl : x.length + 2 ≤ sizeLine)
    (g : ∀ H' z u t ts, Same H H' → H z = none → H' z = some (.tup [.str "returned", .ref u]) → H' u = some (.tup [.int n, .ref t]) → H' t = some (.tup ts) → RowsL K H' ts ((Txt.split x lineS).tail.map fun r => (orderW r).getD []) → Q (.ref z) H') : spLTabR K [.str x] H Q E :=
  ⟨x, rfl, hl, shape_good51 (R := RowR H Q) (G := fun n d => ∀ H' z u t ts, Same H H' → H z = none → H' z = some (.tup [.str "returned", .ref u]) → H' u = some (.tup [.int n, .ref t]) → H' t = some (.tup ts) → RowsL K H' ts ((Txt.split x lineS).tail.map fun r => (orderW r).getD []) → Q (.ref z) H') h g⟩
/-! ### a text read back -/
section
open TL PySem.NumText
theorem tl_inj50 {a b : Str} (h : tl a = tl b) : a = b := (List.cons.inj (map_tl_inj (l := [a]) (m := [b]) (by rw [List.map_cons, List.map_cons, h]))).1
theorem joinL_free {S : List Nat} {c : Nat} (hS : c ∉ S) : ∀ {parts : List (List Nat)}, (∀ p ∈ parts, c ∉ p) → c ∉ joinL S parts
  | [], _ => List.not_mem_nil
  | [p], h => h p List.mem_cons_self
  | p :: q :: r, h => by
    show c ∉ p ++ (S ++ joinL S (q :: r))
    rw [List.mem_append, List.mem_append]
    rintro (z | z | z)
    · exact h p List.mem_cons_self z
    · exact hS z
    · exact joinL_free hS (fun x hx => h x (List.mem_cons_of_mem _ hx)) z
theorem tl_blank : tl blankS = [32] := by rw [blank_mk]
theorem tl_line : tl lineS = [10] := by rw [line_mk]
theorem tl_join50 (y : Str) (parts : List Str) : tl (Txt.join y parts) = joinL (tl y) (parts.map tl) := by rw [join_eq, tl_join]
theorem natS_free {x c : Nat} (h : c < 48 ∨ 57 < c) : c ∉ tl (natS x) := by
  rw [show tl (natS x) = numL x from tl_num x]
  exact numL_free h
theorem table_free {c : Nat} (h : c < 48) : c ∉ tl tableS := by
  have e : tl tableS = [116, 97, 98, 108, 101] := by decide +kernel
  rw [e]
  simp only [List.mem_cons, List.not_mem_nil, or_false]
  omega
theorem row_free (r : List Nat) : 10 ∉ tl (rowS r) := by
  unfold rowS
  rw [tl_join50, tl_blank]
  refine joinL_free (by decide) fun p hp => ?_
  obtain ⟨w, hw, rfl⟩ := List.mem_map.mp hp
  obtain ⟨x, _, rfl⟩ := List.mem_map.mp hw
  exact natS_free (.inl (by decide))
theorem head_free (n d : Nat) : 10 ∉ tl (Txt.join blankS [tableS, natS n, natS d]) := by
  rw [tl_join50, tl_blank]
  refine joinL_free (by decide) fun p hp => ?_
  obtain ⟨w, hw, rfl⟩ := List.mem_map.mp hp
  rcases List.mem_cons.mp hw with rfl | hw
  · exact table_free (by decide)
  rcases List.mem_cons.mp hw with rfl | hw
  · exact natS_free (.inl (by decide))
  · rw [List.mem_singleton.mp hw]
    exact natS_free (.inl (by decide))
theorem split_text (n d : Nat) (rows : List (List Nat)) : Txt.split (textT n d rows) lineS = Txt.join blankS [tableS, natS n, natS d] :: rows.map rowS := by
  unfold textT
  refine split_join tl_line (by decide +kernel) (List.cons_ne_nil _ _) fun p hp => ?_
  rcases List.mem_cons.mp hp with rfl | hp
  · exact head_free n d
  · obtain ⟨r, _, rfl⟩ := List.mem_map.mp hp
    exact row_free r
theorem split_head (n d : Nat) : Txt.split (Txt.join blankS [tableS, natS n, natS d]) blankS = [tableS, natS n, natS d] := by
  refine split_join tl_blank (by decide +kernel) (List.cons_ne_nil _ _) fun p hp => ?_
  rcases List.mem_cons.mp hp with rfl | hp
  · exact table_free (by decide)
  rcases List.mem_cons.mp hp with rfl | hp
  · exact natS_free (.inl (by decide))
  · rw [List.mem_singleton.mp hp]
    exact natS_free (.inl (by decide))
theorem split_row {r : List Nat} (h : r ≠ []) : Txt.split (rowS r) blankS = r.map natS := by
  unfold rowS
  refine split_join tl_blank (by decide +kernel) (fun e => h (List.map_eq_nil_iff.mp e)) fun p hp => ?_
  obtain ⟨x, _, rfl⟩ := List.mem_map.mp hp
  exact natS_free (.inl (by decide))
theorem big60 {x : Nat} (h : x ≤ 60) : x < 10 ^ 40 := Nat.lt_of_le_of_lt h (by decide +kernel)
theorem fields_head {n d : Nat} (hn : n ≤ 60) (hd : d ≤ 60) : fieldsW (Txt.join blankS [tableS, natS n, natS d]) tableS 2 = some [n, d] := by
  unfold fieldsW
  rw [split_head, if_pos]
  · show some [valW (natS n), valW (natS d)] = _
    rw [natS_val, natS_val]
  · refine ⟨rfl, rfl, ?_⟩
    show (numW (natS n) && (numW (natS d) && true)) = true
    rw [natS_num (big60 hn), natS_num (big60 hd)]
    rfl
theorem head_text {n d : Nat} {rows : List (List Nat)} (n2 : 2 ≤ n) (hn : n ≤ 60) (d1 : 1 ≤ d) (hd : d ≤ n) : headW (textT n d rows) = some (n, d) := by
  unfold headW
  rw [split_text]
  show (match fieldsW (Txt.join blankS [tableS, natS n, natS d]) tableS 2 with
    | some [n, d] => if 2 ≤ n ∧ n ≤ 60 ∧ 1 ≤ d ∧ d ≤ n then some (n, d) else none
    | _ => none) = _
  rw [fields_head hn (by omega)]
  exact if_pos ⟨n2, hn, d1, hd⟩
theorem order_row {r : List Nat} (hne : r ≠ []) (h : ∀ x ∈ r, x < 60) : orderW (rowS r) = some r := by
  unfold orderW
  rw [split_row hne, if_pos]
  · rw [List.map_map]
    congr 1
    have : (valW ∘ natS) = id := funext natS_val
    rw [this, List.map_id]
  · rw [List.all_map, List.all_eq_true]
    exact fun x hx => natS_num (big60 (by have := h x hx; omega))
theorem lchk_nat {n : Nat} : ∀ {r : List Nat} {seen : List Int}, r.Nodup → (∀ x ∈ r, x < n ∧ (x : Int) ∉ seen) → lchk n seen (r.map fun (x : Nat) => TD.int (x : Int)) = true
  | [], _, _, _ => rfl
  | x :: r, seen, nd, h => by
    obtain ⟨h1, h2⟩ := h x List.mem_cons_self
    obtain ⟨n1, n2⟩ := List.nodup_cons.mp nd
    show (decide (0 ≤ (x : Int)) && (decide ((x : Int) < (n : Int)) && (!decide ((x : Int) ∈ seen) && lchk n ((x : Int) :: seen) (r.map fun (x : Nat) => TD.int (x : Int))))) = true
    rw [decide_eq_true (show (0 : Int) ≤ (x : Int) by omega), decide_eq_true (show (x : Int) < (n : Int) by omega), decide_eq_false h2, lchk_nat n2 fun y hy => ⟨(h y (List.mem_cons_of_mem _ hy)).1, fun z => ?_⟩]
    · rfl
    · rcases List.mem_cons.mp z with e | z
      · have : y = x := by omega
        exact n1 (this ▸ hy)
      · exact (h y (List.mem_cons_of_mem _ hy)).2 z
theorem good_row {n d : Nat} {r : List Nat} (hne : r ≠ []) (hl : r.length = d) (nd : r.Nodup) (h : ∀ x ∈ r, x < n) (hn : n ≤ 60) : goodW n d (rowS r) = true := by
  unfold goodW
  rw [order_row hne fun x hx => Nat.lt_of_lt_of_le (h x hx) hn]
  show (decide ((r.map fun (x : Nat) => TD.int (x : Int)).length = d) && lchk n [] (r.map fun (x : Nat) => TD.int (x : Int))) = true
  rw [List.length_map, decide_eq_true hl, Bool.true_and]
  exact lchk_nat nd fun x hx => ⟨h x hx, List.not_mem_nil⟩
theorem text_len {n d : Nat} {rows : List (List Nat)} (hn : n ≤ 60) (hd : d ≤ 60) (hl : rows.length ≤ 1000) (hr : ∀ r ∈ rows, r.length = d ∧ ∀ x ∈ r, x < 60) : (textT n d rows).length + 2 ≤ sizeLine := by
  have h1 := join_len lineS (Txt.join blankS [tableS, natS n, natS d] :: rows.map rowS)
  have h9 := sum_le (f := fun x : Str => x.length) (b := 180) (l := Txt.join blankS [tableS, natS n, natS d] :: rows.map rowS) fun w hw => by
    rcases List.mem_cons.mp hw with rfl | hw
    · exact head_len hn hd
    · obtain ⟨r, h, rfl⟩ := List.mem_map.mp hw
      exact rowS_len (by rw [(hr r h).1]; exact hd) (hr r h).2
  have h10 : lineS.length = 1 := by rw [line_mk]; rfl
  rw [h10] at h1
  rw [List.length_cons, List.length_map] at h9 h1
  rw [sizeLine_eq]
  unfold textT
  omega
/-- the first row, as the law puts it together -/
theorem head_put (n d : Nat) : (("table " : Str) ++ natS n) ++ (" " : Str) ++ natS d = Txt.join blankS [tableS, natS n, natS d] := by
  refine tl_inj50 ?_
  rw [tl_append, tl_append, tl_append, tl_join50, tl_blank]
  have e : tl ("table " : Str) = tl tableS ++ [32] := by decide +kernel
  have e2 : tl (" " : Str) = [32] := tl_blank
  rw [e, e2]
  show _ = tl tableS ++ ([32] ++ (tl (natS n) ++ ([32] ++ tl (natS d))))
  rw [List.append_assoc, List.append_assoc, List.append_assoc]
end
/-! ### a stream beside tables that grow -/
structure StrT (tabs : List (Addr × Str)) (p : Addr) (H0 H : Hp) : Prop where
  str : StrAt H p
  but : ButN p H0 H
  tab : LamX.Tabs tabs H
theorem StrAt.ext {H H' : Hp} {p : Addr} (h : StrAt H p) (e : LamX.ExtN H H') : StrAt H' p := by
  obtain ⟨a, b, h1, h2⟩ := h
  exact ⟨a, b, extN_lst e h1, h2⟩
theorem StrT.same {tabs : List (Addr × Str)} {p : Addr} {H0 H H' : Hp} (h : StrT tabs p H0 H) (s : Same H H') : StrT tabs p H0 H' := ⟨h.str.same s, h.but.same s, tabs_same h.tab s⟩
theorem StrT.to {tabs : List (Addr × Str)} {p : Addr} {H0 H H' : Hp} (h : StrT tabs p H0 H) (b : But p H H') (z : StrAt H' p) : StrT tabs p H0 H' := by
  obtain ⟨xs, e⟩ := h.str.lst
  exact ⟨z, h.but.trans (ButN.of b), tabs_but h.tab e b⟩
theorem StrT.ext {tabs : List (Addr × Str)} {p : Addr} {H0 H H' : Hp} (h : StrT tabs p H0 H) (e : LamX.ExtN H H') (t : LamX.Tabs tabs H') : StrT tabs p H0 H' := ⟨h.str.ext e, h.but.trans (ButN.ext e), t⟩
theorem StrT.ne {tabs : List (Addr × Str)} {p q : Addr} {H0 H : Hp} (h : StrT tabs p H0 H) (n : H q = none) : q ≠ p := fun z => by
  obtain ⟨xs, e⟩ := h.str.lst
  rw [z, e] at n
  cases n
theorem StrT.neT {tabs : List (Addr × Str)} {p q : Addr} {H0 H : Hp} {xs : List V} (h : StrT tabs p H0 H) (n : H q = some (.tup xs)) : q ≠ p := fun z => by
  obtain ⟨ys, e⟩ := h.str.lst
  rw [z, e] at n
  cases n
theorem mem_nat {v : V} {xs : List V} (h : v ∈ xs) (hx : ∀ u ∈ xs, ∃ k : Nat, u = .int (k : Int)) : ∃ k : Nat, v = .int (k : Int) := hx v h
theorem StrT.upd {tabs : List (Addr × Str)} {p D : Addr} {H0 H : Hp} {xs ys : List V} (h : StrT tabs p H0 H) (n : H0 D = none) (hD : H D = some (.lst xs)) (ne : D ≠ p) : StrT tabs p H0 (upd H D (.lst ys)) := by
  refine ⟨?_, fun b o nb e z => ?_, tabs_but h.tab hD (fun b o nb e => by rw [upd_ne nb]; exact e)⟩
  · obtain ⟨x, y, h1, h2⟩ := h.str
    exact ⟨x, y, by rw [upd_ne ne.symm]; exact h1, h2⟩
  · rw [upd_ne (ne_of_none e n)]
    exact h.but b o nb e z
theorem StrT.on {tabs : List (Addr × Str)} {p : Addr} {H0 H1 H : Hp} (a : StrT tabs p H0 H1) (b : StrT tabs p H1 H) : StrT tabs p H0 H := ⟨b.str, a.but.trans b.but, b.tab⟩
theorem StrT.self {tabs : List (Addr × Str)} {p : Addr} {H0 H : Hp} (a : StrT tabs p H0 H) : StrT tabs p H H := ⟨a.str, ButN.refl _ _, a.tab⟩
theorem asc_lenS {L : List Nat} {n : Nat} (a : Asc L) (h : ∀ x ∈ L, x < n) : L.length ≤ n := by
  cases L with
  | nil => exact Nat.zero_le _
  | cons x L =>
    have := asc_le a h (i := 0) (x := x) rfl
    simp only [List.length_cons] at this ⊢
    omega
theorem atI_endS {xs : List V} {v : V} (h : xs[xs.length - 1]? = some v) : atI xs (-1) = some v := by
  rw [← List.getLast?_eq_getElem?] at h
  obtain ⟨ys, rfl⟩ := List.getLast?_eq_some_iff.mp h
  exact L2.atI_last ys v
/-! ### the law -/
def spLaw (K : PySem.W.Frag) (tabs : List (Addr × Str)) : Sp := fun vs H Q _ => ∃ (a : Addr) (ns : List Int), vs = [.ref a] ∧ SqL K H a (ns.map V.int) ∧ ns.length ≤ 63 ∧ LamX.Tabs tabs H ∧ ∀ H', Q (.bl true) H'
theorem text_short {n d : Nat} {rows : List (List Nat)} (hn : n ≤ 60) (hd : d ≤ 60) (hl : rows.length ≤ 9) (hr : ∀ r ∈ rows, r.length = d ∧ ∀ x ∈ r, x < 60) : (textT n d rows).length ≤ 2000 := by
  have h0 : (Txt.join blankS [tableS, natS n, natS d]).length ≤ 12 := by
    have h1 := wtS_join (y := blankS) (by decide +kernel) [tableS, natS n, natS d]
    rw [wtS_cons, wtS_cons, wtS_cons] at h1
    have h2 := natS_short hn
    have h3 := natS_short hd
    have h4 : tableS.length = 5 := by decide +kernel
    have h5 : wtS [] = 0 := rfl
    omega
  have h1 : ∀ s ∈ rows.map rowS, s.length ≤ 180 := fun s hs => by
    obtain ⟨r, hr2, rfl⟩ := List.mem_map.mp hs
    obtain ⟨g1, g2⟩ := hr r hr2
    have h2 := wtS_join (y := blankS) (by decide +kernel) (r.map natS)
    have h3 := sum_le (f := fun s : Str => s.length) (b := 2) (l := r.map natS) fun s hs => by
      obtain ⟨x, hx, rfl⟩ := List.mem_map.mp hs
      exact natS_short (by have := g2 x hx; omega)
    unfold wtS at h2
    rw [List.length_map] at h2 h3
    show (Txt.join blankS (r.map natS)).length ≤ 180
    omega
  have h2 := wtS_join (y := lineS) (by decide +kernel) (Txt.join blankS [tableS, natS n, natS d] :: rows.map rowS)
  have h3 := sum_le (f := fun s : Str => s.length) (b := 180) (l := rows.map rowS) h1
  rw [wtS_cons] at h2
  unfold wtS at h2
  rw [List.length_map] at h2 h3
  show (Txt.join lineS _).length ≤ 2000
  omega
theorem told51 {K : PySem.W.Frag} {mg : Str → Option Value} {T : Txt K mg} {i : Int} {H : Hp} {Q : VK} (h : ∀ H2 x, Same H H2 → H2 x = some (.tup [.str "row", .int i]) → Q (.ref x) H2) : Raised "row" T.cNoT (.int i) H (EOutR T Q) :=
  fun H' d s hd _ => ⟨d, _, rfl, rfl, hd, fun H2 x s2 _ hx => h H2 x (s.trans s2) hx⟩
def rowD (k : Int) : PyData := .tuple [.str "row", .int k]
def retD (n : Nat) (rows : List (List Nat)) : PyData := .tuple [.str "returned", .tuple [.int n, .tuple (rows.map tupD)]]
theorem rowK_nat {x : Str} {k : Int} (h : RowK51 x k) : ∃ m : Nat, k = (m : Int) ∧ m ≤ 5001 := by
  rcases h with ⟨_, rfl⟩ | ⟨_, _, _, _, rfl⟩ | ⟨_, _, i, _, _, _, _, _, h, rfl⟩
  · exact ⟨0, rfl, by decide⟩
  · exact ⟨1, rfl, by decide⟩
  · exact ⟨i + 1, by omega, by omega⟩
theorem shw_row {x : Str} {k : Int} (h : RowK51 x k) : ShW (rowD k) := by
  obtain ⟨m, rfl, hm⟩ := rowK_nat h
  have s1 : Sh 0 100 (.str "row") := ⟨by decide +kernel, by decide +kernel, by decide +kernel, by decide +kernel, by decide +kernel⟩
  have s2 : Sh 0 30 (.int (m : Int)) := Sh.int (by decide) (by decide) (by rw [Int.natAbs_natCast]; exact Nat.lt_of_le_of_lt hm (by decide))
  refine ShW.of ((Sh.tup (ShAll.cons s1 (ShAll.cons s2 (ShAll.nil)))).mono (by decide) (Nat.le_refl _)) ?_ (by decide)
  have l2 := leaves_nat (ms := [m]) (fun x hx => by rw [List.mem_singleton.mp hx]; exact Nat.lt_of_le_of_lt hm (by decide))
  show (PyData.leavesShort 13 (.str "row") && PyData.leavesShortAll 13 (natD [m])) = true
  rw [l2]
  decide +kernel
theorem sh_rowsW : ∀ {rows : List (List Nat)}, (∀ l ∈ rows, ∀ x ∈ l, x < 60) → ShAll 1 (7 * (rows.map (·.length)).sum + 2 * rows.length) (rows.map tupD)
  | [], _ => ShAll.nil.mono (by decide) (by decide)
  | l :: r, h => by
    have h1 := Sh.tup (sh_nat (ms := l) (b := 6) (by decide) (by decide) fun x hx => Nat.lt_of_lt_of_le (h l List.mem_cons_self x hx) (by decide))
    have h2 := sh_rowsW (rows := r) fun x hx => h x (List.mem_cons_of_mem _ hx)
    refine (ShAll.cons h1 h2).mono (Nat.le_refl _) ?_
    rw [List.map_cons, List.sum_cons, List.length_cons]
    omega
theorem head_le {x : Str} {n d : Nat} (h : headW x = some (n, d)) : n ≤ 60 := by
  unfold headW at h
  split at h
  · split at h
    · split at h
      · rename_i c
        cases h
        exact c.2.1
      · cases h
    · cases h
  · cases h
theorem order_sum : ∀ l : List Str, ((l.map fun r => (orderW r).getD []).map (·.length)).sum ≤ wtS l
  | [] => Nat.le_refl _
  | r :: l => by
    have h1 := order_sum l
    have h2 : ((orderW r).getD []).length ≤ r.length + 1 := by
      unfold orderW
      split
      · show ((Txt.split r blankS).map valW).length ≤ _
        rw [List.length_map]
        have := wtS_split r blankS (by decide +kernel)
        unfold wtS at this
        omega
      · exact Nat.zero_le _
    rw [List.map_cons, List.map_cons, List.sum_cons, wtS_cons]
    omega
theorem shw_ret {x : Str} {n d : Nat} (h : GoodK51 x n d) (hl : x.length ≤ 30000) : ShW (retD n ((Txt.split x lineS).tail.map fun r => (orderW r).getD [])) := by
  obtain ⟨hh, h1, h2, h3⟩ := h
  have n60 := head_le hh
  have hx : ∀ l ∈ (Txt.split x lineS).tail.map fun r => (orderW r).getD [], ∀ y ∈ l, y < 60 := fun l hl y hy => by
    obtain ⟨r, hr, rfl⟩ := List.mem_map.mp hl
    have g := h3 r hr
    cases eo : orderW r with
    | none => rw [goodW_none eo] at g; cases g
    | some o =>
      rw [eo] at hy
      have := ((goodW_some eo).mp g).2.2 y hy
      omega
  have hw := order_sum (Txt.split x lineS).tail
  have hs := wtS_split x lineS (by decide +kernel)
  have ht : wtS (Txt.split x lineS).tail ≤ wtS (Txt.split x lineS) := by
    cases Txt.split x lineS with
    | nil => exact Nat.le_refl _
    | cons a r => rw [wtS_cons]; show wtS r ≤ _; omega
  generalize er : ((Txt.split x lineS).tail.map fun r => (orderW r).getD []) = rows at hx hw ⊢
  have rl : rows.length ≤ 5000 := by rw [← er, List.length_map]; exact h2
  have s1 : Sh 0 200 (.str "returned") := ⟨by decide +kernel, by decide +kernel, by decide +kernel, by decide +kernel, by decide +kernel⟩
  have s2 : Sh 0 30 (.int (n : Int)) := Sh.int (by decide) (by decide) (by rw [Int.natAbs_natCast]; exact Nat.lt_of_le_of_lt n60 (by decide))
  have s3 := Sh.tup (sh_rowsW hx)
  have s4 := Sh.tup (ShAll.cons (s2.mono (dp' := 2) (Nat.zero_le _) (Nat.le_refl _)) (ShAll.cons s3 (ShAll.nil.mono (Nat.zero_le _) (Nat.le_refl _))))
  have s5 := Sh.tup (ShAll.cons (s1.mono (dp' := 3) (Nat.zero_le _) (Nat.le_refl _)) (ShAll.cons s4 (ShAll.nil.mono (Nat.zero_le _) (Nat.le_refl _))))
  refine ShW.of (s5.mono (by decide) (Nat.le_refl _)) ?_ (by omega)
  have l2 := leaves_nat (ms := [n]) (fun x hx => by rw [List.mem_singleton.mp hx]; exact Nat.lt_of_le_of_lt n60 (by decide))
  have l3 := leaves_rows (rows := rows) (fun r hr x hx2 => Nat.lt_of_lt_of_le (hx r hr x hx2) (by decide))
  have l4 : PyData.leavesShort 13 (.int (n : Int)) = true := by
    have : (PyData.leavesShort 13 (.int (n : Int)) && true) = true := l2
    rw [Bool.and_true] at this
    exact this
  show (PyData.leavesShort 13 (.str "returned") && ((PyData.leavesShort 13 (.int (n : Int)) && (PyData.leavesShortAll 13 (rows.map fun r => PyData.tuple (natD r)) && true)) && true)) = true
  rw [l3, l4]
  decide +kernel
/-- the longest table of depth one that is read -/
def rows51 : List (List Nat) := (List.replicate 2500 [[0], [1]]).flatten
theorem rows51_len : rows51.length = 5000 := by decide +kernel
theorem rows51_mem {r : List Nat} (h : r ∈ rows51) : r = [0] ∨ r = [1] := by
  obtain ⟨l, hl, hr⟩ := List.mem_flatten.mp h
  obtain rfl := (List.mem_replicate.mp hl).2
  rcases List.mem_cons.mp hr with rfl | hr
  · exact .inl rfl
  · exact .inr (List.mem_singleton.mp hr)
theorem rows51_good {r : List Nat} (h : r = [0] ∨ r = [1]) : goodW 2 1 (rowS r) = true := by
  rcases h with rfl | rfl <;> exact good_row (by decide) rfl (by decide) (by decide) (by decide)
theorem good51 : GoodK51 (textT 2 1 rows51) 2 1 := by
  refine ⟨head_text (by decide) (by decide) (by decide) (by decide), ?_⟩
  rw [split_text]
  show rows51.map rowS ≠ [] ∧ (rows51.map rowS).length ≤ 5000 ∧ ∀ r ∈ rows51.map rowS, goodW 2 1 r = true
  refine ⟨fun z => ?_, by rw [List.length_map, rows51_len]; decide, fun r hr => ?_⟩
  · have h := congrArg List.length z
    rw [List.length_map, rows51_len] at h
    cases h
  · obtain ⟨r0, h0, rfl⟩ := List.mem_map.mp hr
    exact rows51_good (rows51_mem h0)
theorem more51 : RowK51 (textT 2 1 (rows51 ++ [[1]])) 5001 := by
  refine .inr (.inr ⟨2, 1, 5000, rowS [1], head_text (by decide) (by decide) (by decide) (by decide), ?_⟩)
  rw [split_text]
  show ((rows51 ++ [[1]]).map rowS)[5000]? = some (rowS [1]) ∧ _ ∧ (∀ r' ∈ ((rows51 ++ [[1]]).map rowS).take 5000, goodW 2 1 r' = true) ∧ _
  refine ⟨?_, .inl (by decide), fun r hr => ?_, by decide, by decide⟩
  · rw [List.getElem?_map, List.getElem?_append_right (by rw [rows51_len]; decide), rows51_len]
    rfl
  · obtain ⟨r0, h0, rfl⟩ := List.mem_map.mp (List.mem_of_mem_take hr)
    refine rows51_good ?_
    rcases List.mem_append.mp h0 with h | h
    · exact rows51_mem h
    · exact .inr (List.mem_singleton.mp h)
theorem vals51 : [V.str "table 2 1"] ++ (List.replicate (2500 : Int).toNat [V.str "0", V.str "1"]).flatten = (Txt.join blankS [tableS, natS 2, natS 1] :: rows51.map rowS).map V.str := by
  have h1 : Txt.join blankS [tableS, natS 2, natS 1] = "table 2 1" := by decide +kernel
  have h2 : rowS [0] = "0" := by decide +kernel
  have h3 : rowS [1] = "1" := by decide +kernel
  unfold rows51
  rw [h1, List.map_cons, List.map_map, List.map_flatten, List.map_replicate]
  show V.str "table 2 1" :: (List.replicate 2500 [V.str "0", V.str "1"]).flatten = V.str "table 2 1" :: (List.replicate 2500 [V.str (rowS [0]), V.str (rowS [1])]).flatten
  rw [h2, h3]
theorem wt51 (rows : List (List Nat)) (h : ∀ r ∈ rows, r = [0] ∨ r = [1]) : wtS (Txt.join blankS [tableS, natS 2, natS 1] :: rows.map rowS) ≤ 10 + 2 * rows.length := by
  have h1 : (Txt.join blankS [tableS, natS 2, natS 1]).length = 9 := by decide +kernel
  have h2 := sum_le (f := fun s : Str => s.length) (b := 1) (l := rows.map rowS) fun s hs => by
    obtain ⟨r, hr, rfl⟩ := List.mem_map.mp hs
    rcases h r hr with rfl | rfl <;> decide +kernel
  rw [List.length_map] at h2
  rw [wtS_cons, h1]
  unfold wtS
  rw [List.length_map]
  omega
section
variable {P : Program} {w : World} {K : PySem.W.Frag} {mg : Str → Option Value} {base : Heap}
theorem ok_law {f : Addr} {fd : FuncData} (F : Fun K "law" "law" sLaw f fd) (T : Txt K mg) (co : CodeOf K f T.ccLaw) (B : TBs T base) : FnG P w K mg base CX0 10 f fd ["_law_script"] (spLaw K (tabsOf T)) := by
  refine Fun_ok0C F co scLaw (fun vs H Q E h => ?_) (fun A outer s H vs Q E gd hr h => ?_)
  · obtain ⟨a, ns, rfl, _⟩ := h
    rfl
  · obtain ⟨a, ns, rfl, hS, hlen, hT0, q⟩ := h
    have hu66 : (A.deeper (envOfC "law" (defScope sLaw) s.heap.objs.size f (.ref T.ccLaw))).units + 66 < cLine := by
      have := hr.un
      omega
    have hu64 : (A.deeper (envOfC "law" (defScope sLaw) s.heap.objs.size f (.ref T.ccLaw))).units + 64 < cLine := by omega
    refine ⟨_, pss_cons (ps_for PassesOwn.never rfl (pi_range1 (by rfl) T.n_range (pa_cons (pe_callB (call_max2 rfl) (by rfl) T.n_max (by decide +kernel) (pa_cons pe_int (pa_cons (pe_callB (call_min2 rfl) (by rfl) T.n_min (by decide +kernel) (pa_cons pe_int (pa_cons (pe_callB (call_lenK K) (by rfl) T.n_len PySem.boot_len (pa_cons (pv 0) pa_nil)) pa_nil))) pa_nil))) pa_nil)) (pg_name (i := 1) scLaw.nd rfl (.inl rfl)) (pss_cons (ps_set (i := 2) scLaw.nd rfl (.inl rfl) (pe_call (ok_stream T) hr (by rfl) T.gStream T.FStream.kp T.bStream .nil pass0 (pa_cons (pv 0) (pa_cons (pv 1) pa_nil)))) (pss_cons (ps_set (i := 3) scLaw.nd rfl (.inl rfl) (pe_op op_add pe_int (pe_call (ok_draw T) hr (by rfl) T.gDraw T.FDraw.kp T.bDraw .nil pass0 (pa_cons (pv 2) (pa_cons (pe_call (ok_pick T) hr (by rfl) T.gPick T.FPick.kp T.bPick .nil pass0 (pa_cons (pv 2) (pa_cons (pe_lst (pa_cons pe_int (pa_cons pe_int (pa_cons pe_int pa_nil)))) pa_nil))) pa_nil))))) (pss_cons (ps_set (i := 4) scLaw.nd rfl (.inl rfl) (pe_call (ok_showt T) hr (by rfl) T.gShowT T.FShowT.kp T.bShowT .nil pass0 (pa_cons (pv 3) (pa_cons (pe_call (ok_tables T) hr (by rfl) T.gTableS T.FTableS.kp T.bTableS .nil pass0 (pa_cons (pv 2) (pa_cons (pv 3) (pa_cons (pe_op op_add pe_int (pe_call (ok_draw T) hr (by rfl) T.gDraw T.FDraw.kp T.bDraw .nil pass0 (pa_cons (pv 2) (pa_cons (pv 3) pa_nil)))) pa_nil)))) pa_nil)))) (pss_one (ps_for PassesOwn.never rfl (pi_range1 (by rfl) T.n_range (pa_cons pe_int pa_nil)) (pg_name (i := 5) scLaw.nd rfl (.inl rfl)) (pss_cons (ps_set (i := 6) scLaw.nd rfl (.inr rfl) (pe_call (ok_lbent T) hr (by rfl) T.gLBent T.FLBent.kp T.bLBent .nil pass0 (pa_cons (pv 2) (pa_cons (pv 4) pa_nil)))) (C8.pss_cut (ps_if (pt_cmpR op_eq (pe_call (ok_draw T) hr (by rfl) T.gDraw T.FDraw.kp T.bDraw .nil pass0 (pa_cons (pv 2) (pa_cons pe_int pa_nil))) pe_int (nomark _)) (pss_one (ps_set (i := 6) scLaw.nd rfl (.inr rfl) (pe_call (ok_lbent T) hr (by rfl) T.gLBent T.FLBent.kp T.bLBent .nil pass0 (pa_cons (pv 2) (pa_cons (pv 6) pa_nil))))) pss_nil) (pss_one (ps_if (pt_cmpR op_ne (pe_callB (call_reprW gd hu66) (by rfl) T.n_repr (by decide +kernel) (pa_cons (pe_lam (T := tabsOf T) T.FReadL (by rfl) T.gReadL T.bReadL scReadL rfl (Or.inl rfl) (fun cdg => gives_readl T rfl rfl) B.tbLaw rfl (.head _) hu1 hr (LamX.lamS_by (sc := defScope sLaw) (by decide +kernel)) (fun A outer s H E f c' hr => (pe_call (ok_readt T) hr (by rfl) T.gReadT T.FReadT.kp T.bReadT .nil (passes_call (takes_of rfl rfl rfl rfl) (fun _ _ _ _ h => h)) (pa_cons (pv 6) pa_nil)))) pa_nil)) (pe_callB (call_reprW gd hu66) (by rfl) T.n_repr (by decide +kernel) (pa_cons (pe_call (ok_ltabr T) hr (by rfl) T.gLTabR T.FLTabR.kp T.bLTabR .nil pass0 (pa_cons (pv 6) pa_nil)) pa_nil)) (nomark _)) (pss_one (ps_ret pe_bl)) pss_nil)))))))))) (pss_cons (ps_set (i := 7) scLaw.nd rfl (.inr rfl) (pe_op op_cat (pe_lst (pa_cons pe_str pa_nil)) (pe_op op_rep (pe_lst (pa_cons pe_str (pa_cons pe_str pa_nil))) pe_int))) (pss_cons (ps_if (pt_cmpR op_ne (pe_ix (ix_tupK K) (pe_lam (T := tabsOf T) T.FReadL (by rfl) T.gReadL T.bReadL scReadL rfl (Or.inl rfl) (fun cdg => gives_readl T rfl rfl) B.tbLaw rfl (.head _) hu1 hr (LamX.lamS_by (sc := defScope sLaw) (by decide +kernel)) (fun A outer s H E f c' hr => (pe_call (ok_readt T) hr (by rfl) T.gReadT T.FReadT.kp T.bReadT .nil (passes_call (takes_of rfl rfl rfl rfl) (fun _ _ _ _ h => h)) (pa_cons (pe_joinK K pe_str (pv 7)) pa_nil)))) pe_int (fun _ _ => rfl)) pe_str (nomark _)) (pss_one (ps_ret pe_bl)) pss_nil) (pss_one (ps_ret (pe_cmpR (op_eqDK K hu64) (pe_lam (T := tabsOf T) T.FReadL (by rfl) T.gReadL T.bReadL scReadL rfl (Or.inl rfl) (fun cdg => gives_readl T rfl rfl) B.tbLaw rfl (.head _) hu1 hr (LamX.lamS_by (sc := defScope sLaw) (by decide +kernel)) (fun A outer s H E f c' hr => (pe_call (ok_readt T) hr (by rfl) T.gReadT T.FReadT.kp T.bReadT .nil (passes_call (takes_of rfl rfl rfl rfl) (fun _ _ _ _ h => h)) (pa_cons (pe_joinK K pe_str (pe_op op_cat (pv 7) (pe_lst (pa_cons pe_str pa_nil)))) pa_nil)))) (pe_tup (pa_cons pe_str (pa_cons pe_int pa_nil))) (nomark _)))))), ?_⟩
    refine ⟨.ref a, rfl, a, _, rfl, .inl hS, _, _, rfl, _, _, rfl, _, rfl, ?_, ?_, ?_⟩
    · split <;> split <;> omega
    · split <;> split <;> omega
    refine for_range (lo := 0) (fun i σ H2 => ∃ v1 v2 v3 v4 v5 v6, σ = [some (.ref a), v1, v2, v3, v4, v5, v6, none] ∧ LamX.ExtN H H2 ∧ LamX.Tabs (tabsOf T) H2) ⟨none, none, none, none, none, none, rfl, LamX.ExtN.refl _, hT0⟩ ?_ ?_
    · rintro i σ H2 hi ⟨v1, v2, v3, v4, v5, v6, rfl, s2, hT2⟩
      have hi3 : i < 3 := by
        refine Nat.lt_of_lt_of_le hi ?_
        split <;> split <;> omega
      rw [Int.zero_add]
      refine ⟨.ref a, rfl, _, rfl, a, ns, i, rfl, SqL_extN hS s2, by omega, by omega, fun H3 p s3 np P3 => ?_⟩
      have e3 : LamX.ExtN H H3 := LamX.ExtN.trans s2 (extN_same s3)
      have T3 := tabs_same hT2 s3
      have hp0 : H p = none ∨ ∃ ps, H p = some (.tbl ps) := by
        cases e : H p with
        | none => exact .inl rfl
        | some o =>
          refine .inr (Classical.byContradiction fun z => ?_)
          have := s2 _ _ e (fun ps w => z ⟨ps, by rw [w]⟩)
          rw [np] at this
          cases this
      have ext : ∀ {H1 H2 : Hp}, LamX.ExtN H H1 → But p H1 H2 → LamX.ExtN H H2 := fun e b q o h nt => b _ _ (fun z => by
        rw [z] at h
        rcases hp0 with g | ⟨ps, g⟩
        · rw [g] at h; cases h
        · rw [g] at h
          exact nt ps (Option.some.inj h).symm) (e q o h nt)
      have tb : ∀ {H1 H2 : Hp}, LamX.Tabs (tabsOf T) H1 → StrAt H1 p → But p H1 H2 → LamX.Tabs (tabsOf T) H2 := fun t P b => by
        obtain ⟨ys, hy⟩ := P.lst
        exact tabs_but t hy b
      refine ⟨.ref p, rfl, .ref p, rfl, (by show 3 ≤ sizeLine; decide), fun l nl => ?_⟩
      have sl := same_new (o := .lst [V.int 11, V.int 11, V.int 59]) nl
      refine ⟨p, l, _, rfl, P3.same sl, (P3.ne nl).symm, .inl (SqL.of upd_same), (by show 1 ≤ 3; decide), (by show 3 ≤ 100000; decide), fun v H4 hv P4 b4 => ?_⟩
      obtain ⟨u, rfl, u1, u2⟩ : ∃ u : Int, v = .int u ∧ 1 ≤ u ∧ u ≤ 59 := by
        rcases List.mem_cons.mp hv with rfl | hv
        · exact ⟨11, rfl, by decide, by decide⟩
        rcases List.mem_cons.mp hv with rfl | hv
        · exact ⟨11, rfl, by decide, by decide⟩
        rcases List.mem_cons.mp hv with rfl | hv
        · exact ⟨59, rfl, by decide, by decide⟩
        cases hv
      refine ⟨p, u, rfl, P4, u1, Int.lt_trans (show u < 100 by omega) (by decide +kernel), fun r1 H5 r10 r1l P5 b5 => ⟨_, _, rfl, rfl, ?_⟩⟩
      obtain ⟨n, hn, n2, n60⟩ : ∃ n : Nat, (2 : Int) + r1 = (n : Int) ∧ 2 ≤ n ∧ n ≤ 60 := ⟨(2 + r1).toNat, by omega, by omega, by omega⟩
      dsimp only [gName]
      rw [hn]
      have e5 := ext (ext (LamX.ExtN.trans e3 (extN_same sl)) b4) b5
      have T5 := tb (tb (tabs_same T3 sl) (P3.same sl) b4) P4 b5
      refine ⟨_, rfl, .ref p, rfl, _, rfl, .ref p, rfl, _, rfl, p, n, rfl, P5, by omega, Int.lt_trans (show (n : Int) < 100 by omega) (by decide +kernel), fun r4 H9 r40 r4l P9 b9 => ⟨_, _, rfl, rfl, ?_⟩⟩
      obtain ⟨k4, rfl⟩ := Int.eq_ofNat_of_zero_le r40
      refine ⟨p, n, 1 + k4, by rw [Int.natCast_add]; rfl, P9, n60, by omega, fun H10 t ts rows b10 P10 ht R10 tab rr1 rr9 => ?_⟩
      have hne : rows ≠ [] := fun e => by
        rw [e] at rr1
        exact absurd rr1 (by decide)
      have hrow : ∀ r ∈ rows, r.length = 1 + k4 ∧ ∀ x ∈ r, x < 60 := fun r hr => by
        obtain ⟨x1, _, x3⟩ := tab r hr
        exact ⟨x1, fun x hx => by have := x3 x hx; omega⟩
      refine ⟨n, 1 + k4, t, ts, rows, rfl, SqT.of ht, R10, by omega, hne, n60, by omega, hrow, fun H11 s11 => ?_⟩
      have e11 := LamX.ExtN.trans (ext (ext e5 b9) b10) (extN_same s11)
      have T11 := tabs_same (tb (tb T5 P5 b9) P9 b10) s11
      have P11 := P10.same s11
      have xl : (textT n (1 + k4) rows).length ≤ 2000 := text_short n60 (by omega) rr9 hrow
      generalize textT n (1 + k4) rows = x0 at xl ⊢
      refine ⟨18, rfl, by omega, by decide, ?_⟩
      refine for_range (lo := 0) (fun j σ H' => ∃ v5 v6, σ = [some (.ref a), some (.int (i : Int)), some (.ref p), some (.int (n : Int)), some (.str x0), v5, v6, none] ∧ LamX.ExtN H H' ∧ LamX.Tabs (tabsOf T) H' ∧ StrAt H' p) ⟨_, _, rfl, e11, T11, P11⟩ ?_ ?_
      · rintro j σ H12 hj ⟨v5, v6, rfl, e12, T12, P12⟩
        refine ⟨.ref p, rfl, _, rfl, p, x0, rfl, P12, by omega, fun H13 y b13 P13 hy => ?_⟩
        have e13 := ext e12 b13
        have T13 := tb T12 P12 b13
        refine ⟨fun σ H' => ∃ y : Str, σ = [some (.ref a), some (.int (i : Int)), some (.ref p), some (.int (n : Int)), some (.str x0), some (.int (0 + (j : Int))), some (.str y), none] ∧ LamX.ExtN H H' ∧ LamX.Tabs (tabsOf T) H' ∧ StrAt H' p ∧ y.length ≤ 30000, ?_, ?_⟩
        · refine ⟨.ref p, rfl, p, 3, rfl, P13, by decide, by decide +kernel, fun r5 H14 r50 r5l P14 b14 => ?_⟩
          have e14 := ext e13 b14
          have T14 := tb T13 P13 b14
          refine ⟨rfl, _, rfl, ?_⟩
          refine ite2 (fun _ => ?_) (fun _ => ?_)
          · refine ⟨.ref p, rfl, _, rfl, p, y, rfl, P14, by omega, fun H15 y2 b15 P15 hy2 => ?_⟩
            exact ⟨y2, rfl, ext e14 b15, tb T14 P14 b15, P15, by omega⟩
          · exact ⟨y, rfl, e14, T14, P14, by omega⟩
        rintro σ H14 ⟨y, rfl, e14, T14, P14, yl⟩
        have ysz : y.length + 2 ≤ sizeLine := by rw [sizeLine_eq]; omega
        refine ⟨T14, fun HD eD TD HE Q' sE hq => ?_⟩
        have eE : LamX.ExtN H14 HE := LamX.ExtN.trans eD (extN_same sE)
        have fin : ∀ {H' : Hp}, Same HE H' → ∃ v5 v6 : Option V, ([some (.ref a), some (.int (i : Int)), some (.ref p), some (.int (n : Int)), some (.str x0), some (.int (0 + (j : Int))), some (.str y), none] : L2.St) = [some (.ref a), some (.int (i : Int)), some (.ref p), some (.int (n : Int)), some (.str x0), v5, v6, none] ∧ LamX.ExtN H H' ∧ LamX.Tabs (tabsOf T) H' ∧ StrAt H' p := fun s' =>
          ⟨_, _, rfl, LamX.ExtN.trans e14 (LamX.ExtN.trans eE (extN_same s')), tabs_same TD (sE.trans s'), P14.ext (LamX.ExtN.trans eE (extN_same s'))⟩
        rcases cases51 y with ⟨k, hk⟩ | ⟨n', d', hg⟩
        · obtain ⟨dd, sw, dp⟩ : ∃ dd, ShW dd ∧ ∀ (H : Hp) (x : Addr), H x = some (.tup [V.str "row", V.int k]) → Dp K H (.ref x) dd := ⟨rowD k, shw_row hk, fun H x hx => .tup (SqT.of hx) (.cons (.str _) (.cons (.int _) .nil))⟩
          refine ⟨.str y, rfl, readT_row51 hk ysz (told51 fun H9 x s9 hx => ?_)⟩
          refine ⟨.ref x, dd, rfl, dp _ _ hx, sw, ?_⟩
          refine ⟨.str y, rfl, tabR_row51 (E := E0) hk ysz fun H10 z s10 nz hz => ?_⟩
          refine ⟨.ref z, dd, rfl, dp _ _ hz, sw, rfl, _, rfl, iteNS rfl ?_⟩
          exact fin (s9.trans s10)
        · obtain ⟨dd, sw, dp⟩ : ∃ dd, ShW dd ∧ ∀ (H : Hp) (x u t : Addr) (ts : List V), H x = some (.tup [V.str "returned", V.ref u]) → H u = some (.tup [V.int (n' : Int), V.ref t]) → H t = some (.tup ts) → RowsL K H ts ((Txt.split y lineS).tail.map fun r => (orderW r).getD []) → Dp K H (.ref x) dd :=
            ⟨retD n' _, shw_ret hg yl, fun H x u t ts hx hu ht R => .tup (SqT.of hx) (.cons (.str _) (.cons (.tup (SqT.of hu) (.cons (.int _) (.cons (.tup (SqT.of ht) R.dp) .nil))) .nil))⟩
          refine ⟨.str y, rfl, readT_good51 hg ysz fun H8 u t ts s8 nu nt hu ht R8 => ?_⟩
          refine hq _ H8 fun H9 x s9 nx hx => ?_
          refine ⟨.ref x, dd, rfl, dp _ _ u t ts hx (s9 _ _ hu) (s9 _ _ ht) (R8.same s9), sw, ?_⟩
          refine ⟨.str y, rfl, tabR_good51 (E := E0) hg ysz fun H10 z u2 t2 ts2 s10 nz hz hu2 ht2 R10 => ?_⟩
          refine ⟨.ref z, dd, rfl, dp _ _ u2 t2 ts2 hz hu2 ht2 R10, sw, rfl, _, rfl, iteNS rfl ?_⟩
          exact fin ((s8.trans s9).trans s10)
      · rintro σ H12 ⟨v5, v6, rfl, e12, T12, P12⟩
        exact ⟨_, _, _, _, _, _, rfl, e12, T12⟩
    · rintro σ H2 ⟨v1, v2, v3, v4, v5, v6, rfl, s2, hT2⟩
      obtain ⟨zs, hz, zl, zv⟩ : ∃ zs, (List.replicate (2500 : Int).toNat [V.str "0", V.str "1"]).flatten = zs ∧ zs.length = 5000 ∧ [V.str "table 2 1"] ++ zs = (Txt.join blankS [tableS, natS 2, natS 1] :: rows51.map rowS).map V.str := by
        refine ⟨_, rfl, ?_, vals51⟩
        have lv := congrArg List.length vals51
        rw [List.length_append, List.length_singleton, List.length_map, List.length_cons, List.length_map, rows51_len] at lv
        omega
      have two : [V.str "0", V.str "1"].length * (2500 : Int).toNat ≤ sizeLine := by rw [sizeLine_eq]; decide +kernel
      refine ⟨(by show 1 ≤ sizeLine; decide), fun l1 n1 => ⟨(by show 2 ≤ sizeLine; decide), fun l2 n2 => ?_⟩⟩
      have s1 := same_new (o := .lst [V.str "table 2 1"]) n1
      have sb := same_new (o := .lst [V.str "0", V.str "1"]) n2
      refine ⟨l2, 2500, _, rfl, rfl, upd_same, by decide, by decide, two, ?_⟩
      rw [hz]
      refine fun l3 n3 => ?_
      have sc := same_new (o := .lst zs) n3
      have hl1 := sc _ _ (sb _ _ (upd_same (H := H2) (a := l1) (o := .lst [V.str "table 2 1"])))
      refine ⟨l1, l3, _, _, rfl, rfl, hl1, upd_same, by rw [zl, sizeLine_eq]; decide, fun l4 n4 => ?_⟩
      rw [zv]
      have sd := ((s1.trans sb).trans sc).trans (same_new (o := .lst ((Txt.join blankS [tableS, natS 2, natS 1] :: rows51.map rowS).map V.str)) n4)
      have h4 : (upd (upd (upd (upd H2 l1 (.lst [V.str "table 2 1"])) l2 (.lst [V.str "0", V.str "1"])) l3 (.lst zs)) l4 (.lst ((Txt.join blankS [tableS, natS 2, natS 1] :: rows51.map rowS).map V.str))) l4 = some (.lst ((Txt.join blankS [tableS, natS 2, natS 1] :: rows51.map rowS).map V.str)) := upd_same
      generalize upd (upd (upd (upd H2 l1 (.lst [V.str "table 2 1"])) l2 (.lst [V.str "0", V.str "1"])) l3 (.lst zs)) l4 (.lst ((Txt.join blankS [tableS, natS 2, natS 1] :: rows51.map rowS).map V.str)) = H4 at sd h4 ⊢
      obtain ⟨ys1, ey, w1, g1, g2⟩ : ∃ ys1 : List Str, (Txt.join blankS [tableS, natS 2, natS 1] :: rows51.map rowS) = ys1 ∧ wtS ys1 ≤ 10010 ∧ GoodK51 (Txt.join lineS ys1) 2 1 ∧ RowK51 (Txt.join lineS (ys1 ++ [("1" : Str)])) 5001 := by
        refine ⟨_, rfl, ?_, good51, ?_⟩
        · have := wt51 rows51 fun r h => rows51_mem h
          rw [rows51_len] at this
          exact this
        · have h := more51
          have h3 : ([[1]] : List (List Nat)).map rowS = [("1" : Str)] := by decide +kernel
          unfold textT at h
          rw [List.map_append, h3] at h
          exact h
      rw [ey] at h4
      have w2 : wtS (ys1 ++ [("1" : Str)]) ≤ 10012 := by
        have h3 : wtS [("1" : Str)] = 2 := by decide +kernel
        rw [wtS_app, h3]
        omega
      have y1 := wtS_join (y := lineS) (by decide +kernel) ys1
      have y2 := wtS_join (y := lineS) (by decide +kernel) (ys1 ++ [("1" : Str)])
      have jw : ∀ {zs : List Str}, wtS zs ≤ 10012 → (zs.map (·.length)).sum + zs.length * lineS.length ≤ 16777216 := fun {zs} h => by
        have : zs.length * lineS.length ≤ zs.length := Nat.le_trans (Nat.mul_le_mul_left _ (by decide +kernel)) (Nat.le_of_eq (Nat.mul_one _))
        unfold wtS at h
        omega
      have T4 := tabs_same hT2 sd
      dsimp only [gName]
      refine ⟨T4, fun HD eD TD HE Q' sE hq => ?_⟩
      have h5 : HE l4 = some (.lst (ys1.map V.str)) := sE _ _ (extN_lst eD h4)
      refine ⟨⟨_, rfl⟩, .ref l4, rfl, lineS, l4, ys1, rfl, rfl, .inl (SqL.of h5), jw (by omega), readT_good51 g1 (by rw [sizeLine_eq]; omega) fun H8 u t ts s8 nu nt hu ht R8 => hq _ H8 fun H9 x s9 nx hx => ?_⟩
      refine ⟨x, _, _, _, rfl, rfl, SqT.of hx, rfl, rfl, _, rfl, iteNS rfl ?_⟩
      have s89 := s8.trans s9
      have h9 := s89 _ _ h5
      have T9 := tabs_same TD (sE.trans s89)
      refine ⟨T9, fun HD2 eD2 TD2 HE2 Q2 sE2 hq2 => ?_⟩
      have h10 : HE2 l4 = some (.lst (ys1.map V.str)) := sE2 _ _ (extN_lst eD2 h9)
      refine ⟨⟨_, rfl⟩, .ref l4, rfl, (by show 1 ≤ sizeLine; decide), fun l5 n5 => ?_⟩
      have s5 := same_new (o := .lst [V.str "1"]) n5
      refine ⟨l4, l5, _, _, rfl, rfl, s5 _ _ h10, upd_same, ?_, fun l6 n6 => ?_⟩
      · unfold wtS at w1
        rw [List.length_map, sizeLine_eq, List.length_singleton]
        omega
      have e6 : ys1.map V.str ++ [V.str "1"] = (ys1 ++ [("1" : Str)]).map V.str := by rw [List.map_append]; rfl
      rw [e6]
      refine ⟨lineS, l6, ys1 ++ [("1" : Str)], rfl, rfl, .inl (SqL.of upd_same), jw w2, readT_row51 g2 (by rw [sizeLine_eq]; omega) (told51 fun H11 x2 s11 hx2 => ?_)⟩
      refine ⟨by show 2 ≤ sizeLine; decide, fun y ny => ?_⟩
      have sY := same_new (o := .tup [V.str "row", V.int 5001]) ny
      refine ⟨.tuple [.str "row", .int 5001], .tuple [.str "row", .int 5001], .tup (SqT.of (sY _ _ hx2)) (.cons (.str _) (.cons (.int _) .nil)), .tup (SqT.of upd_same) (.cons (.str _) (.cons (.int _) .nil)), by decide +kernel, by decide +kernel, ?_⟩
      have e1 : PyData.eqv (.tuple [.str "row", .int 5001]) (.tuple [.str "row", .int 5001]) = true := by decide +kernel
      rw [e1]
      exact q _
end
theorem all_mk {l : PySem.W.OpenLaw} {w : World} {K : PySem.W.Frag} {h : Heap} {mg : Str → Option Value} {fa f1 f2 f3 f4 f5 f6 f7 f8 f9 f10 f11 f12 f13 f14 f15 f16 f17 f18 f19 f20 : Addr} (X : K.In h) (G : h.Ns mainGlobals mg) (hfa : mg "law" = some (.ref fa))
    {od1 an1 od2 an2 od3 an3 od4 an4 od5 an5 od6 an6 od7 an7 od8 an8 od9 an9 od10 an10 od11 an11 od12 an12 od13 an13 od14 an14 od15 an15 od16 an16 od17 an17 od18 an18 od19 an19 od20 an20 : Option Addr} {sl1 sl2 sl3 sl4 sl5 sl6 sl7 sl8 sl9 sl10 sl11 sl12 sl13 sl14 sl15 sl16 sl17 sl18 sl19 sl20 : Array (Option Value)} {oc1 kV1 dc1 pm1 cd1 ct1 oc2 kV2 dc2 pm2 cd2 ct2 oc3 kV3 dc3 pm3 cd3 ct3 oc4 kV4 dc4 pm4 cd4 ct4 oc5 kV5 dc5 pm5 cd5 ct5 oc6 kV6 dc6 pm6 cd6 ct6 oc7 kV7 dc7 pm7 cd7 ct7 oc8 kV8 dc8 pm8 cd8 ct8 oc9 kV9 dc9 pm9 cd9 ct9 oc10 kV10 dc10 pm10 cd10 ct10 oc11 kV11 dc11 pm11 cd11 ct11 oc12 kV12 dc12 pm12 cd12 ct12 oc13 kV13 dc13 pm13 cd13 ct13 oc14 kV14 dc14 pm14 cd14 ct14 oc15 kV15 dc15 pm15 cd15 ct15 oc16 kV16 dc16 pm16 cd16 ct16 oc17 kV17 dc17 pm17 cd17 ct17 oc18 kV18 dc18 pm18 cd18 ct18 oc19 kV19 dc19 pm19 cd19 ct19 oc20 kV20 dc20 pm20 cd20 ct20 : Value}
    {CBase CNoT fi2 : Addr}
    {nm2 q2 : Str} {N2 : Addr} {bs2 : List Value} {sn2 : List Str} {sub2 : List Value} {ab2 : Bool} {col2 : Option Bool} {dd2 : Option Addr} {m0_2 m1_2 m2_2 m3_2 m5_2 : Option Value} {odi2 ani2 : Option Addr} {sli2 : Array (Option Value)} {oci2 kVi2 dci2 pmi2 cdi2 cti2 : Value}
    {qq : Program} {tcLaw tpLaw : Addr}
    {tk_MOST_LISTS tk_LEAST_SERVERS tk_MOST_SERVERS tk_MOST_DIGITS : Tok}
    (a1 : PySem.W.nsIn K mainGlobals "is_plain_int" = some (some (.ref f1)))
    (l1 : K.lookup f1 = some ⟨oc1, od1, .func (PySem.W.fnOf "is_plain_int" "is_plain_int" (defArgs sPlain) (defBody sPlain) (defScope sPlain) .none kV1 dc1 pm1 an1 cd1 ct1), sl1⟩)
    (c1 : PySem.W.codeIn K cd1 "is_plain_int" = true)
    (k1 : PySem.W.keepIn K (.ref f1) = true)
    (a2 : PySem.W.nsIn K mainGlobals "is_list" = some (some (.ref f2)))
    (l2 : K.lookup f2 = some ⟨oc2, od2, .func (PySem.W.fnOf "is_list" "is_list" (defArgs sIsL) (defBody sIsL) (defScope sIsL) .none kV2 dc2 pm2 an2 cd2 ct2), sl2⟩)
    (c2 : PySem.W.codeIn K cd2 "is_list" = true)
    (k2 : PySem.W.keepIn K (.ref f2) = true)
    (a3 : PySem.W.nsIn K mainGlobals "show_row" = some (some (.ref f3)))
    (l3 : K.lookup f3 = some ⟨oc3, od3, .func (PySem.W.fnOf "show_row" "show_row" (defArgs sShowR) (defBody sShowR) (defScope sShowR) .none kV3 dc3 pm3 an3 cd3 ct3), sl3⟩)
    (c3 : PySem.W.codeIn K cd3 "show_row" = true)
    (k3 : PySem.W.keepIn K (.ref f3) = true)
    (a4 : PySem.W.nsIn K mainGlobals "show_table" = some (some (.ref f4)))
    (l4 : K.lookup f4 = some ⟨oc4, od4, .func (PySem.W.fnOf "show_table" "show_table" (defArgs sShowT) (defBody sShowT) (defScope sShowT) .none kV4 dc4 pm4 an4 cd4 ct4), sl4⟩)
    (c4 : PySem.W.codeIn K cd4 "show_table" = true)
    (k4 : PySem.W.keepIn K (.ref f4) = true)
    (a5 : PySem.W.nsIn K mainGlobals "is_number_word" = some (some (.ref f5)))
    (l5 : K.lookup f5 = some ⟨oc5, od5, .func (PySem.W.fnOf "is_number_word" "is_number_word" (defArgs sNumW) (defBody sNumW) (defScope sNumW) .none kV5 dc5 pm5 an5 cd5 ct5), sl5⟩)
    (c5 : PySem.W.codeIn K cd5 "is_number_word" = true)
    (k5 : PySem.W.keepIn K (.ref f5) = true)
    (a6 : PySem.W.nsIn K mainGlobals "read_numbers" = some (some (.ref f6)))
    (l6 : K.lookup f6 = some ⟨oc6, od6, .func (PySem.W.fnOf "read_numbers" "read_numbers" (defArgs sReadN) (defBody sReadN) (defScope sReadN) .none kV6 dc6 pm6 an6 cd6 ct6), sl6⟩)
    (c6 : PySem.W.codeIn K cd6 "read_numbers" = true)
    (k6 : PySem.W.keepIn K (.ref f6) = true)
    (a7 : PySem.W.nsIn K mainGlobals "read_fields" = some (some (.ref f7)))
    (l7 : K.lookup f7 = some ⟨oc7, od7, .func (PySem.W.fnOf "read_fields" "read_fields" (defArgs sReadF) (defBody sReadF) (defScope sReadF) .none kV7 dc7 pm7 an7 cd7 ct7), sl7⟩)
    (c7 : PySem.W.codeIn K cd7 "read_fields" = true)
    (k7 : PySem.W.keepIn K (.ref f7) = true)
    (a8 : PySem.W.nsIn K mainGlobals "rows_of" = some (some (.ref f8)))
    (l8 : K.lookup f8 = some ⟨oc8, od8, .func (PySem.W.fnOf "rows_of" "rows_of" (defArgs sRowsOf) (defBody sRowsOf) (defScope sRowsOf) .none kV8 dc8 pm8 an8 cd8 ct8), sl8⟩)
    (c8 : PySem.W.codeIn K cd8 "rows_of" = true)
    (k8 : PySem.W.keepIn K (.ref f8) = true)
    (a9 : PySem.W.nsIn K mainGlobals "read_table" = some (some (.ref f9)))
    (l9 : K.lookup f9 = some ⟨oc9, od9, .func (PySem.W.fnOf "read_table" "read_table" (defArgs sReadT) (defBody sReadT) (defScope sReadT) .none kV9 dc9 pm9 an9 cd9 ct9), sl9⟩)
    (c9 : PySem.W.codeIn K cd9 "read_table" = true)
    (k9 : PySem.W.keepIn K (.ref f9) = true)
    (a10 : PySem.W.nsIn K mainGlobals "_law_stream" = some (some (.ref f10)))
    (l10 : K.lookup f10 = some ⟨oc10, od10, .func (PySem.W.fnOf "_law_stream" "_law_stream" (defArgs sStream) (defBody sStream) (defScope sStream) .none kV10 dc10 pm10 an10 cd10 ct10), sl10⟩)
    (c10 : PySem.W.codeIn K cd10 "_law_stream" = true)
    (k10 : PySem.W.keepIn K (.ref f10) = true)
    (a11 : PySem.W.nsIn K mainGlobals "_law_draw" = some (some (.ref f11)))
    (l11 : K.lookup f11 = some ⟨oc11, od11, .func (PySem.W.fnOf "_law_draw" "_law_draw" (defArgs sDraw) (defBody sDraw) (defScope sDraw) .none kV11 dc11 pm11 an11 cd11 ct11), sl11⟩)
    (c11 : PySem.W.codeIn K cd11 "_law_draw" = true)
    (k11 : PySem.W.keepIn K (.ref f11) = true)
    (a12 : PySem.W.nsIn K mainGlobals "_law_pick" = some (some (.ref f12)))
    (l12 : K.lookup f12 = some ⟨oc12, od12, .func (PySem.W.fnOf "_law_pick" "_law_pick" (defArgs sPick) (defBody sPick) (defScope sPick) .none kV12 dc12 pm12 an12 cd12 ct12), sl12⟩)
    (c12 : PySem.W.codeIn K cd12 "_law_pick" = true)
    (k12 : PySem.W.keepIn K (.ref f12) = true)
    (a13 : PySem.W.nsIn K mainGlobals "_law_shuffled" = some (some (.ref f13)))
    (l13 : K.lookup f13 = some ⟨oc13, od13, .func (PySem.W.fnOf "_law_shuffled" "_law_shuffled" (defArgs sShuffd) (defBody sShuffd) (defScope sShuffd) .none kV13 dc13 pm13 an13 cd13 ct13), sl13⟩)
    (c13 : PySem.W.codeIn K cd13 "_law_shuffled" = true)
    (k13 : PySem.W.keepIn K (.ref f13) = true)
    (a14 : PySem.W.nsIn K mainGlobals "_law_table" = some (some (.ref f14)))
    (l14 : K.lookup f14 = some ⟨oc14, od14, .func (PySem.W.fnOf "_law_table" "_law_table" (defArgs sTableS) (defBody sTableS) (defScope sTableS) .none kV14 dc14 pm14 an14 cd14 ct14), sl14⟩)
    (c14 : PySem.W.codeIn K cd14 "_law_table" = true)
    (k14 : PySem.W.keepIn K (.ref f14) = true)
    (a15 : PySem.W.nsIn K mainGlobals "_law_read" = some (some (.ref f15)))
    (l15 : K.lookup f15 = some ⟨oc15, od15, .func (PySem.W.fnOf "_law_read" "_law_read" (defArgs sReadL) (defBody sReadL) (defScope sReadL) .none kV15 dc15 pm15 an15 cd15 ct15), sl15⟩)
    (c15 : PySem.W.codeIn K cd15 "_law_read" = true)
    (k15 : PySem.W.keepIn K (.ref f15) = true)
    (a16 : PySem.W.nsIn K mainGlobals "_law_integer" = some (some (.ref f16)))
    (l16 : K.lookup f16 = some ⟨oc16, od16, .func (PySem.W.fnOf "_law_integer" "_law_integer" (defArgs sLInt) (defBody sLInt) (defScope sLInt) .none kV16 dc16 pm16 an16 cd16 ct16), sl16⟩)
    (c16 : PySem.W.codeIn K cd16 "_law_integer" = true)
    (k16 : PySem.W.keepIn K (.ref f16) = true)
    (a17 : PySem.W.nsIn K mainGlobals "_law_integers" = some (some (.ref f17)))
    (l17 : K.lookup f17 = some ⟨oc17, od17, .func (PySem.W.fnOf "_law_integers" "_law_integers" (defArgs sLInts) (defBody sLInts) (defScope sLInts) .none kV17 dc17 pm17 an17 cd17 ct17), sl17⟩)
    (c17 : PySem.W.codeIn K cd17 "_law_integers" = true)
    (k17 : PySem.W.keepIn K (.ref f17) = true)
    (a18 : PySem.W.nsIn K mainGlobals "_law_bent_rows" = some (some (.ref f18)))
    (l18 : K.lookup f18 = some ⟨oc18, od18, .func (PySem.W.fnOf "_law_bent_rows" "_law_bent_rows" (defArgs sLBent) (defBody sLBent) (defScope sLBent) .none kV18 dc18 pm18 an18 cd18 ct18), sl18⟩)
    (c18 : PySem.W.codeIn K cd18 "_law_bent_rows" = true)
    (k18 : PySem.W.keepIn K (.ref f18) = true)
    (a19 : PySem.W.nsIn K mainGlobals "_law_table_read" = some (some (.ref f19)))
    (l19 : K.lookup f19 = some ⟨oc19, od19, .func (PySem.W.fnOf "_law_table_read" "_law_table_read" (defArgs sLTabR) (defBody sLTabR) (defScope sLTabR) .none kV19 dc19 pm19 an19 cd19 ct19), sl19⟩)
    (c19 : PySem.W.codeIn K cd19 "_law_table_read" = true)
    (k19 : PySem.W.keepIn K (.ref f19) = true)
    (a20 : PySem.W.nsIn K mainGlobals "law" = some (some (.ref f20)))
    (l20 : K.lookup f20 = some ⟨oc20, od20, .func (PySem.W.fnOf "law" "law" (defArgs sLaw) (defBody sLaw) (defScope sLaw) .none kV20 dc20 pm20 an20 cd20 ct20), sl20⟩)
    (c20 : PySem.W.codeIn K cd20 "law" = true)
    (k20 : PySem.W.keepIn K (.ref f20) = true)
    (ac1 : PySem.W.nsIn K mainGlobals "FailoverError" = some (some (.ref CBase)))
    (bsp : PySem.W.specialIn K (.ref CBase) "__getattribute__" = some (some (.builtin "type.__getattribute__")))
    (bty : PySem.W.typeIn K (.ref CBase) = some (.type "type"))
    (brd : PySem.W.readsIn K CBase (.type "type") = true)
    (bfc : PySem.W.findCls K (.ref CBase) (.type "type") "__init__" = some (.val (.builtin "ValueError.__init__")))
    (bex : PySem.W.subIn K (.ref CBase) (.type "BaseException") = some true)
    (bhd : PySem.W.hasDictIn K CBase = true)
    (ac2 : PySem.W.nsIn K mainGlobals "NoText" = some (some (.ref CNoT)))
    (e2_xL : K.lookup CNoT = some (excClassObj nm2 q2 CNoT N2 bs2 [.ref CBase, .type "ValueError", .type "Exception", .type "BaseException", .type "object"] true sn2 sub2 ab2 col2 dd2 m0_2 m1_2 m2_2 m3_2 m5_2 "ValueError.__new__"))
    (e2_sa : PySem.W.findIn K (.ref CNoT) "__setattr__" = some (some (.builtin "object.__setattr__")))
    (e2_ga : PySem.W.findIn K (.ref CNoT) "__getattribute__" = some (some (.builtin "BaseException.__getattribute__")))
    (e2_gg : PySem.W.findIn K (.ref CNoT) "__getattr__" = some none)
    (e2_nb : PySem.W.findIn K (.ref CNoT) "row" = some none)
    (e2_ai : PySem.W.findIn K (.ref CNoT) "__init__" = some (some (.ref fi2)))
    (e2_ti : PySem.W.typeIn K (.ref fi2) = some (.type "function"))
    (e2_li : K.lookup fi2 = some ⟨oci2, odi2, .func (PySem.W.fnOf "__init__" "NoText.__init__" (defArgs sNoT) (defBody sNoT) (defScope sNoT) .none kVi2 dci2 pmi2 ani2 cdi2 cti2), sli2⟩)
    (e2_ci : PySem.W.codeIn K cdi2 "NoText.__init__" = true)
    (e2_ki : PySem.W.keepIn K (.ref fi2) = true)
    (e2_kC : PySem.W.keepIn K (.ref CNoT) = true)
    (e2_eC : PySem.W.subIn K (.ref CNoT) (.type "BaseException") = some true)
    (e2_tC : PySem.W.typeIn K (.ref CNoT) = some (.type "type"))
    (e2_hC : PySem.W.hasDictIn K CNoT = true)
    (e2_cC : PySem.W.findIn K (.ref CNoT) "__class__" = some (some (.builtin "object.__class__")))
    (e2_gC : PySem.W.specialIn K (.builtin "object.__class__") "__get__" = some (some (.builtin "getset_descriptor.__get__")))
    (e2_kk : PySem.W.takesIn K (.builtin "object.__class__") = some true)
    (e2_mC : PySem.W.mroIn K CNoT (.type "object") = some true)
    (e2_sB : PySem.W.subIn K (.ref CNoT) (.ref CBase) = some true)
    (kt_kitDig : PySem.W.nsIn K cStatics "sys.int_max_str_digits" = some none)
    (kt_kit_NoT_NoT : PySem.W.kitOne K (.ref CNoT) (.ref CNoT) = some true)
    (kt_kSV_NoT : PySem.W.kitOne K (.ref CNoT) (.type "ValueError") = some true)
    (gl_MOST_LISTS : PySem.W.nsIn K mainGlobals "MOST_LISTS" = some (some (.int 5000 tk_MOST_LISTS)))
    (gl_LEAST_SERVERS : PySem.W.nsIn K mainGlobals "LEAST_SERVERS" = some (some (.int 2 tk_LEAST_SERVERS)))
    (gl_MOST_SERVERS : PySem.W.nsIn K mainGlobals "MOST_SERVERS" = some (some (.int 60 tk_MOST_SERVERS)))
    (gl_MOST_DIGITS : PySem.W.nsIn K mainGlobals "MOST_DIGITS" = some (some (.int 40 tk_MOST_DIGITS)))
    (z1 : PySem.W.nsIn K mainGlobals "ValueError" = some none)
    (z2 : PySem.W.nsIn K mainGlobals "abs" = some none)
    (z3 : PySem.W.nsIn K mainGlobals "all" = some none)
    (z4 : PySem.W.nsIn K mainGlobals "bool" = some none)
    (z5 : PySem.W.nsIn K mainGlobals "enumerate" = some none)
    (z6 : PySem.W.nsIn K mainGlobals "int" = some none)
    (z7 : PySem.W.nsIn K mainGlobals "isinstance" = some none)
    (z8 : PySem.W.nsIn K mainGlobals "len" = some none)
    (z9 : PySem.W.nsIn K mainGlobals "list" = some none)
    (z10 : PySem.W.nsIn K mainGlobals "max" = some none)
    (z11 : PySem.W.nsIn K mainGlobals "min" = some none)
    (z12 : PySem.W.nsIn K mainGlobals "range" = some none)
    (z13 : PySem.W.nsIn K mainGlobals "repr" = some none)
    (z14 : PySem.W.nsIn K mainGlobals "set" = some none)
    (z15 : PySem.W.nsIn K mainGlobals "str" = some none)
    (z16 : PySem.W.nsIn K mainGlobals "tuple" = some none)
    (tbLaw : PySem.W.tabIn K "law" = some (tcLaw, tpLaw))
    (tnLaw : K.lookup tpLaw = none)
    (trLaw : ((recsOf qq).find? fun e => e.name == ("law" : Str)).isSome = true)
    : LawT qq l w K 10 63 "_law_script" mg fa := by
  have e := hfa.symm.trans (PySem.W.mg_of X G a20)
  cases e
  have F1 := fun_mk (st := sPlain) l1 c1 k1
  have b1 := F1.binds (ps := ["thing"]) fun _ _ _ _ _ _ us hl => match us, hl with | [_], _ => rfl
  have F2 := fun_mk (st := sIsL) l2 c2 k2
  have b2 := F2.binds (ps := ["n", "depth", "thing"]) fun _ _ _ _ _ _ us hl => match us, hl with | [_, _, _], _ => rfl
  have F3 := fun_mk (st := sShowR) l3 c3 k3
  have b3 := F3.binds (ps := ["things"]) fun _ _ _ _ _ _ us hl => match us, hl with | [_], _ => rfl
  have F4 := fun_mk (st := sShowT) l4 c4 k4
  have b4 := F4.binds (ps := ["n", "table"]) fun _ _ _ _ _ _ us hl => match us, hl with | [_, _], _ => rfl
  have F5 := fun_mk (st := sNumW) l5 c5 k5
  have b5 := F5.binds (ps := ["word"]) fun _ _ _ _ _ _ us hl => match us, hl with | [_], _ => rfl
  have F6 := fun_mk (st := sReadN) l6 c6 k6
  have b6 := F6.binds (ps := ["words"]) fun _ _ _ _ _ _ us hl => match us, hl with | [_], _ => rfl
  have F7 := fun_mk (st := sReadF) l7 c7 k7
  have b7 := F7.binds (ps := ["row", "name", "many"]) fun _ _ _ _ _ _ us hl => match us, hl with | [_, _, _], _ => rfl
  have F8 := fun_mk (st := sRowsOf) l8 c8 k8
  have b8 := F8.binds (ps := ["text"]) fun _ _ _ _ _ _ us hl => match us, hl with | [_], _ => rfl
  have F9 := fun_mk (st := sReadT) l9 c9 k9
  have b9 := F9.binds (ps := ["text"]) fun _ _ _ _ _ _ us hl => match us, hl with | [_], _ => rfl
  have F10 := fun_mk (st := sStream) l10 c10 k10
  have b10 := F10.binds (ps := ["_law_script", "_law_k"]) fun _ _ _ _ _ _ us hl => match us, hl with | [_, _], _ => rfl
  have F11 := fun_mk (st := sDraw) l11 c11 k11
  have b11 := F11.binds (ps := ["_law_stream_here", "_law_below"]) fun _ _ _ _ _ _ us hl => match us, hl with | [_, _], _ => rfl
  have F12 := fun_mk (st := sPick) l12 c12 k12
  have b12 := F12.binds (ps := ["_law_stream_here", "_law_items"]) fun _ _ _ _ _ _ us hl => match us, hl with | [_, _], _ => rfl
  have F13 := fun_mk (st := sShuffd) l13 c13 k13
  have b13 := F13.binds (ps := ["_law_stream_here", "_law_items"]) fun _ _ _ _ _ _ us hl => match us, hl with | [_, _], _ => rfl
  have F14 := fun_mk (st := sTableS) l14 c14 k14
  have b14 := F14.binds (ps := ["_law_stream_here", "_law_n", "_law_depth"]) fun _ _ _ _ _ _ us hl => match us, hl with | [_, _, _], _ => rfl
  have F15 := fun_mk (st := sReadL) l15 c15 k15
  have b15 := F15.binds (ps := ["_law_ask"]) fun _ _ _ _ _ _ us hl => match us, hl with | [_], _ => rfl
  have F16 := fun_mk (st := sLInt) l16 c16 k16
  have b16 := F16.binds (ps := ["_law_word"]) fun _ _ _ _ _ _ us hl => match us, hl with | [_], _ => rfl
  have F17 := fun_mk (st := sLInts) l17 c17 k17
  have b17 := F17.binds (ps := ["_law_words"]) fun _ _ _ _ _ _ us hl => match us, hl with | [_], _ => rfl
  have F18 := fun_mk (st := sLBent) l18 c18 k18
  have b18 := F18.binds (ps := ["_law_stream_here", "_law_text"]) fun _ _ _ _ _ _ us hl => match us, hl with | [_, _], _ => rfl
  have F19 := fun_mk (st := sLTabR) l19 c19 k19
  have b19 := F19.binds (ps := ["_law_text"]) fun _ _ _ _ _ _ us hl => match us, hl with | [_], _ => rfl
  have F20 := fun_mk (st := sLaw) l20 c20 k20
  have FI2 := fun_mk (st := sNoT) e2_li e2_ci e2_ki
  have bI2 := FI2.binds (ps := ["self", "row"]) fun _ _ _ _ _ _ us hl => match us, hl with | [_, _], _ => rfl
  have ER2 : ErrT K CNoT fi2 "row" CBase := ⟨⟨⟨nm2, q2, N2, bs2, _, sn2, sub2, ab2, col2, dd2, m0_2, m1_2, m2_2, m3_2, m5_2, e2_xL, by first | rfl | decide +kernel⟩, e2_sa, e2_eC, e2_tC, e2_kC⟩, ⟨e2_ga, e2_gg, e2_eC, e2_hC⟩, ⟨e2_ga, e2_gg, e2_eC, e2_hC, e2_cC, e2_gC, e2_kk, e2_mC⟩, e2_nb, e2_ai, e2_ti, PySem.W.exm_ref bex bhd bty e2_sB⟩
  let T : Txt K mg := ⟨f1, _, F1, b1, PySem.W.mg_of X G a1, f2, _, F2, b2, PySem.W.mg_of X G a2, f3, _, F3, b3, PySem.W.mg_of X G a3, f4, _, F4, b4, PySem.W.mg_of X G a4, f5, _, F5, b5, PySem.W.mg_of X G a5, f6, _, F6, b6, PySem.W.mg_of X G a6, f7, _, F7, b7, PySem.W.mg_of X G a7, f8, _, F8, b8, PySem.W.mg_of X G a8, f9, _, F9, b9, PySem.W.mg_of X G a9, f10, _, F10, b10, PySem.W.mg_of X G a10, f11, _, F11, b11, PySem.W.mg_of X G a11, f12, _, F12, b12, PySem.W.mg_of X G a12, f13, _, F13, b13, PySem.W.mg_of X G a13, f14, _, F14, b14, PySem.W.mg_of X G a14, f15, _, F15, b15, PySem.W.mg_of X G a15, f16, _, F16, b16, PySem.W.mg_of X G a16, f17, _, F17, b17, PySem.W.mg_of X G a17, f18, _, F18, b18, PySem.W.mg_of X G a18, f19, _, F19, b19, PySem.W.mg_of X G a19, CBase, PySem.W.mg_of X G ac1, ⟨bsp, bty, brd, bfc⟩, CNoT, PySem.W.mg_of X G ac2, fi2, _, FI2, bI2, ER2, kt_kitDig, kt_kit_NoT_NoT, kt_kSV_NoT, tk_MOST_LISTS, PySem.W.mg_of X G gl_MOST_LISTS, tk_LEAST_SERVERS, PySem.W.mg_of X G gl_LEAST_SERVERS, tk_MOST_SERVERS, PySem.W.mg_of X G gl_MOST_SERVERS, tk_MOST_DIGITS, PySem.W.mg_of X G gl_MOST_DIGITS, PySem.W.mg_none_of X G z1, PySem.W.mg_none_of X G z2, PySem.W.mg_none_of X G z3, PySem.W.mg_none_of X G z4, PySem.W.mg_none_of X G z5, PySem.W.mg_none_of X G z6, PySem.W.mg_none_of X G z7, PySem.W.mg_none_of X G z8, PySem.W.mg_none_of X G z9, PySem.W.mg_none_of X G z10, PySem.W.mg_none_of X G z11, PySem.W.mg_none_of X G z12, PySem.W.mg_none_of X G z13, PySem.W.mg_none_of X G z14, PySem.W.mg_none_of X G z15, PySem.W.mg_none_of X G z16, tcLaw, tpLaw⟩
  refine ⟨PySem.W.fnOf "law" "law" (defArgs sLaw) (defBody sLaw) (defScope sLaw) .none kV20 dc20 pm20 an20 cd20 ct20, [("law", tcLaw, tpLaw)], spLaw K (tabsOf T), ?_, fun s v => .of_eq rfl, fun H a ns hl hT hS => ⟨a, ns, rfl, hS, hl, ?_, fun _ => rfl⟩, fun base _ _ hB => ok_law F20 T (codeOf_tab a20 tbLaw) ⟨hB ("law", tcLaw, tpLaw) (by simp)⟩⟩
  · intro p hp
    simp only [List.mem_cons, List.not_mem_nil, or_false] at hp
    rcases hp with rfl
    · exact ⟨tbLaw, tnLaw, trLaw⟩
  · intro p hp
    unfold tabsOf at hp
    simp only [List.mem_cons, List.not_mem_nil, or_false] at hp
    rcases hp with rfl
    · exact LamX.TabS.nil (hT ("law", tcLaw, tpLaw) (by simp))
end Ef
open PySem PySem.W PyProof.Rows
set_option maxRecDepth 100000 in
set_option maxHeartbeats 0 in
theorem PySem.Challenge.cw_evenfailover_k51_table_texts_changed_any_holds : PySem.Challenge.rw_evenfailover_k51_table_texts_changed_any.Holds := by
  w_on; o_law; k_head; (case hw => w_witness2)
  k_fill
  refine Ef.lawGT (l := PySem.Challenge.rw_evenfailover_k51_table_texts_changed_any) (n := 63) (k := 10) (x := "_law_script") rfl (by decide) rfl ⟨rfl, by decide, by decide⟩ (fun w h Y => PySem.W.km_in_of Y) ?F
  case F =>
    intro w mg fa h KX G hmg
    refine' Ef.all_mk KX G hmg ?a1 ?l1 ?c1 ?k1 ?a2 ?l2 ?c2 ?k2 ?a3 ?l3 ?c3 ?k3 ?a4 ?l4 ?c4 ?k4 ?a5 ?l5 ?c5 ?k5 ?a6 ?l6 ?c6 ?k6 ?a7 ?l7 ?c7 ?k7 ?a8 ?l8 ?c8 ?k8 ?a9 ?l9 ?c9 ?k9 ?a10 ?l10 ?c10 ?k10 ?a11 ?l11 ?c11 ?k11 ?a12 ?l12 ?c12 ?k12 ?a13 ?l13 ?c13 ?k13 ?a14 ?l14 ?c14 ?k14 ?a15 ?l15 ?c15 ?k15 ?a16 ?l16 ?c16 ?k16 ?a17 ?l17 ?c17 ?k17 ?a18 ?l18 ?c18 ?k18 ?a19 ?l19 ?c19 ?k19 ?a20 ?l20 ?c20 ?k20 ?ac1 ?bsp ?bty ?brd ?bfc ?bex ?bhd ?ac2 ?e2_xL ?e2_sa ?e2_ga ?e2_gg ?e2_nb ?e2_ai ?e2_ti ?e2_li ?e2_ci ?e2_ki ?e2_kC ?e2_eC ?e2_tC ?e2_hC ?e2_cC ?e2_gC ?e2_kk ?e2_mC ?e2_sB ?kt_kitDig ?kt_kit_NoT_NoT ?kt_kSV_NoT ?gl_MOST_LISTS ?gl_LEAST_SERVERS ?gl_MOST_SERVERS ?gl_MOST_DIGITS ?z1 ?z2 ?z3 ?z4 ?z5 ?z6 ?z7 ?z8 ?z9 ?z10 ?z11 ?z12 ?z13 ?z14 ?z15 ?z16 ?tbLaw ?tnLaw ?trLaw
    (case a1 => k_is)
    (case l1 => k_is)
    (case c1 => k_is)
    (case k1 => k_is)
    (case a2 => k_is)
    (case l2 => k_is)
    (case c2 => k_is)
    (case k2 => k_is)
    (case a3 => k_is)
    (case l3 => k_is)
    (case c3 => k_is)
    (case k3 => k_is)
    (case a4 => k_is)
    (case l4 => k_is)
    (case c4 => k_is)
    (case k4 => k_is)
    (case a5 => k_is)
    (case l5 => k_is)
    (case c5 => k_is)
    (case k5 => k_is)
    (case a6 => k_is)
    (case l6 => k_is)
    (case c6 => k_is)
    (case k6 => k_is)
    (case a7 => k_is)
    (case l7 => k_is)
    (case c7 => k_is)
    (case k7 => k_is)
    (case a8 => k_is)
    (case l8 => k_is)
    (case c8 => k_is)
    (case k8 => k_is)
    (case a9 => k_is)
    (case l9 => k_is)
    (case c9 => k_is)
    (case k9 => k_is)
    (case a10 => k_is)
    (case l10 => k_is)
    (case c10 => k_is)
    (case k10 => k_is)
    (case a11 => k_is)
    (case l11 => k_is)
    (case c11 => k_is)
    (case k11 => k_is)
    (case a12 => k_is)
    (case l12 => k_is)
    (case c12 => k_is)
    (case k12 => k_is)
    (case a13 => k_is)
    (case l13 => k_is)
    (case c13 => k_is)
    (case k13 => k_is)
    (case a14 => k_is)
    (case l14 => k_is)
    (case c14 => k_is)
    (case k14 => k_is)
    (case a15 => k_is)
    (case l15 => k_is)
    (case c15 => k_is)
    (case k15 => k_is)
    (case a16 => k_is)
    (case l16 => k_is)
    (case c16 => k_is)
    (case k16 => k_is)
    (case a17 => k_is)
    (case l17 => k_is)
    (case c17 => k_is)
    (case k17 => k_is)
    (case a18 => k_is)
    (case l18 => k_is)
    (case c18 => k_is)
    (case k18 => k_is)
    (case a19 => k_is)
    (case l19 => k_is)
    (case c19 => k_is)
    (case k19 => k_is)
    (case a20 => k_is)
    (case l20 => k_is)
    (case c20 => k_is)
    (case k20 => k_is)
    (case ac1 => k_is)
    (case bsp => k_is)
    (case bty => k_is)
    (case brd => k_is)
    (case bfc => k_is)
    (case bex => k_is)
    (case bhd => k_is)
    (case ac2 => k_is)
    (case e2_xL => k_is)
    (case e2_sa => k_is)
    (case e2_ga => k_is)
    (case e2_gg => k_is)
    (case e2_nb => k_is)
    (case e2_ai => k_is)
    (case e2_ti => k_is)
    (case e2_li => k_is)
    (case e2_ci => k_is)
    (case e2_ki => k_is)
    (case e2_kC => k_is)
    (case e2_eC => k_is)
    (case e2_tC => k_is)
    (case e2_hC => k_is)
    (case e2_cC => k_is)
    (case e2_gC => k_is)
    (case e2_kk => k_is)
    (case e2_mC => k_is)
    (case e2_sB => first | k_is | rfl)
    (case kt_kitDig => first | k_is | rfl)
    (case kt_kit_NoT_NoT => first | k_is | rfl)
    (case kt_kSV_NoT => first | k_is | rfl)
    (case gl_MOST_LISTS => k_is)
    (case gl_LEAST_SERVERS => k_is)
    (case gl_MOST_SERVERS => k_is)
    (case gl_MOST_DIGITS => k_is)
    (case z1 => k_is)
    (case z2 => k_is)
    (case z3 => k_is)
    (case z4 => k_is)
    (case z5 => k_is)
    (case z6 => k_is)
    (case z7 => k_is)
    (case z8 => k_is)
    (case z9 => k_is)
    (case z10 => k_is)
    (case z11 => k_is)
    (case z12 => k_is)
    (case z13 => k_is)
    (case z14 => k_is)
    (case z15 => k_is)
    (case z16 => k_is)
    (case tbLaw => first | k_is | rfl | decide +kernel)
    (case tnLaw => first | k_is | rfl | decide +kernel)
    (case trLaw => first | k_is | rfl | decide +kernel)

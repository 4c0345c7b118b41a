import PyProof.Rows.All
import Wide.All
import OpenK.AllK
import Wide.FinOn
import HandS.ForMost
import HandS.RaiseMore
import HandS.Strs
import HandS.SetFor
import HandS.Conv
import HandS.Wide
import HandS.IsInst
import HandS.Codes
import HandS.TupAny
import HandS.ForExc
import HandS.ExcInit
import HandS.ExcField
import HandS.ExcIs
import HandS.ExcOwn
import HandS.TupSets
import HandS.Walk
import HandS.RevRange
import HandS.Rev
import HandS.Style
import HandS.DictComp
import KE.GoesMore
import HandS.Flt
import HandS.RaiseFrom
import HandS.HeadHook3
import HandS.ReplaceLit
import KE.KTupSum
import HandS.Call
import HandS.Replace
import HandS.ReplaceDef
import HandS.WordsExc
import HandS.Text
import HandS.StrMore
import PyProof.Rows.StrSplitCount
import PyProof.StrLawsChain
import HandS.Deep
import KE.SortData
import HandS.Comp
import KE.KIntText
import PyProof.Rows.Digits
import PyProof.StrOps2
import HandS.Lambda
import HandS.EndTab
import HandS.SlotsOwn
import HandS.MakeKwOnly
import HandS.More
import HandS.WrittenGet
import PySem.Challenge.RW_evenfailover_k54_desk_beside_a_cluster
set_option Elab.async false
set_option linter.all false
set_option maxRecDepth 100000
set_option maxHeartbeats 4000000
namespace Ef
/-- Pascal's triangle -/
def C : Nat → Nat → Nat
  | _, 0 => 1
  | 0, _ + 1 => 0
  | n + 1, k + 1 => C n k + C n (k + 1)
theorem C_zero (n : Nat) : C n 0 = 1 := by cases n <;> rfl
theorem C_zs (k : Nat) : C 0 (k + 1) = 0 := rfl
theorem C_ss (n k : Nat) : C (n + 1) (k + 1) = C n k + C n (k + 1) := rfl
theorem C_big : ∀ (n k : Nat), n < k → C n k = 0
  | 0, k + 1, _ => rfl
  | n + 1, k + 1, h => by
    rw [C_ss, C_big n k (by omega), C_big n (k + 1) (by omega)]
theorem C_self : ∀ n : Nat, C n n = 1
  | 0 => rfl
  | n + 1 => by rw [C_ss, C_self n, C_big n (n + 1) (by omega)]
theorem C_absorb : ∀ (n k : Nat), C (n + 1) (k + 1) * (k + 1) = (n + 1) * C n k
  | 0, 0 => rfl
  | 0, k + 1 => by
    rw [C_ss, C_zs, C_zs]; simp
  | n + 1, 0 => by
    have h := C_absorb n 0
    rw [C_zero] at h
    rw [C_ss, C_zero]
    omega
  | n + 1, j + 1 => by
    have h1 := C_absorb n j
    have h2 := C_absorb n (j + 1)
    have e : C (n + 1) (j + 1) = C n j + C n (j + 1) := C_ss n j
    rw [C_ss (n + 1) (j + 1)]
    have a1 : (C (n + 1) (j + 1) + C (n + 1) (j + 1 + 1)) * (j + 1 + 1) = C (n + 1) (j + 1) * (j + 1) + C (n + 1) (j + 1) + C (n + 1) (j + 1 + 1) * (j + 1 + 1) := by
      rw [Nat.add_mul, Nat.mul_succ (C (n + 1) (j + 1)) (j + 1)]
    rw [a1, h1, h2]
    have a2 : (n + 1 + 1) * C (n + 1) (j + 1) = (n + 1) * C (n + 1) (j + 1) + C (n + 1) (j + 1) := Nat.succ_mul _ _
    rw [a2]
    have a3 : (n + 1) * C (n + 1) (j + 1) = (n + 1) * C n j + (n + 1) * C n (j + 1) := by rw [e, Nat.mul_add]
    rw [a3]
    omega
theorem C_step (n k : Nat) (h : k ≤ n) : C n (k + 1) * (k + 1) = C n k * (n - k) := by
  have h1 := C_absorb n k
  rw [C_ss, Nat.add_mul] at h1
  have h2 : (n + 1) * C n k = C n k * (k + 1) + C n k * (n - k) := by
    rw [← Nat.mul_add, Nat.mul_comm]
    congr 1
    omega
  omega
theorem C_symm : ∀ (n k : Nat), k ≤ n → C n k = C n (n - k)
  | n, 0, _ => by rw [C_zero, Nat.sub_zero, C_self]
  | n + 1, k + 1, h => by
    by_cases e : k = n
    · subst e
      rw [C_self, Nat.sub_self, C_zero]
    · have e1 : n + 1 - (k + 1) = (n - (k + 1)) + 1 := by omega
      rw [e1, C_ss, C_ss, ← C_symm n (k + 1) (by omega), show n - (k + 1) + 1 = n - k by omega, ← C_symm n k (by omega), Nat.add_comm]
theorem C_le : ∀ (n k : Nat), C n k ≤ 2 ^ n
  | n, 0 => by rw [C_zero]; exact Nat.one_le_two_pow
  | 0, k + 1 => by rw [C_zs]; exact Nat.zero_le _
  | n + 1, k + 1 => by
    have a := C_le n k
    have b := C_le n (k + 1)
    rw [C_ss, Nat.pow_succ]
    omega
theorem C_pos : ∀ (n k : Nat), k ≤ n → 0 < C n k
  | n, 0, _ => by rw [C_zero]; decide
  | n + 1, k + 1, h => by
    rw [C_ss]
    have := C_pos n k (by omega)
    omega
theorem C_min (n k : Nat) (h : k ≤ n) : C n (min k (n - k)) = C n k := by
  by_cases e : k ≤ n - k
  · rw [Nat.min_eq_left e]
  · rw [Nat.min_eq_right (by omega), ← C_symm n k h]
theorem C_60 (n k : Nat) (h : n ≤ 60) : C n k ≤ 1152921504606846976 := Nat.le_trans (C_le n k) (Nat.le_trans (Nat.pow_le_pow_right (by decide) h) (by decide))
/-- what the program's binomial answers -/
def binZ (n k : Int) : Int := if k < 0 ∨ n < k then 0 else (C n.toNat k.toNat : Int)
theorem binZ_nat (n k : Nat) : binZ n k = (C n k : Int) := by
  unfold binZ
  by_cases h : n < k
  · rw [if_pos (by omega), C_big n k h]; rfl
  · rw [if_neg (by omega)]; simp
/-- one step of its product -/
theorem C_div (n s : Nat) (h : s < n) : ((C n s : Int) * ((n : Int) + 1 - (1 + (s : Int)))) / (1 + (s : Int)) = (C n (s + 1) : Int) := by
  have e : (C n s : Int) * ((n : Int) + 1 - (1 + (s : Int))) = (C n (s + 1) : Int) * (1 + (s : Int)) := by
    have h1 := C_step n s (by omega)
    have h2 : ((n : Int) + 1 - (1 + (s : Int))) = ((n - s : Nat) : Int) := by omega
    have h3 : (1 + (s : Int)) = ((s + 1 : Nat) : Int) := by omega
    rw [h2, h3, ← Int.natCast_mul, ← Int.natCast_mul, h1]
  rw [e]
  exact Int.mul_ediv_cancel _ (by omega)
end Ef
namespace Ef
/-! ### the least numbers of lists -/
def stepL (a b : Nat) : Nat := a / Nat.gcd a b * b
def leastL (n : Nat) : Nat → Nat
  | 0 => 1
  | d + 1 => stepL (leastL n d) (n * C (n - 1) d)
theorem stepL_pos {a b : Nat} (ha : 0 < a) (hb : 0 < b) : 0 < stepL a b := by
  unfold stepL
  have h1 : Nat.gcd a b ≤ a := Nat.gcd_le_left b ha
  have h2 : 0 < Nat.gcd a b := Nat.gcd_pos_of_pos_left b ha
  exact Nat.mul_pos (Nat.div_pos h1 h2) hb
theorem edge_pos {n d : Nat} (h : d < n) : 0 < n * C (n - 1) d := Nat.mul_pos (by omega) (C_pos _ _ (by omega))
theorem leastL_pos {n : Nat} : ∀ {d : Nat}, d ≤ n → 0 < leastL n d
  | 0, _ => Nat.one_pos
  | d + 1, h => stepL_pos (leastL_pos (by omega)) (edge_pos (by omega))
theorem C_adj : ∀ (n k : Nat), C n k + C n (k + 1) ≤ 2 ^ n
  | 0, 0 => by decide
  | 0, k + 1 => by
    rw [C_zs, C_zs]
    decide
  | n + 1, 0 => by
    have h := C_adj n 0
    have h1 : 1 ≤ 2 ^ n := Nat.one_le_two_pow
    rw [C_zero] at h
    rw [C_ss, C_zero, C_zero, Nat.pow_succ]
    omega
  | n + 1, j + 1 => by
    have h := C_adj n j
    have h2 := C_adj n (j + 1)
    rw [C_ss, C_ss, Nat.pow_succ]
    omega
theorem C_half (n k : Nat) (h : 1 ≤ n) : C n k ≤ 2 ^ (n - 1) := by
  obtain ⟨m, rfl⟩ : ∃ m, n = m + 1 := ⟨n - 1, by omega⟩
  cases k with
  | zero =>
    rw [C_zero]
    exact Nat.one_le_two_pow
  | succ k => exact C_adj m k
theorem edge_lt {n d : Nat} (h : n ≤ 60) : n * C (n - 1) d < 18446744073709551616 := by
  by_cases h1 : n ≤ 1
  · have e : n - 1 = 0 := by omega
    have h2 : C (n - 1) d ≤ 2 ^ 0 := by rw [e]; exact C_le 0 d
    exact Nat.lt_of_le_of_lt (Nat.mul_le_mul h1 h2) (by decide)
  · have h2 : C (n - 1) d ≤ 2 ^ 58 := Nat.le_trans (C_half (n - 1) d (by omega)) (Nat.pow_le_pow_right (by decide) (by omega))
    exact Nat.lt_of_le_of_lt (Nat.mul_le_mul h h2) (by decide)
/-! rows of the triangle, reckoned one from the other -/
def nextRow : List Nat → List Nat := fun r => 1 :: List.zipWith (· + ·) r r.tail
def isRow (n : Nat) (r : List Nat) : Prop := ∀ k, k ≤ 60 → r[k]? = some (C n k)
theorem nextRow_is {n : Nat} {r : List Nat} (h : isRow n r) : ∀ k, k ≤ 60 → (nextRow r)[k]? = some (C (n + 1) k)
  | 0, _ => by
    rw [C_zero]
    rfl
  | k + 1, hk => by
    have h1 := h k (by omega)
    have h2 := h (k + 1) hk
    unfold nextRow
    rw [List.getElem?_cons_succ, List.getElem?_zipWith, h1, List.getElem?_tail, h2]
    rfl
def row0 : List Nat := 1 :: List.replicate 60 0
theorem row0_is : isRow 0 row0 := fun k hk => by
  cases k with
  | zero => rfl
  | succ k =>
    unfold row0
    rw [List.getElem?_cons_succ, List.getElem?_replicate, if_pos (by omega)]
    rfl
/-- P holds along the chain of least numbers: f of each -/
def chainOk (n : Nat) (f : Nat → Nat → Bool) : Nat → Nat → Nat → List Nat → Bool
  | 0, d, a, _ => f d a
  | m + 1, d, a, c :: r => f d a && chainOk n f m (d + 1) (stepL a (n * c)) r
  | _ + 1, _, _, [] => false
theorem chain_all {n : Nat} {f : Nat → Nat → Bool} {row : List Nat} (hr : isRow (n - 1) row) (hn : n ≤ 60) : ∀ (m d : Nat), d + m = n → chainOk n f m d (leastL n d) (row.drop d) = true → ∀ e, d ≤ e → e ≤ n → f e (leastL n e) = true
  | 0, d, h, ok, e, h1, h2 => by
    have e1 : e = d := by omega
    subst e1
    exact ok
  | m + 1, d, h, ok, e, h1, h2 => by
    have hd := hr d (by omega)
    have hlt : d < row.length := (List.getElem?_eq_some_iff.mp hd).1
    have hdr : row.drop d = C (n - 1) d :: row.drop (d + 1) := by
      rw [List.drop_eq_getElem_cons hlt]
      congr 1
      rw [List.getElem?_eq_getElem hlt] at hd
      exact Option.some.inj hd
    rw [hdr] at ok
    have ok2 : (f d (leastL n d) && chainOk n f m (d + 1) (leastL n (d + 1)) (row.drop (d + 1))) = true := ok
    rw [Bool.and_eq_true] at ok2
    by_cases c : e = d
    · rw [c]
      exact ok2.1
    · exact chain_all hr hn m (d + 1) (by omega) ok2.2 e (by omega) h2
def rowsOk (f : Nat → Nat → Nat → Bool) : Nat → Nat → List Nat → Bool
  | 0, _, _ => true
  | m + 1, n, row => chainOk n (f n) n 0 1 row && rowsOk f m (n + 1) (nextRow row)
theorem rows_all {f : Nat → Nat → Nat → Bool} : ∀ (m n : Nat) (row : List Nat), isRow (n - 1) row → 1 ≤ n → rowsOk f m n row = true → ∀ k, n ≤ k → k < n + m → k ≤ 60 → ∀ d, d ≤ k → f k d (leastL k d) = true
  | 0, _, _, _, _, _, k, h1, h2, _, _, _ => by omega
  | m + 1, n, row, hr, h0, ok, k, h1, h2, h6, d, hd => by
    have ok2 : (chainOk n (f n) n 0 1 row && rowsOk f m (n + 1) (nextRow row)) = true := ok
    rw [Bool.and_eq_true] at ok2
    by_cases c : k = n
    · subst c
      exact chain_all hr h6 k 0 (by omega) ok2.1 d (by omega) hd
    · have hr2 : isRow (n + 1 - 1) (nextRow row) := fun j hj => by
        have e : n + 1 - 1 = (n - 1) + 1 := by omega
        rw [e]
        exact nextRow_is hr j hj
      exact rows_all m (n + 1) (nextRow row) hr2 (by omega) ok2.2 k (by omega) (by omega) h6 d hd
theorem small_ok : rowsOk (fun _ _ a => Nat.blt a (2 ^ 100)) 60 1 row0 = true := by decide +kernel
theorem leastL_lt {n d : Nat} (h1 : 1 ≤ n) (h6 : n ≤ 60) (hd : d ≤ n) : leastL n d < 2 ^ 100 := by
  have h := rows_all 60 1 row0 row0_is (by decide) small_ok n h1 (by omega) h6 d hd
  have h2 : Nat.blt (leastL n d) (2 ^ 100) = true := h
  rw [Nat.blt_eq] at h2
  exact h2
end Ef
namespace Ef
/-! ### the standard table -/
theorem stepL_left (a b : Nat) (ha : 0 < a) : a ∣ stepL a b := by
  unfold stepL
  have h1 : Nat.gcd a b ∣ a := Nat.gcd_dvd_left a b
  have h2 : Nat.gcd a b ∣ b := Nat.gcd_dvd_right a b
  refine ⟨b / Nat.gcd a b, ?_⟩
  obtain ⟨x, hx⟩ := h1
  obtain ⟨y, hy⟩ := h2
  have g0 : 0 < Nat.gcd a b := Nat.gcd_pos_of_pos_left b ha
  generalize Nat.gcd a b = g at hx hy g0
  subst hx hy
  rw [Nat.mul_div_cancel_left _ g0, Nat.mul_div_cancel_left _ g0, Nat.mul_comm g x, Nat.mul_assoc]
theorem stepL_right (a b : Nat) : b ∣ stepL a b := ⟨a / Nat.gcd a b, Nat.mul_comm _ _⟩
theorem leastL_dvd {n : Nat} : ∀ {d : Nat}, d ≤ n → ∀ b, b < d → n * C (n - 1) b ∣ leastL n d
  | 0, _, b, h => by omega
  | d + 1, hd, b, h => by
    by_cases e : b = d
    · subst e
      exact stepL_right _ _
    · exact Nat.dvd_trans (leastL_dvd (by omega) b (by omega)) (stepL_left _ _ (leastL_pos (by omega)))
/-- width of a block at a level -/
def wd (n c s : Nat) : Nat := c / (n * C (n - 1) s)
theorem wd_eq {n c s : Nat} (h : n * C (n - 1) s ∣ c) : wd n c s * (n * C (n - 1) s) = c := Nat.div_mul_cancel h
theorem wd_pos {n c s : Nat} (h : n * C (n - 1) s ∣ c) (hc : 0 < c) : 0 < wd n c s := by
  have e := wd_eq h
  cases z : wd n c s with
  | zero =>
    rw [z, Nat.zero_mul] at e
    omega
  | succ k => omega
theorem wd_step {n c b : Nat} (h1 : n * C (n - 1) b ∣ c) (h2 : n * C (n - 1) (b + 1) ∣ c) (hb : b + 1 < n) : wd n c b * (b + 1) = wd n c (b + 1) * (n - (b + 1)) := by
  have e1 := wd_eq h1
  have e2 := wd_eq h2
  have s := C_step (n - 1) b (by omega)
  have p : 0 < n * C (n - 1) b := edge_pos (by omega)
  have x1 : wd n c b * (b + 1) * (n * C (n - 1) b) = c * (b + 1) := by
    rw [Nat.mul_right_comm, e1]
  have x2 : wd n c (b + 1) * (n - (b + 1)) * (n * C (n - 1) b) = c * (b + 1) := by
    have y : wd n c (b + 1) * (n * C (n - 1) (b + 1)) * (b + 1) = c * (b + 1) := by rw [e2]
    rw [← y, Nat.mul_assoc, Nat.mul_assoc (wd n c (b + 1)), Nat.mul_assoc n, s, show n - 1 - b = n - (b + 1) by omega]
    congr 1
    rw [Nat.mul_comm (n - (b + 1)), Nat.mul_assoc]
  exact Nat.eq_of_mul_eq_mul_right p (x1.trans x2.symm)
theorem wd_zero {n c : Nat} (h : n * C (n - 1) 0 ∣ c) : wd n c 0 * n = c := by
  have e := wd_eq h
  rw [C_zero, Nat.mul_one] at e
  exact e
theorem wd_le (n c s : Nat) : wd n c s ≤ c := Nat.div_le_self _ _
/-- what 'follow' takes and what it leaves -/
def fol (n c : Nat) : List Nat → List Nat → Nat → List Nat × Nat
  | [], _, r => ([], r)
  | s :: ss, L, r => (L.getD (r / wd n c s) 0 :: (fol n c ss (L.eraseIdx (r / wd n c s)) (wd n c s * (L.getD (r / wd n c s) 0 - r / wd n c s) + r % wd n c s)).1,
      (fol n c ss (L.eraseIdx (r / wd n c s)) (wd n c s * (L.getD (r / wd n c s) 0 - r / wd n c s) + r % wd n c s)).2)
def FolOk (n c : Nat) : List Nat → List Nat → Nat → Prop
  | [], _, _ => True
  | s :: ss, L, r => 0 < wd n c s ∧ r / wd n c s < L.length ∧ r / wd n c s ≤ L.getD (r / wd n c s) 0 ∧
      FolOk n c ss (L.eraseIdx (r / wd n c s)) (wd n c s * (L.getD (r / wd n c s) 0 - r / wd n c s) + r % wd n c s)
theorem fol_cons (n c s : Nat) (ss L : List Nat) (r : Nat) : fol n c (s :: ss) L r = (L.getD (r / wd n c s) 0 :: (fol n c ss (L.eraseIdx (r / wd n c s)) (wd n c s * (L.getD (r / wd n c s) 0 - r / wd n c s) + r % wd n c s)).1, (fol n c ss (L.eraseIdx (r / wd n c s)) (wd n c s * (L.getD (r / wd n c s) 0 - r / wd n c s) + r % wd n c s)).2) := rfl
theorem fol_len (n c : Nat) : ∀ ss L r, (fol n c ss L r).1.length = ss.length
  | [], _, _ => rfl
  | s :: ss, L, r => congrArg (· + 1) (fol_len n c ss _ _)
/-- ascending -/
abbrev Asc (L : List Nat) : Prop := L.Pairwise (· < ·)
theorem getD_of {L : List Nat} {i : Nat} (h : i < L.length) : L[i]? = some (L.getD i 0) := by
  rw [List.getD_eq_getElem?_getD, List.getElem?_eq_getElem h]
  rfl
/-- an ascending list counted from lo -/
theorem asc_from : ∀ {L : List Nat} {lo : Nat}, Asc L → (∀ x ∈ L, lo ≤ x) → ∀ {i x : Nat}, L[i]? = some x → lo + i ≤ x
  | [], _, _, _, _, _, h => by cases h
  | y :: L, lo, a, hl, 0, x, h => by
    obtain rfl : y = x := Option.some.inj h
    exact hl y List.mem_cons_self
  | y :: L, lo, a, hl, i + 1, x, h => by
    have h1 : L[i]? = some x := h
    have hy := hl y List.mem_cons_self
    have h2 := asc_from (L := L) (lo := lo + 1) (List.pairwise_cons.mp a).2 (fun z hz => by
      have := (List.pairwise_cons.mp a).1 z hz
      omega) h1
    omega
theorem asc_ge {L : List Nat} (a : Asc L) {i x : Nat} (h : L[i]? = some x) : i ≤ x := by
  have := asc_from a (lo := 0) (fun _ _ => Nat.zero_le _) h
  omega
theorem asc_le : ∀ {L : List Nat} {n : Nat}, Asc L → (∀ x ∈ L, x < n) → ∀ {i x : Nat}, L[i]? = some x → x + (L.length - i) ≤ n
  | [], _, _, _, _, _, h => by cases h
  | [y], n, _, hl, 0, x, h => by
    obtain rfl : y = x := Option.some.inj h
    have := hl y List.mem_cons_self
    show y + 1 ≤ n
    omega
  | y :: z :: L, n, a, hl, 0, x, h => by
    obtain rfl : y = x := Option.some.inj h
    have h1 := asc_le (L := z :: L) (List.pairwise_cons.mp a).2 (fun u hu => hl u (List.mem_cons_of_mem _ hu)) (i := 0) (x := z) rfl
    have h2 := (List.pairwise_cons.mp a).1 z List.mem_cons_self
    have e : (y :: z :: L).length = (z :: L).length + 1 := rfl
    omega
  | y :: L, n, a, hl, i + 1, x, h => by
    have h1 := asc_le (L := L) (List.pairwise_cons.mp a).2 (fun u hu => hl u (List.mem_cons_of_mem _ hu)) (i := i) (x := x) h
    have e : (y :: L).length = L.length + 1 := rfl
    omega
theorem asc_erase {L : List Nat} (a : Asc L) (i : Nat) : Asc (L.eraseIdx i) := a.sublist (List.eraseIdx_sublist L i)
/-- the way forward keeps within its bounds -/
theorem folOk_path {n c d : Nat} (hd : ∀ b, b < d → n * C (n - 1) b ∣ c) (hc : 0 < c) (hdn : d ≤ n) : ∀ (m b : Nat) (L : List Nat) (r : Nat), b + m = d → Asc L → (∀ x ∈ L, x < n) → L.length = n - b → (b < d → r < wd n c b * (n - b)) → FolOk n c (List.range' b m) L r
  | 0, _, _, _, _, _, _, _, _ => trivial
  | m + 1, b, L, r, e, a, hl, hlen, hr => by
    have hb := hd b (by omega)
    have w0 := wd_pos hb hc
    have hr2 := hr (by omega)
    have hi : r / wd n c b < L.length := by
      rw [hlen]
      exact Nat.div_lt_of_lt_mul hr2
    have hx := getD_of hi
    have g1 := asc_ge a hx
    have g2 := asc_le a hl hx
    refine ⟨w0, hi, g1, ?_⟩
    refine folOk_path hd hc hdn m (b + 1) _ _ (by omega) (asc_erase a _) (fun x hx => hl x (List.mem_of_mem_eraseIdx hx)) ?_ (fun hlt => ?_)
    · rw [List.length_eraseIdx, if_pos hi]
      omega
    · rw [← wd_step hb (hd (b + 1) hlt) (by omega)]
      have h1 : r % wd n c b < wd n c b := Nat.mod_lt _ w0
      have h2 : L.getD (r / wd n c b) 0 - r / wd n c b ≤ b := by omega
      have h3 : wd n c b * (L.getD (r / wd n c b) 0 - r / wd n c b) ≤ wd n c b * b := Nat.mul_le_mul_left _ h2
      rw [Nat.mul_add, Nat.mul_one]
      omega
/-- count of lists and depth that go together -/
structure Std (n d c : Nat) : Prop where
  n60 : n ≤ 60
  n1 : 1 ≤ n
  dn : d ≤ n
  c0 : 0 < c
  dv : leastL n d ∣ c
theorem Std.dvd {n d c : Nat} (h : Std n d c) (b : Nat) (hb : b < d) : n * C (n - 1) b ∣ c := Nat.dvd_trans (leastL_dvd h.dn b hb) h.dv
def path (n d c k : Nat) : List Nat × Nat := fol n c (List.range' 0 d) (List.range' 0 n) k
theorem asc_range' : ∀ (m b : Nat), Asc (List.range' b m) := fun m b => List.pairwise_lt_range'
theorem mem_range0 {n x : Nat} : x ∈ List.range' 0 n ↔ x < n := by
  rw [List.mem_range']
  exact ⟨fun ⟨i, h1, h2⟩ => by omega, fun h => ⟨x, h, by omega⟩⟩
theorem path_ok {n d c k : Nat} (h : Std n d c) (hk : k < c) : FolOk n c (List.range' 0 d) (List.range' 0 n) k :=
  folOk_path h.dvd h.c0 h.dn d 0 _ _ (by omega) (asc_range' n 0) (fun x hx => mem_range0.mp hx) (by rw [List.length_range']; omega) fun hd => by
    rw [Nat.sub_zero, wd_zero (h.dvd 0 hd)]
    exact hk
theorem fol_mem {n c : Nat} : ∀ {ss L : List Nat} {r : Nat}, FolOk n c ss L r → ∀ x ∈ (fol n c ss L r).1, x ∈ L
  | [], _, _, _, x, hx => by cases hx
  | s :: ss, L, r, ok, x, hx => by
    rw [fol_cons] at hx
    obtain ⟨_, h2, _, ok2⟩ := ok
    rcases List.mem_cons.mp hx with rfl | hx
    · exact List.mem_of_getElem? (getD_of h2)
    · exact List.mem_of_mem_eraseIdx (fol_mem ok2 x hx)
theorem nodup_inj {L : List Nat} (hn : L.Nodup) {i j x : Nat} (h1 : L[i]? = some x) (h2 : L[j]? = some x) : i = j := by
  obtain ⟨a1, a2⟩ := List.getElem?_eq_some_iff.mp h1
  obtain ⟨b1, b2⟩ := List.getElem?_eq_some_iff.mp h2
  rcases Nat.lt_trichotomy i j with c | c | c
  · exact absurd (a2.trans b2.symm) (List.pairwise_iff_getElem.mp hn i j a1 b1 c)
  · exact c
  · exact absurd (b2.trans a2.symm) (List.pairwise_iff_getElem.mp hn j i b1 a1 c)
theorem not_mem_erase {L : List Nat} {i x : Nat} (hn : L.Nodup) (h : L[i]? = some x) : x ∉ L.eraseIdx i := by
  intro hm
  obtain ⟨k, hk⟩ := List.getElem?_of_mem hm
  rw [List.getElem?_eraseIdx] at hk
  split at hk
  · have := nodup_inj hn hk h
    omega
  · have := nodup_inj hn hk h
    omega
theorem fol_nodup {n c : Nat} : ∀ {ss L : List Nat} {r : Nat}, FolOk n c ss L r → L.Nodup → (fol n c ss L r).1.Nodup
  | [], _, _, _, _ => List.nodup_nil
  | s :: ss, L, r, ok, hn => by
    rw [fol_cons]
    obtain ⟨_, h2, _, ok2⟩ := ok
    refine List.nodup_cons.mpr ⟨fun hx => not_mem_erase hn (getD_of h2) (fol_mem ok2 _ hx), fol_nodup ok2 (hn.sublist (List.eraseIdx_sublist _ _))⟩
theorem asc_nodup {L : List Nat} (h : Asc L) : L.Nodup := h.imp fun z => Nat.ne_of_lt z
theorem path_nodup {n d c k : Nat} (h : Std n d c) (hk : k < c) : (path n d c k).1.Nodup := fol_nodup (path_ok h hk) (asc_nodup (asc_range' n 0))
theorem path_lt {n d c k : Nat} (h : Std n d c) (hk : k < c) : ∀ x ∈ (path n d c k).1, x < n := fun x hx => mem_range0.mp (fol_mem (path_ok h hk) x hx)
theorem path_len (n d c k : Nat) : (path n d c k).1.length = d := by
  unfold path
  rw [fol_len, List.length_range']
theorem fol_rest {n c d : Nat} (hd : ∀ b, b < d → n * C (n - 1) b ∣ c) (hc : 0 < c) (hdn : d ≤ n) : ∀ (m b : Nat) (L : List Nat) (r : Nat), b + m = d → Asc L → (∀ x ∈ L, x < n) → L.length = n - b → (b < d → r < wd n c b * (n - b)) → r < c → (fol n c (List.range' b m) L r).2 < c
  | 0, _, _, _, _, _, _, _, _, h => h
  | m + 1, b, L, r, e, a, hl, hlen, hr, h => by
    have hb := hd b (by omega)
    have w0 := wd_pos hb hc
    have hr2 := hr (by omega)
    have hi : r / wd n c b < L.length := by
      rw [hlen]
      exact Nat.div_lt_of_lt_mul hr2
    have hx := getD_of hi
    have g1 := asc_ge a hx
    have g2 := asc_le a hl hx
    have h1 : r % wd n c b < wd n c b := Nat.mod_lt _ w0
    have h2 : L.getD (r / wd n c b) 0 - r / wd n c b ≤ b := by omega
    have h3 : wd n c b * (L.getD (r / wd n c b) 0 - r / wd n c b) ≤ wd n c b * b := Nat.mul_le_mul_left _ h2
    have h4 : wd n c b * (L.getD (r / wd n c b) 0 - r / wd n c b) + r % wd n c b < wd n c b * (b + 1) := by
      rw [Nat.mul_add, Nat.mul_one]
      omega
    have h5 : wd n c b * (b + 1) ≤ c := by
      have p : 0 < C (n - 1) b := C_pos _ _ (by omega)
      have p2 : b + 1 ≤ n * C (n - 1) b := Nat.le_trans (show b + 1 ≤ n * 1 by omega) (Nat.mul_le_mul_left n p)
      have := Nat.mul_le_mul_left (wd n c b) p2
      rw [wd_eq hb] at this
      exact this
    rw [List.range'_succ, fol_cons]
    refine fol_rest hd hc hdn m (b + 1) _ _ (by omega) (asc_erase a _) (fun x hx => hl x (List.mem_of_mem_eraseIdx hx)) ?_ (fun hlt => ?_) (by omega)
    · rw [List.length_eraseIdx, if_pos hi]
      omega
    · rw [← wd_step hb (hd (b + 1) hlt) (by omega)]
      exact h4
theorem path_rest {n d c k : Nat} (h : Std n d c) (hk : k < c) : (path n d c k).2 < c :=
  fol_rest h.dvd h.c0 h.dn d 0 _ _ (by omega) (asc_range' n 0) (fun x hx => mem_range0.mp hx) (by rw [List.length_range']; omega) (fun hd => by
    rw [Nat.sub_zero, wd_zero (h.dvd 0 hd)]
    exact hk) hk
theorem asc_unique {L M : List Nat} (a : Asc L) (b : Asc M) (p : L.Perm M) : L = M :=
  List.Perm.eq_of_pairwise (le := (· ≤ ·)) (fun a b _ _ h1 h2 => Nat.le_antisymm h1 h2) (a.imp fun z => Nat.le_of_lt z) (b.imp fun z => Nat.le_of_lt z) p
theorem std_of {n d : Nat} (h6 : n ≤ 60) (h1 : 1 ≤ n) (hd : d ≤ n) (q : Nat) (hq : 0 < q) : Std n d (leastL n d * q) := ⟨h6, h1, hd, Nat.mul_pos (leastL_pos hd) hq, ⟨q, rfl⟩⟩
/-! what stands outside a set, and the places in it -/
theorem below_at : ∀ {M : List Nat}, Asc M → ∀ {j s : Nat}, M[j]? = some s → (M.filter fun x => decide (x < s)).length = j
  | [], _, _, _, h => by cases h
  | y :: M, a, 0, s, h => by
    obtain rfl : y = s := Option.some.inj h
    rw [List.filter_cons_of_neg (by simp), List.filter_eq_nil_iff.mpr]
    · rfl
    · intro x hx
      have := (List.pairwise_cons.mp a).1 x hx
      simp
      omega
  | y :: M, a, j + 1, s, h => by
    have h1 : M[j]? = some s := h
    have h2 := (List.pairwise_cons.mp a).1 s (List.mem_of_getElem? h1)
    rw [List.filter_cons_of_pos (by simpa using h2)]
    exact congrArg (· + 1) (below_at (List.pairwise_cons.mp a).2 h1)
/-- L: the servers outside I, ascending -/
structure Compl (n : Nat) (I L : List Nat) : Prop where
  aI : Asc I
  aL : Asc L
  bI : ∀ x ∈ I, x < n
  mem : ∀ x, x ∈ L ↔ x < n ∧ x ∉ I
theorem Compl.count {n : Nat} {I L : List Nat} (h : Compl n I L) {i s : Nat} (e : L[i]? = some s) : (I.filter fun x => decide (x < s)).length + i = s := by
  have hs := (h.mem s).mp (List.mem_of_getElem? e)
  have p : ((I.filter fun x => decide (x < s)) ++ (L.filter fun x => decide (x < s))).Perm (List.range' 0 s) := by
    refine (List.perm_ext_iff_of_nodup ?_ (asc_nodup (asc_range' s 0))).mpr fun x => ?_
    · refine List.nodup_append.mpr ⟨(asc_nodup h.aI).filter _, (asc_nodup h.aL).filter _, fun x hx y hy e2 => ?_⟩
      subst e2
      exact ((h.mem x).mp (List.mem_filter.mp hy).1).2 (List.mem_filter.mp hx).1
    · rw [List.mem_append, List.mem_filter, List.mem_filter, mem_range0, h.mem]
      simp only [decide_eq_true_eq]
      constructor
      · rintro (⟨_, h⟩ | ⟨_, h⟩) <;> exact h
      · intro hx
        by_cases c : x ∈ I
        · exact .inl ⟨c, hx⟩
        · exact .inr ⟨⟨by omega, c⟩, hx⟩
  have l := p.length_eq
  rw [List.length_append, below_at h.aL e, List.length_range'] at l
  exact l
theorem Compl.start (n : Nat) : Compl n [] (List.range' 0 n) := ⟨List.Pairwise.nil, asc_range' n 0, fun x hx => absurd hx List.not_mem_nil, fun x => by rw [mem_range0]; simp⟩
theorem Compl.next {n : Nat} {I L I' : List Nat} (h : Compl n I L) {i s : Nat} (e : L[i]? = some s) (hp : I'.Perm (I ++ [s])) (ha : Asc I') : Compl n I' (L.eraseIdx i) := by
  have hs := (h.mem s).mp (List.mem_of_getElem? e)
  refine ⟨ha, asc_erase h.aL i, fun x hx => ?_, fun x => ?_⟩
  · rcases List.mem_append.mp (hp.mem_iff.mp hx) with hx | hx
    · exact h.bI x hx
    · rw [List.mem_singleton.mp hx]
      exact hs.1
  · constructor
    · intro hx
      have h1 := (h.mem x).mp (List.mem_of_mem_eraseIdx hx)
      refine ⟨h1.1, fun hx2 => ?_⟩
      rcases List.mem_append.mp (hp.mem_iff.mp hx2) with z | z
      · exact h1.2 z
      · rw [List.mem_singleton.mp z] at hx
        exact not_mem_erase (asc_nodup h.aL) e hx
    · rintro ⟨h1, h2⟩
      have h3 : x ∉ I := fun z => h2 (hp.mem_iff.mpr (List.mem_append_left _ z))
      have h4 : x ≠ s := fun z => h2 (hp.mem_iff.mpr (List.mem_append_right _ (by rw [z]; exact List.mem_singleton_self s)))
      obtain ⟨k, hk⟩ := List.getElem?_of_mem ((h.mem x).mpr ⟨h1, h3⟩)
      have hki : k ≠ i := fun z => by
        rw [z, e] at hk
        exact h4 (Option.some.inj hk).symm
      rcases Nat.lt_or_gt_of_ne hki with hlt | hgt
      · exact List.mem_of_getElem? (i := k) (by rw [List.getElem?_eraseIdx, if_pos hlt]; exact hk)
      · exact List.mem_of_getElem? (i := k - 1) (by rw [List.getElem?_eraseIdx, if_neg (by omega), show k - 1 + 1 = k by omega]; exact hk)
/-- the place of the new one -/
theorem Compl.index {n : Nat} {I L I' : List Nat} (h : Compl n I L) {i j s : Nat} (e : L[i]? = some s) (hp : I'.Perm (I ++ [s])) (ha : Asc I') (hj : I'[j]? = some s) : j + i = s := by
  have h1 := h.count e
  have h2 := below_at ha hj
  have h3 := (hp.filter fun x => decide (x < s)).length_eq
  rw [List.filter_append, List.length_append] at h3
  have h4 : (List.filter (fun x => decide (x < s)) [s]).length = 0 := by
    rw [List.filter_cons_of_neg (by simp)]
    rfl
  omega
theorem Compl.free {n : Nat} {I L : List Nat} (h : Compl n I L) : (List.range' 0 n).filter (fun x => !decide (x ∈ I)) = L := by
  have a1 : Asc ((List.range' 0 n).filter (fun x => !decide (x ∈ I))) := (asc_range' n 0).filter _
  refine List.Perm.eq_of_pairwise (le := (· ≤ ·)) (fun a b _ _ h1 h2 => Nat.le_antisymm h1 h2) (a1.imp fun z => Nat.le_of_lt z) (h.aL.imp fun z => Nat.le_of_lt z) ?_
  refine (List.perm_ext_iff_of_nodup (asc_nodup a1) (asc_nodup h.aL)).mpr fun x => ?_
  rw [List.mem_filter, mem_range0, h.mem]
  simp
end Ef
namespace Ef
/-! ### the sets of a size among ascending servers -/
def combs : List Nat → Nat → List (List Nat)
  | _, 0 => [[]]
  | [], _ + 1 => []
  | x :: r, k + 1 => (combs r k).map (x :: ·) ++ combs r (k + 1)
theorem combs_zero (l : List Nat) : combs l 0 = [[]] := by cases l <;> rfl
theorem combs_short : ∀ (l : List Nat) (k : Nat), l.length < k → combs l k = []
  | _, 0, h => absurd h (Nat.not_lt_zero _)
  | [], k + 1, _ => rfl
  | x :: r, k + 1, h => by
    have h2 : r.length < k := by
      simp only [List.length_cons] at h
      omega
    show (combs r k).map _ ++ combs r (k + 1) = []
    rw [combs_short r k h2, combs_short r (k + 1) (by omega)]
    rfl
theorem combs_good : ∀ (l : List Nat) (k : Nat), ∀ c ∈ combs l k, c.length = k ∧ c.Sublist l
  | l, 0, c, h => by
    rw [combs_zero] at h
    rw [List.mem_singleton.mp h]
    exact ⟨rfl, List.nil_sublist _⟩
  | [], k + 1, c, h => by cases h
  | x :: r, k + 1, c, h => by
    rcases List.mem_append.mp h with h | h
    · obtain ⟨d, hd, rfl⟩ := List.mem_map.mp h
      obtain ⟨h1, h2⟩ := combs_good r k d hd
      exact ⟨by rw [List.length_cons, h1], h2.cons_cons x⟩
    · obtain ⟨h1, h2⟩ := combs_good r (k + 1) c h
      exact ⟨h1, h2.cons x⟩
theorem combs_ne : ∀ (l : List Nat) (k : Nat), k ≤ l.length → combs l k ≠ []
  | l, 0, _ => by rw [combs_zero]; simp
  | [], k + 1, h => by simp at h
  | x :: r, k + 1, h => by
    have h2 : k ≤ r.length := by
      simp only [List.length_cons] at h
      omega
    show (combs r k).map _ ++ combs r (k + 1) ≠ []
    intro e
    have := (List.append_eq_nil_iff.mp e).1
    exact combs_ne r k h2 (List.map_eq_nil_iff.mp this)
theorem combs_mem : ∀ (l c : List Nat), c.Sublist l → c ∈ combs l c.length
  | l, [], _ => by
    show [] ∈ combs l 0
    rw [combs_zero]
    exact List.mem_singleton.mpr rfl
  | [], _ :: _, h => by cases h
  | x :: r, y :: c, h => by
    show y :: c ∈ (combs r c.length).map (x :: ·) ++ combs r (c.length + 1)
    cases h with
    | cons _ h => exact List.mem_append_right _ (combs_mem r (y :: c) h)
    | cons_cons _ h => exact List.mem_append_left _ (List.mem_map.mpr ⟨c, combs_mem r c h, rfl⟩)
/-- by the place of the first one -/
theorem combs_from (l : List Nat) (m : Nat) : ∀ (d s : Nat), l.length + 1 ≤ s + d + (m + 1) → s + d + (m + 1) ≤ l.length + 1 ∨ d = 0 → combs (l.drop s) (m + 1) = (List.range' s d).flatMap fun i => (combs (l.drop (i + 1)) m).map (l.getD i 0 :: ·)
  | 0, s, h1, _ => by
    rw [combs_short _ _ (by rw [List.length_drop]; omega)]
    rfl
  | d + 1, s, h1, h2 => by
    have hs : s < l.length := by omega
    rw [List.drop_eq_getElem_cons hs]
    show (combs (l.drop (s + 1)) m).map _ ++ combs (l.drop (s + 1)) (m + 1) = _
    rw [combs_from l m d (s + 1) (by omega) (by omega), List.range'_succ, List.flatMap_cons]
    congr 2
    funext c
    rw [List.getD_eq_getElem?_getD, List.getElem?_eq_getElem hs]
    rfl
/-- one server more, in the order of the law -/
def moreC (l : List Nat) (c : List Nat) : List (List Nat) := (l.filter fun y => decide (c = [] ∨ c.getLastD 0 < y)).map fun y => c ++ [y]
theorem last_cons (x : Nat) (c : List Nat) (h : c ≠ []) : (x :: c).getLastD 0 = c.getLastD 0 := by
  cases c with
  | nil => exact absurd rfl h
  | cons a r => rfl
theorem last_mem (c : List Nat) (h : c ≠ []) : c.getLastD 0 ∈ c := by
  cases c with
  | nil => exact absurd rfl h
  | cons a r =>
    have e : (a :: r).getLastD 0 = (a :: r).getLast h := by
      rw [List.getLastD_cons, List.getLast_eq_getLastD]
    rw [e]
    exact List.getLast_mem h
theorem flat_congr {α β : Type} {f g : α → List β} : ∀ {l : List α}, (∀ a ∈ l, f a = g a) → l.flatMap f = l.flatMap g
  | [], _ => rfl
  | a :: l, h => by rw [List.flatMap_cons, List.flatMap_cons, h a List.mem_cons_self, flat_congr fun b hb => h b (List.mem_cons_of_mem _ hb)]
theorem combs_more : ∀ (l : List Nat) (t : Nat), Asc l → (combs l t).flatMap (moreC l) = combs l (t + 1)
  | [], 0, _ => rfl
  | [], t + 1, _ => rfl
  | x :: r, 0, h => by
    obtain ⟨h1, h2⟩ := List.pairwise_cons.mp h
    have ih := combs_more r 0 h2
    rw [combs_zero] at ih ⊢
    rw [List.flatMap_cons, List.flatMap_nil, List.append_nil] at ih ⊢
    show _ = (combs r 0).map (x :: ·) ++ combs r 1
    rw [← ih, combs_zero]
    unfold moreC
    rw [List.filter_cons_of_pos (by simp)]
    rfl
  | x :: r, t + 1, h => by
    obtain ⟨h1, h2⟩ := List.pairwise_cons.mp h
    show ((combs r t).map (x :: ·) ++ combs r (t + 1)).flatMap (moreC (x :: r)) = (combs r (t + 1)).map (x :: ·) ++ combs r (t + 2)
    rw [List.flatMap_append]
    have e2 : (combs r (t + 1)).flatMap (moreC (x :: r)) = combs r (t + 2) := by
      rw [← combs_more r (t + 1) h2]
      refine flat_congr fun c hc => ?_
      obtain ⟨g1, g2⟩ := combs_good r (t + 1) c hc
      have ne : c ≠ [] := fun e => by rw [e] at g1; cases g1
      have hl := h1 _ (g2.subset (last_mem c ne))
      unfold moreC
      rw [List.filter_cons_of_neg]
      simp only [decide_eq_true_eq, not_or]
      exact ⟨ne, by omega⟩
    have e1 : ((combs r t).map (x :: ·)).flatMap (moreC (x :: r)) = (combs r (t + 1)).map (x :: ·) := by
      rw [← combs_more r t h2, List.flatMap_map, List.map_flatMap]
      refine flat_congr fun c hc => ?_
      obtain ⟨g1, g2⟩ := combs_good r t c hc
      unfold moreC
      rw [List.map_map]
      by_cases ne : c = []
      · subst ne
        rw [List.filter_cons_of_neg (by simp)]
        have e : (r.filter fun y => decide (([x] : List Nat) = [] ∨ ([x] : List Nat).getLastD 0 < y)) = r.filter fun y => decide (([] : List Nat) = [] ∨ ([] : List Nat).getLastD 0 < y) := by
          refine List.filter_congr fun y hy => ?_
          have := h1 y hy
          simp [this]
        rw [e]
        rfl
      · have hl := h1 _ (g2.subset (last_mem c ne))
        rw [List.filter_cons_of_neg (by
          simp only [decide_eq_true_eq, not_or]
          exact ⟨by simp, by rw [last_cons x c ne]; omega⟩)]
        have e : (r.filter fun y => decide (x :: c = [] ∨ (x :: c).getLastD 0 < y)) = r.filter fun y => decide (c = [] ∨ c.getLastD 0 < y) := by
          refine List.filter_congr fun y hy => ?_
          rw [last_cons x c ne]
          simp [ne]
        rw [e]
        rfl
    rw [e1, e2]
/-! the program's beginnings -/
def stepB (l : List Nat) (m : Nat) (b : List Nat × Nat) : List (List Nat × Nat) := (List.range' b.2 (l.length + 1 - m - b.2)).map fun i => (b.1 ++ [l.getD i 0], i + 1)
def begB (l : List Nat) (k : Nat) : Nat → List (List Nat × Nat)
  | 0 => [([], 0)]
  | t + 1 => (begB l k t).flatMap (stepB l (k - t))
def restB (l : List Nat) (m : Nat) (b : List Nat × Nat) : List (List Nat) := (combs (l.drop b.2) m).map (b.1 ++ ·)
theorem step_rest (l : List Nat) (m : Nat) (b : List Nat × Nat) : (stepB l (m + 1) b).flatMap (restB l m) = restB l (m + 1) b := by
  unfold stepB restB
  rw [combs_from l m (l.length + 1 - (m + 1) - b.2) b.2 (by omega) (by omega), List.flatMap_map, List.map_flatMap]
  refine flat_congr fun i _ => ?_
  rw [List.map_map]
  refine List.map_congr_left fun c _ => ?_
  show b.1 ++ [l.getD i 0] ++ c = b.1 ++ (l.getD i 0 :: c)
  rw [List.append_assoc]
  rfl
theorem flat_flat {α β γ : Type} (f : α → List β) (g : β → List γ) : ∀ l : List α, (l.flatMap f).flatMap g = l.flatMap fun a => (f a).flatMap g
  | [] => rfl
  | a :: l => by rw [List.flatMap_cons, List.flatMap_append, List.flatMap_cons, flat_flat f g l]
theorem beg_rest (l : List Nat) (k : Nat) : ∀ t, t ≤ k → (begB l k t).flatMap (restB l (k - t)) = combs l k
  | 0, _ => by
    show restB l k ([], 0) ++ [] = _
    unfold restB
    rw [List.append_nil]
    show (combs l k).map _ = _
    exact List.map_id _
  | t + 1, h => by
    rw [← beg_rest l k t (by omega)]
    show ((begB l k t).flatMap (stepB l (k - t))).flatMap _ = _
    rw [flat_flat]
    refine flat_congr fun b _ => ?_
    have e : k - t = (k - (t + 1)) + 1 := by omega
    rw [e]
    exact step_rest l _ b
theorem map_flat {α β : Type} (f : α → β) : ∀ l : List α, l.flatMap (fun a => [f a]) = l.map f
  | [] => rfl
  | a :: l => by rw [List.flatMap_cons, map_flat f l]; rfl
theorem beg_end (l : List Nat) (k : Nat) : (begB l k k).map (·.1) = combs l k := by
  rw [← beg_rest l k k (Nat.le_refl _), ← map_flat]
  refine flat_congr fun b _ => ?_
  unfold restB
  rw [Nat.sub_self, combs_zero]
  show _ = [b.1 ++ []]
  rw [List.append_nil]
theorem beg_fit (l : List Nat) (k : Nat) : ∀ t, t < k → ∀ b ∈ begB l k (t + 1), b.2 + (k - (t + 1)) ≤ l.length := fun t ht b hb => by
  obtain ⟨a, _, hb⟩ := List.mem_flatMap.mp hb
  obtain ⟨i, hi, rfl⟩ := List.mem_map.mp hb
  rw [List.mem_range'_1] at hi
  show i + 1 + _ ≤ _
  omega
theorem len_flat {α β : Type} (f : α → List β) : ∀ l : List α, (∀ a ∈ l, f a ≠ []) → l.length ≤ (l.flatMap f).length
  | [], _ => Nat.zero_le _
  | a :: l, h => by
    rw [List.flatMap_cons, List.length_append, List.length_cons]
    have h1 := len_flat f l fun b hb => h b (List.mem_cons_of_mem _ hb)
    have h2 := List.length_pos_iff.mpr (h a List.mem_cons_self)
    omega
theorem beg_len (l : List Nat) (k : Nat) : ∀ t, t ≤ k → (begB l k t).length ≤ (combs l k).length + 1
  | 0, _ => by show 1 ≤ _; omega
  | t + 1, h => by
    rw [← beg_rest l k (t + 1) h]
    refine Nat.le_succ_of_le (len_flat _ _ fun b hb => ?_)
    have := beg_fit l k t h b hb
    unfold restB
    intro e
    exact combs_ne _ _ (by rw [List.length_drop]; omega) (List.map_eq_nil_iff.mp e)
theorem beg_good (l : List Nat) (k : Nat) : ∀ t, ∀ b ∈ begB l k t, b.1.length = t ∧ b.2 ≤ l.length + 1
  | 0, b, hb => by
    rw [List.mem_singleton.mp hb]
    exact ⟨rfl, Nat.zero_le _⟩
  | t + 1, b, hb => by
    obtain ⟨a, ha, hb⟩ := List.mem_flatMap.mp hb
    obtain ⟨i, hi, rfl⟩ := List.mem_map.mp hb
    rw [List.mem_range'_1] at hi
    obtain ⟨h1, h2⟩ := beg_good l k t a ha
    exact ⟨by show (a.1 ++ _).length = _; rw [List.length_append, h1]; rfl, by show i + 1 ≤ _; omega⟩
theorem fm_le {α β : Type} (f : α → List β) : ∀ (l : List α) (i : Nat), ((l.take i).flatMap f).length ≤ (l.flatMap f).length
  | [], i => by rw [List.take_nil]; exact Nat.le_refl _
  | a :: l, 0 => Nat.zero_le _
  | a :: l, i + 1 => by
    rw [List.take_succ_cons, List.flatMap_cons, List.flatMap_cons, List.length_append, List.length_append]
    have := fm_le f l i
    omega
theorem fm_step {α β : Type} {f : α → List β} {l : List α} {i : Nat} {a : α} (h : l[i]? = some a) : (l.take (i + 1)).flatMap f = (l.take i).flatMap f ++ f a := by
  rw [List.take_add_one, h, List.flatMap_append]
  show _ ++ [a].flatMap f = _
  rw [List.flatMap_cons, List.flatMap_nil, List.append_nil]
theorem take_snoc {α : Type} {l : List α} {i : Nat} {a : α} (h : l[i]? = some a) : l.take (i + 1) = l.take i ++ [a] := by
  rw [List.take_add_one, h]
  rfl
theorem combsLen : ∀ (l : List Nat) (k : Nat), (combs l k).length = C l.length k
  | l, 0 => by rw [combs_zero]; cases l <;> rfl
  | [], k + 1 => rfl
  | x :: r, k + 1 => by
    show ((combs r k).map _ ++ combs r (k + 1)).length = C (r.length + 1) (k + 1)
    rw [List.length_append, List.length_map, combsLen r k, combsLen r (k + 1)]
    rfl
theorem combsNodup : ∀ (l : List Nat) (k : Nat), l.Nodup → (combs l k).Nodup
  | l, 0, _ => by
    rw [combs_zero]
    exact List.nodup_cons.mpr ⟨List.not_mem_nil, List.nodup_nil⟩
  | [], k + 1, _ => List.nodup_nil
  | x :: r, k + 1, h => by
    obtain ⟨h1, h2⟩ := List.nodup_cons.mp h
    refine List.nodup_append.mpr ⟨?_, combsNodup r (k + 1) h2, fun c hc d hd e => ?_⟩
    · refine List.Pairwise.map _ (fun a b hab z => hab ?_) (combsNodup r k h2)
      exact (List.cons.inj z).2
    · obtain ⟨c', _, rfl⟩ := List.mem_map.mp hc
      obtain ⟨_, g⟩ := combs_good r (k + 1) d hd
      rw [← e] at g
      exact h1 (g.subset List.mem_cons_self)
theorem ascSub : ∀ {b a : List Nat}, Asc a → Asc b → (∀ x ∈ a, x ∈ b) → a.Sublist b
  | [], [], _, _, _ => List.Sublist.slnil
  | [], x :: a, _, _, h => absurd (h x List.mem_cons_self) List.not_mem_nil
  | y :: b, [], _, _, _ => List.nil_sublist _
  | y :: b, x :: a, ha, hb, h => by
    obtain ⟨a1, a2⟩ := List.pairwise_cons.mp ha
    obtain ⟨b1, b2⟩ := List.pairwise_cons.mp hb
    by_cases e : x = y
    · subst e
      refine (ascSub a2 b2 fun z hz => ?_).cons_cons x
      rcases List.mem_cons.mp (h z (List.mem_cons_of_mem _ hz)) with rfl | h2
      · have := a1 z hz
        omega
      · exact h2
    · refine (ascSub (a := x :: a) ha b2 fun z hz => ?_).cons y
      rcases List.mem_cons.mp (h z hz) with rfl | h2
      · rcases List.mem_cons.mp hz with rfl | hz
        · exact absurd rfl e
        · have h3 := a1 z hz
          rcases List.mem_cons.mp (h x List.mem_cons_self) with h4 | h4
          · exact absurd h4 e
          · have := b1 x h4
            omega
      · exact h2
/-- all (set, server) with the server outside -/
def without (n x : Nat) : List Nat := (List.range n).filter fun y => !decide (y = x)
def allE (n sz : Nat) : List (List Nat × Nat) := (List.range n).flatMap fun x => (combs (without n x) sz).map fun c => (c, x)
theorem without_len {n x : Nat} (h : x < n) : (without n x).length = n - 1 := by
  unfold without
  have hp : ∀ l : List Nat, (l.filter fun y => !decide (y = x)).length + (l.filter fun y => decide (y = x)).length = l.length := by
    intro l
    induction l with
    | nil => rfl
    | cons a l ih =>
      by_cases e : a = x
      · rw [List.filter_cons_of_neg (by simpa using e), List.filter_cons_of_pos (by simpa using e), List.length_cons, List.length_cons]
        omega
      · rw [List.filter_cons_of_pos (by simpa using e), List.filter_cons_of_neg (by simpa using e), List.length_cons, List.length_cons]
        omega
  replace hp := hp (List.range n)
  rw [List.length_range] at hp
  have h1 : ((List.range n).filter fun y => decide (y = x)).length = 1 := by
    rw [← List.countP_eq_length_filter]
    have e : (List.range n).countP (fun y => decide (y = x)) = (List.range n).count x := by
      unfold List.count
      refine List.countP_congr fun y _ => ?_
      simp
    rw [e]
    exact List.Nodup.count List.nodup_range |>.trans (if_pos (List.mem_range.mpr h))
  omega
theorem without_asc (n x : Nat) : Asc (without n x) := List.Pairwise.filter _ (by
  have := List.pairwise_lt_range (n := n)
  exact this)
theorem flat_const {α β : Type} (f : α → List β) (k : Nat) : ∀ l : List α, (∀ a ∈ l, (f a).length = k) → (l.flatMap f).length = l.length * k
  | [], _ => by simp
  | a :: l, h => by
    rw [List.flatMap_cons, List.length_append, h a List.mem_cons_self, flat_const f k l fun b hb => h b (List.mem_cons_of_mem _ hb), List.length_cons, Nat.succ_mul]
    omega
theorem allE_len (n sz : Nat) : (allE n sz).length = n * C (n - 1) sz := by
  unfold allE
  rw [flat_const _ (C (n - 1) sz) _ fun x hx => ?_, List.length_range]
  rw [List.length_map, combsLen, without_len (List.mem_range.mp hx)]
theorem allE_mem {n sz x : Nat} {c : List Nat} (hx : x < n) (hl : c.length = sz) (ha : Asc c) (hc : ∀ y ∈ c, y < n ∧ y ≠ x) : (c, x) ∈ allE n sz := by
  refine List.mem_flatMap.mpr ⟨x, List.mem_range.mpr hx, List.mem_map.mpr ⟨c, ?_, rfl⟩⟩
  have := combs_mem (without n x) c (ascSub ha (without_asc n x) fun y hy => List.mem_filter.mpr ⟨List.mem_range.mpr (hc y hy).1, by simpa using (hc y hy).2⟩)
  rw [hl] at this
  exact this
theorem subG_len {α : Type} [DecidableEq α] : ∀ {ks ns : List α}, ks.Nodup → (∀ k ∈ ks, k ∈ ns) → ks.length ≤ ns.length
  | [], _, _, _ => Nat.zero_le _
  | k :: r, ns, h, hs => by
    have hk := hs k List.mem_cons_self
    have h1 := subG_len (ks := r) (ns := ns.erase k) (List.nodup_cons.mp h).2 fun x hx => (List.mem_erase_of_ne (fun e : x = k => (List.nodup_cons.mp h).1 (e ▸ hx))).mpr (hs x (List.mem_cons_of_mem _ hx))
    have h2 := List.length_erase_of_mem hk
    have h3 := List.length_pos_of_mem hk
    show r.length + 1 ≤ ns.length
    omega
/-! sorted -/
def srt (l : List Nat) : List Nat := l.mergeSort fun a b => decide (a ≤ b)
theorem srt_perm (l : List Nat) : (srt l).Perm l := List.mergeSort_perm l _
theorem srt_le (l : List Nat) : (srt l).Pairwise (· ≤ ·) := (List.pairwise_mergeSort (le := fun a b : Nat => decide (a ≤ b)) (fun a b c h1 h2 => by simp at *; omega) (fun a b => by simp; omega) l).imp fun h => of_decide_eq_true h
theorem srt_asc {l : List Nat} (h : l.Nodup) : Asc (srt l) := ((srt_le l).and ((srt_perm l).nodup_iff.mpr h)).imp fun ⟨a, b⟩ => by omega
theorem srt_of {l m : List Nat} (p : m.Perm l) (h : m.Pairwise (· ≤ ·)) : m = srt l :=
  List.Perm.eq_of_pairwise (le := fun a b : Nat => a ≤ b) (fun a b _ _ h1 h2 => Nat.le_antisymm h1 h2) h (srt_le l) (p.trans (srt_perm l).symm)
end Ef
namespace Ef
/-! ### the least numbers once more: common multiples of n, n - 1, .. -/
def leastP (n : Nat) : Nat → Nat
  | 0 => 1
  | d + 1 => stepL (leastP n d) (n - d)
theorem parts_ok : rowsOk (fun n d a => Nat.beq (leastP n d) a) 60 1 row0 = true := by decide +kernel
theorem leastP_eq {n d : Nat} (h1 : 1 ≤ n) (h6 : n ≤ 60) (hd : d ≤ n) : leastP n d = leastL n d :=
  Nat.eq_of_beq_eq_true (rows_all 60 1 row0 row0_is (by decide) parts_ok n h1 (by omega) h6 d hd)
theorem stepL_lcm (a b : Nat) : stepL a b = Nat.lcm a b := by
  unfold stepL Nat.lcm
  exact Nat.div_mul_right_comm (Nat.gcd_dvd_left a b) b
theorem stepL_dvd (a b c : Nat) : stepL a b ∣ c ↔ a ∣ c ∧ b ∣ c := by
  rw [stepL_lcm]
  exact ⟨fun h => ⟨Nat.dvd_trans (Nat.dvd_lcm_left a b) h, Nat.dvd_trans (Nat.dvd_lcm_right a b) h⟩, fun h => Nat.lcm_dvd h.1 h.2⟩
theorem leastP_dvd (n c : Nat) : ∀ d, leastP n d ∣ c ↔ ∀ i, i < d → (n - i) ∣ c
  | 0 => ⟨fun _ i h => absurd h (Nat.not_lt_zero i), fun _ => Nat.one_dvd c⟩
  | d + 1 => by
    show stepL (leastP n d) (n - d) ∣ c ↔ _
    rw [stepL_dvd, leastP_dvd n c d]
    constructor
    · intro h i hi
      by_cases e : i = d
      · rw [e]
        exact h.2
      · exact h.1 i (by omega)
    · intro h
      exact ⟨fun i hi => h i (by omega), h d (by omega)⟩
/-- a number is a multiple of the least one exactly if n, n - 1, .. divide it -/
theorem least_parts {n d : Nat} (h1 : 1 ≤ n) (h6 : n ≤ 60) (hd : d ≤ n) (c : Nat) : leastL n d ∣ c ↔ ∀ i, i < d → (n - i) ∣ c := by
  rw [← leastP_eq h1 h6 hd]
  exact leastP_dvd n c d
def partsV (n d : Nat) : List Nat := (List.range d).map fun i => n - i
theorem parts_at {n d i : Nat} (h : i < d) : (partsV n d)[i]? = some (n - i) := by
  unfold partsV
  rw [List.getElem?_map, List.getElem?_range h]
  rfl
theorem parts_len (n d : Nat) : (partsV n d).length = d := by
  unfold partsV
  rw [List.length_map, List.length_range]
def wdsL (n c d : Nat) : List Nat := (List.range d).map (wd n c)
theorem wds_step (n c d : Nat) : wdsL n c (d + 1) = wdsL n c d ++ [wd n c d] := by
  unfold wdsL
  rw [List.range_succ, List.map_append]
  rfl
theorem wds_len (n c d : Nat) : (wdsL n c d).length = d := by
  unfold wdsL
  rw [List.length_map, List.length_range]
/-- one step of the edges -/
theorem edge_step {n s : Nat} (h : s < n) : n * C (n - 1) s * (n - 1 - s) / (s + 1) = n * C (n - 1) (s + 1) := by
  rw [Nat.mul_assoc, ← C_step (n - 1) s (by omega), ← Nat.mul_assoc, Nat.mul_div_cancel _ (Nat.succ_pos s)]
end Ef
namespace Ef
/-! ### from a place back to a number -/
/-- what is left of the servers -/
def folL (n c : Nat) : List Nat → List Nat → Nat → List Nat
  | [], L, _ => L
  | s :: ss, L, r => folL n c ss (L.eraseIdx (r / wd n c s)) (wd n c s * (L.getD (r / wd n c s) 0 - r / wd n c s) + r % wd n c s)
theorem fol_snoc (n c : Nat) (s : Nat) : ∀ (ss L : List Nat) (r : Nat), fol n c (ss ++ [s]) L r =
    ((fol n c ss L r).1 ++ [(folL n c ss L r).getD ((fol n c ss L r).2 / wd n c s) 0],
      wd n c s * ((folL n c ss L r).getD ((fol n c ss L r).2 / wd n c s) 0 - (fol n c ss L r).2 / wd n c s) + (fol n c ss L r).2 % wd n c s)
  | [], L, r => rfl
  | t :: ss, L, r => by
    rw [List.cons_append, fol_cons, fol_snoc n c s ss, fol_cons]
    rfl
theorem folL_snoc (n c : Nat) (s : Nat) : ∀ (ss L : List Nat) (r : Nat), folL n c (ss ++ [s]) L r = (folL n c ss L r).eraseIdx ((fol n c ss L r).2 / wd n c s)
  | [], L, r => rfl
  | t :: ss, L, r => by
    rw [List.cons_append]
    show folL n c (ss ++ [s]) _ _ = _
    rw [folL_snoc n c s ss]
    rfl
theorem wd_back {n c b : Nat} (h : n * C (n - 1) b ∣ c) (hb : b < n) : c / C n (b + 1) = wd n c b * (b + 1) := by
  have e := wd_eq h
  obtain ⟨m, rfl⟩ : ∃ m, n = m + 1 := ⟨n - 1, by omega⟩
  have a := C_absorb m b
  rw [Nat.add_sub_cancel] at e
  rw [← a] at e
  have p := C_pos (m + 1) (b + 1) (by omega)
  generalize wd (m + 1) c b = w at e ⊢
  have e2 : c = w * (b + 1) * C (m + 1) (b + 1) := by
    rw [← e, Nat.mul_comm (C (m + 1) (b + 1)), Nat.mul_assoc]
  rw [e2, Nat.mul_div_cancel _ p]
theorem wd_out {n c b : Nat} (h : n * C (n - 1) b ∣ c) (hb : b < n) : wd n c b * (n - b) * C n b = c := by
  have e := wd_eq h
  obtain ⟨m, rfl⟩ : ∃ m, n = m + 1 := ⟨n - 1, by omega⟩
  have a := C_absorb m b
  have s := C_step (m + 1) b (by omega)
  rw [Nat.add_sub_cancel] at e
  rw [Nat.mul_assoc, Nat.mul_comm (m + 1 - b), ← s, a]
  exact e
theorem erasePerm : ∀ (l : List Nat) (k x : Nat), l[k]? = some x → (x :: l.eraseIdx k).Perm l
  | [], _, _, h => by cases h
  | a :: r, 0, x, h => by
    obtain rfl : a = x := Option.some.inj h
    exact List.Perm.refl _
  | a :: r, k + 1, x, h => (List.Perm.swap a x _).trans ((erasePerm r k x h).cons a)
theorem range'_end (b : Nat) : List.range' 0 (b + 1) = List.range' 0 b ++ [b] := by
  rw [← List.range_eq_range', ← List.range_eq_range', List.range_succ]
theorem rev_range (b : Nat) : (List.range' 0 (b + 1)).reverse = b :: (List.range' 0 b).reverse := by
  rw [range'_end, List.reverse_append]
  rfl
/-- one step back -/
structure Place (n c b : Nat) (ms : List Nat) (r : Nat) : Prop where
  asc : Asc ms
  lt : ∀ x ∈ ms, x < n
  len : ms.length = b
  rest : r < c / C n b
theorem Place.ix {n c b r : Nat} {ms : List Nat} (h : Place n c (b + 1) ms r) (hd : n * C (n - 1) b ∣ c) (hb : b < n) : r / wd n c b < ms.length := by
  have h1 := h.rest
  rw [wd_back hd hb] at h1
  rw [h.len]
  exact Nat.div_lt_of_lt_mul h1
theorem Place.prev {n c b r : Nat} {ms : List Nat} (h : Place n c (b + 1) ms r) (hd : ∀ k, k ≤ b → n * C (n - 1) k ∣ c) (hb : b < n) (hc : 0 < c) :
    Place n c b (ms.eraseIdx (r / wd n c b)) (wd n c b * (ms.getD (r / wd n c b) 0 - r / wd n c b) + r % wd n c b) := by
  have hi := h.ix (hd b (Nat.le_refl _)) hb
  have w0 := wd_pos (hd b (Nat.le_refl _)) hc
  have hx := getD_of hi
  have g1 := asc_ge h.asc hx
  have g2 := asc_le h.asc h.lt hx
  have hl := h.len
  refine ⟨asc_erase h.asc _, fun x hx => h.lt x (List.mem_of_mem_eraseIdx hx), ?_, ?_⟩
  · rw [List.length_eraseIdx, if_pos hi, hl]
    rfl
  · have h1 : r % wd n c b < wd n c b := Nat.mod_lt _ w0
    have h2 : ms.getD (r / wd n c b) 0 - r / wd n c b + 1 ≤ n - b := by omega
    have h3 : wd n c b * (ms.getD (r / wd n c b) 0 - r / wd n c b + 1) ≤ wd n c b * (n - b) := Nat.mul_le_mul_left _ h2
    have h4 : c / C n b = wd n c b * (n - b) := by
      have e := wd_out (hd b (Nat.le_refl _)) hb
      have p := C_pos n b (by omega)
      conv => lhs; rw [← e]
      exact Nat.mul_div_cancel _ p
    rw [h4]
    rw [Nat.mul_add, Nat.mul_one] at h3
    omega
theorem back_ok {n c : Nat} (hc : 0 < c) : ∀ (b : Nat) (ms : List Nat) (r : Nat), b ≤ n → (∀ k, k < b → n * C (n - 1) k ∣ c) → Place n c b ms r → FolOk n c (List.range' 0 b).reverse ms r
  | 0, _, _, _, _, _ => trivial
  | b + 1, ms, r, hb, hd, h => by
    rw [rev_range]
    have hi := h.ix (hd b (by omega)) (by omega)
    exact ⟨wd_pos (hd b (by omega)) hc, hi, asc_ge h.asc (getD_of hi), back_ok hc b _ _ (by omega) (fun k hk => hd k (by omega)) (h.prev (fun k hk => hd k (by omega)) (by omega) hc)⟩
theorem Std.less {n d c : Nat} (h : Std n (d + 1) c) : Std n d c := by
  have hd := h.dn
  exact ⟨h.n60, h.n1, by omega, h.c0, Nat.dvd_trans (stepL_left _ _ (leastL_pos (by omega))) h.dv⟩
/-- the number of the list that has this place -/
def back (n c : Nat) (ms : List Nat) (r : Nat) : Nat := (fol n c (List.range' 0 ms.length).reverse ms r).2
theorem back_fwd {n c : Nat} (hc : 0 < c) : ∀ (b : Nat) (ms : List Nat) (r : Nat), b ≤ n → (∀ k, k < b → n * C (n - 1) k ∣ c) → Place n c b ms r →
    (fol n c (List.range' 0 b).reverse ms r).2 < c ∧
    (fol n c (List.range' 0 b) (List.range' 0 n) (fol n c (List.range' 0 b).reverse ms r).2).1.Perm ms ∧
    (fol n c (List.range' 0 b) (List.range' 0 n) (fol n c (List.range' 0 b).reverse ms r).2).2 = r ∧
    Compl n ms (folL n c (List.range' 0 b) (List.range' 0 n) (fol n c (List.range' 0 b).reverse ms r).2)
  | 0, ms, r, _, _, h => by
    have e : ms = [] := List.length_eq_zero_iff.mp h.len
    have hr := h.rest
    rw [C_zero, Nat.div_one] at hr
    subst e
    exact ⟨hr, List.Perm.refl _, rfl, Compl.start n⟩
  | b + 1, ms, r, hb, hd, h => by
    have hi := h.ix (hd b (by omega)) (by omega)
    have w0 := wd_pos (hd b (by omega)) hc
    have hx := getD_of hi
    have g1 := asc_ge h.asc hx
    have pv := h.prev (fun k hk => hd k (by omega)) (by omega) hc
    obtain ⟨i1, i2, i3, i4⟩ := back_fwd hc b _ _ (by omega) (fun k hk => hd k (by omega)) pv
    rw [rev_range, fol_cons]
    show (fol n c (List.range' 0 b).reverse (ms.eraseIdx (r / wd n c b)) (wd n c b * (ms.getD (r / wd n c b) 0 - r / wd n c b) + r % wd n c b)).2 < c ∧ _
    generalize (fol n c (List.range' 0 b).reverse (ms.eraseIdx (r / wd n c b)) (wd n c b * (ms.getD (r / wd n c b) 0 - r / wd n c b) + r % wd n c b)).2 = k at i1 i2 i3 i4 ⊢
    show k < c ∧ (fol n c (List.range' 0 (b + 1)) (List.range' 0 n) k).1.Perm ms ∧ (fol n c (List.range' 0 (b + 1)) (List.range' 0 n) k).2 = r ∧ Compl n ms (folL n c (List.range' 0 (b + 1)) (List.range' 0 n) k)
    rw [range'_end, fol_snoc, folL_snoc, i3]
    have hm : r % wd n c b < wd n c b := Nat.mod_lt _ w0
    have e1 : (wd n c b * (ms.getD (r / wd n c b) 0 - r / wd n c b) + r % wd n c b) / wd n c b = ms.getD (r / wd n c b) 0 - r / wd n c b := by
      rw [Nat.mul_add_div w0, Nat.div_eq_of_lt hm, Nat.add_zero]
    have e2 : (wd n c b * (ms.getD (r / wd n c b) 0 - r / wd n c b) + r % wd n c b) % wd n c b = r % wd n c b := by
      rw [Nat.mul_add_mod, Nat.mod_mod]
    rw [e1, e2]
    generalize folL n c (List.range' 0 b) (List.range' 0 n) k = L at i4
    have hdm := Nat.div_add_mod r (wd n c b)
    generalize r / wd n c b = i at hi hx g1 pv i1 i2 i3 i4 hdm e1 e2 ⊢
    generalize ms.getD i 0 = x at hx g1 pv i1 i2 i3 i4 e1 e2 ⊢
    have pm : ms.Perm (ms.eraseIdx i ++ [x]) := ((List.perm_append_singleton x _).trans (erasePerm ms i x hx)).symm
    have hmem : x ∈ L := (i4.mem _).mpr ⟨h.lt _ (List.mem_of_getElem? hx), not_mem_erase (asc_nodup h.asc) hx⟩
    obtain ⟨j, hj⟩ := List.getElem?_of_mem hmem
    have hjx := i4.index hj pm h.asc hx
    obtain rfl : x - i = j := by omega
    have ex : L.getD (x - i) 0 = x := by
      have := getD_of (L := L) (i := x - i) (List.getElem?_eq_some_iff.mp hj).1
      rw [hj] at this
      exact (Option.some.inj this).symm
    rw [ex]
    refine ⟨i1, (i2.append_right _).trans pm.symm, ?_, i4.next hj pm h.asc⟩
    show wd n c b * (x - (x - i)) + r % wd n c b = r
    rw [show x - (x - i) = i by omega]
    exact hdm
end Ef
namespace Ef
/-! ### counts by formula -/
def sumTo (g : Nat → Nat) : Nat → Nat
  | 0 => 0
  | n + 1 => sumTo g n + g n
theorem sumTo_congr {g h : Nat → Nat} : ∀ {n : Nat}, (∀ i, i < n → g i = h i) → sumTo g n = sumTo h n
  | 0, _ => rfl
  | n + 1, e => by
    show sumTo g n + g n = sumTo h n + h n
    rw [sumTo_congr (n := n) fun i hi => e i (by omega), e n (by omega)]
theorem sumTo_add (g h : Nat → Nat) : ∀ n : Nat, sumTo (fun i => g i + h i) n = sumTo g n + sumTo h n
  | 0 => rfl
  | n + 1 => by
    show sumTo _ n + (g n + h n) = sumTo g n + g n + (sumTo h n + h n)
    rw [sumTo_add g h n]
    omega
theorem sumTo_mul (k : Nat) (g : Nat → Nat) : ∀ n : Nat, sumTo (fun i => k * g i) n = k * sumTo g n
  | 0 => rfl
  | n + 1 => by
    show sumTo _ n + k * g n = k * (sumTo g n + g n)
    rw [sumTo_mul k g n, Nat.mul_add]
theorem sumTo_zero {g : Nat → Nat} : ∀ {n : Nat}, (∀ i, i < n → g i = 0) → sumTo g n = 0
  | 0, _ => rfl
  | n + 1, e => by
    show sumTo g n + g n = 0
    rw [sumTo_zero (n := n) fun i hi => e i (by omega), e n (by omega)]
theorem sumTo_shift (g : Nat → Nat) : ∀ n : Nat, sumTo g (n + 1) = g 0 + sumTo (fun i => g (i + 1)) n
  | 0 => by
    show 0 + g 0 = g 0 + 0
    omega
  | n + 1 => by
    show sumTo g (n + 1) + g (n + 1) = g 0 + (sumTo (fun i => g (i + 1)) n + g (n + 1))
    rw [sumTo_shift g n]
    omega
theorem sumTo_cut (g : Nat → Nat) (a : Nat) : ∀ b : Nat, sumTo g (a + b) = sumTo g a + sumTo (fun i => g (a + i)) b
  | 0 => rfl
  | b + 1 => by
    show sumTo g (a + b) + g (a + b) = sumTo g a + (sumTo (fun i => g (a + i)) b + g (a + b))
    rw [sumTo_cut g a b]
    omega
theorem edge_alt {n i : Nat} (h : i < n) : C n i * (n - i) = n * C (n - 1) i := by
  obtain ⟨m, rfl⟩ : ∃ m, n = m + 1 := ⟨n - 1, by omega⟩
  have s := C_step (m + 1) i (by omega)
  have a := C_absorb m i
  rw [← s, a, Nat.add_sub_cancel]
theorem edge_alt2 {n i : Nat} (h : i < n) : C n (i + 1) * (i + 1) = n * C (n - 1) i := by
  obtain ⟨m, rfl⟩ : ∃ m, n = m + 1 := ⟨n - 1, by omega⟩
  rw [C_absorb m i, Nat.add_sub_cancel]
/-- the harmonic triangle -/
theorem leib {n i T : Nat} (hi : i < n) (h1 : (n + 1) * C n i ∣ T) (h2 : (n + 1) * C n (i + 1) ∣ T) : n * C (n - 1) i ∣ T ∧ wd n T i = wd (n + 1) T i + wd (n + 1) T (i + 1) := by
  have e1 : wd (n + 1) T i * ((n + 1) * C n i) = T := Nat.div_mul_cancel h1
  have e2 : wd (n + 1) T (i + 1) * ((n + 1) * C n (i + 1)) = T := Nat.div_mul_cancel h2
  have a1 := edge_alt hi
  have a2 := edge_alt2 hi
  have key : (wd (n + 1) T i + wd (n + 1) T (i + 1)) * (n * C (n - 1) i) = T := by
    refine Nat.eq_of_mul_eq_mul_left (show 0 < n + 1 by omega) ?_
    generalize wd (n + 1) T i = a at e1
    generalize wd (n + 1) T (i + 1) = b at e2
    have x1 : (n + 1) * (a * (n * C (n - 1) i)) = T * (n - i) := by
      rw [← a1, ← e1]
      simp only [Nat.mul_assoc, Nat.mul_comm, Nat.mul_left_comm]
    have x2 : (n + 1) * (b * (n * C (n - 1) i)) = T * (i + 1) := by
      rw [← a2, ← e2]
      simp only [Nat.mul_assoc, Nat.mul_comm, Nat.mul_left_comm]
    have x3 : (n + 1) * ((a + b) * (n * C (n - 1) i)) = (n + 1) * (a * (n * C (n - 1) i)) + (n + 1) * (b * (n * C (n - 1) i)) := by
      rw [Nat.add_mul a b, Nat.mul_add (n + 1)]
    rw [x3, x1, x2, ← Nat.mul_add T, Nat.mul_comm T]
    congr 1
    omega
  have p : 0 < n * C (n - 1) i := edge_pos hi
  refine ⟨⟨_, by rw [Nat.mul_comm]; exact key.symm⟩, ?_⟩
  show T / (n * C (n - 1) i) = _
  conv => lhs; rw [← key]
  exact Nat.mul_div_cancel _ p
theorem sum_leib {T u f : Nat} (hf : f < u) : ∀ m : Nat, (∀ i, i ≤ m + f → (u + m) * C (u + m - 1) i ∣ T) → (u * C (u - 1) f ∣ T) ∧ sumTo (fun j => C m j * wd (u + m) T (j + f)) (m + 1) = wd u T f
  | 0, h => by
    have h0 := h f (by omega)
    refine ⟨h0, ?_⟩
    show 0 + C 0 0 * wd (u + 0) T (0 + f) = wd u T f
    rw [Nat.zero_add, Nat.zero_add, C_zero, Nat.one_mul, Nat.add_zero]
  | m + 1, h => by
    have hd : ∀ i, i ≤ m + f → (u + m) * C (u + m - 1) i ∣ T ∧ wd (u + m) T i = wd (u + m + 1) T i + wd (u + m + 1) T (i + 1) := fun i hi => by
      have a := h i (by omega)
      have b := h (i + 1) (by omega)
      rw [show u + (m + 1) = u + m + 1 from rfl, Nat.add_sub_cancel] at a b
      exact leib (show i < u + m by omega) a b
    obtain ⟨r1, r2⟩ := sum_leib hf m fun i hi => (hd i hi).1
    refine ⟨r1, ?_⟩
    rw [← r2]
    -- the right side split by the triangle
    have e1 : sumTo (fun j => C m j * wd (u + m) T (j + f)) (m + 1) = sumTo (fun j => C m j * wd (u + m + 1) T (j + f)) (m + 1) + sumTo (fun j => C m j * wd (u + m + 1) T (j + 1 + f)) (m + 1) := by
      rw [← sumTo_add]
      refine sumTo_congr fun j hj => ?_
      rw [(hd (j + f) (by omega)).2, Nat.mul_add, show j + f + 1 = j + 1 + f by omega]
    -- the left side split by Pascal
    have e2 : sumTo (fun j => C (m + 1) j * wd (u + (m + 1)) T (j + f)) (m + 1 + 1) = sumTo (fun j => C m j * wd (u + m + 1) T (j + f)) (m + 1 + 1) + sumTo (fun j => C m j * wd (u + m + 1) T (j + 1 + f)) (m + 1) := by
      rw [sumTo_shift, sumTo_shift (fun j => C m j * wd (u + m + 1) T (j + f)), Nat.add_assoc, ← sumTo_add, C_zero, C_zero]
      congr 1
      refine sumTo_congr fun j hj => ?_
      show C (m + 1) (j + 1) * wd (u + m + 1) T (j + 1 + f) = C m (j + 1) * wd (u + m + 1) T (j + 1 + f) + C m j * wd (u + m + 1) T (j + 1 + f)
      rw [C_ss, Nat.add_mul, Nat.add_comm]
    have e3 : sumTo (fun j => C m j * wd (u + m + 1) T (j + f)) (m + 1 + 1) = sumTo (fun j => C m j * wd (u + m + 1) T (j + f)) (m + 1) := by
      show sumTo _ (m + 1) + C m (m + 1) * _ = _
      rw [C_big m (m + 1) (by omega), Nat.zero_mul, Nat.add_zero]
    rw [e2, e3, e1]
/-- in how many lists the live server number f + 1 stands at index i -/
def fndAt (n T u f i : Nat) : Nat := if i < f ∨ n - u + f < i then 0 else C u f * C (n - u) (i - f) * (u - f) * wd n T i
theorem fnd_sum {n T u f : Nat} (hu : u ≤ n) (hf : f < u) (h : ∀ i, i ≤ n - u + f → n * C (n - 1) i ∣ T) : sumTo (fndAt n T u f) n = T := by
  have en : n = u + (n - u) := by omega
  obtain ⟨r1, r2⟩ := sum_leib (T := T) hf (n - u) fun i hi => by
    rw [← en]
    exact h i hi
  rw [← en] at r2
  have e1 : sumTo (fndAt n T u f) n = sumTo (fndAt n T u f) f + sumTo (fun i => fndAt n T u f (f + i)) (n - f) := by
    have := sumTo_cut (fndAt n T u f) f (n - f)
    rw [show f + (n - f) = n by omega] at this
    exact this
  have e2 : sumTo (fndAt n T u f) f = 0 := sumTo_zero fun i hi => if_pos (.inl hi)
  have e3 : sumTo (fun i => fndAt n T u f (f + i)) (n - f) = sumTo (fun i => fndAt n T u f (f + i)) (n - u + 1) + sumTo (fun i => fndAt n T u f (f + (n - u + 1 + i))) (n - f - (n - u + 1)) := by
    have := sumTo_cut (fun i => fndAt n T u f (f + i)) (n - u + 1) (n - f - (n - u + 1))
    rw [show n - u + 1 + (n - f - (n - u + 1)) = n - f by omega] at this
    exact this
  have e4 : sumTo (fun i => fndAt n T u f (f + (n - u + 1 + i))) (n - f - (n - u + 1)) = 0 := sumTo_zero fun i hi => if_pos (.inr (by omega))
  have e5 : sumTo (fun i => fndAt n T u f (f + i)) (n - u + 1) = (C u f * (u - f)) * sumTo (fun j => C (n - u) j * wd n T (j + f)) (n - u + 1) := by
    rw [← sumTo_mul]
    refine sumTo_congr fun i hi => ?_
    show fndAt n T u f (f + i) = _
    unfold fndAt
    rw [if_neg (by omega), show f + i - f = i by omega, show f + i = i + f by omega]
    simp only [Nat.mul_assoc, Nat.mul_comm, Nat.mul_left_comm]
  rw [e1, e2, e3, e4, e5, r2, Nat.zero_add, Nat.add_zero, edge_alt hf, Nat.mul_comm]
  exact wd_eq r1
end Ef
namespace Ef
/-! ### the numbers of the lists with a beginning -/
/-- what 'numbers_with' keeps on its way: the numbers from lo to hi - 1 have the beginning, the rest of number k is k + mv, L is left -/
structure Wst where
  lo : Int
  hi : Int
  mv : Int
  L : List Nat
def wStep (n c b s : Nat) (x : Wst) : Wst :=
  ⟨max x.lo ((wd n c b : Int) * (x.L.idxOf s : Int) - x.mv), min x.hi ((wd n c b : Int) * ((x.L.idxOf s : Int) + 1) - x.mv), x.mv + (wd n c b : Int) * ((s : Int) - (x.L.idxOf s : Int) - (x.L.idxOf s : Int)), x.L.eraseIdx (x.L.idxOf s)⟩
/-- from level b on -/
def wRun (n c : Nat) : Nat → List Nat → Wst → Option Wst
  | _, [], x => some x
  | b, s :: r, x => if s ∈ x.L then (if (wStep n c b s x).hi ≤ (wStep n c b s x).lo then none else wRun n c (b + 1) r (wStep n c b s x)) else none
/-- the lists whose beginning is t, in the table of depth b -/
structure Beg (n c : Nat) (t : List Nat) (x : Wst) : Prop where
  nd : x.L.Nodup
  asc : Asc x.L
  lo0 : 0 ≤ x.lo
  hic : x.hi ≤ (c : Int)
  iff : ∀ k : Nat, k < c → ((fol n c (List.range' 0 t.length) (List.range' 0 n) k).1 = t ↔ x.lo ≤ (k : Int) ∧ (k : Int) < x.hi)
  rest : ∀ k : Nat, x.lo ≤ (k : Int) → (k : Int) < x.hi → ((fol n c (List.range' 0 t.length) (List.range' 0 n) k).2 : Int) = (k : Int) + x.mv ∧ folL n c (List.range' 0 t.length) (List.range' 0 n) k = x.L
  len : x.L.length = n - t.length
  lt : ∀ y ∈ x.L, y < n
  mem : ∀ z, z ∈ x.L ↔ z < n ∧ z ∉ t
theorem Beg.start (n c : Nat) : Beg n c [] ⟨0, (c : Int), 0, List.range' 0 n⟩ :=
  ⟨asc_nodup (asc_range' n 0), asc_range' n 0, Int.le_refl _, Int.le_refl _, fun k hk => ⟨fun _ => ⟨by show (0 : Int) ≤ _; omega, by show (k : Int) < (c : Int); omega⟩, fun _ => rfl⟩, fun k h1 h2 => ⟨by show (k : Int) = (k : Int) + 0; omega, rfl⟩, by rw [List.length_range']; rfl, fun y hy => mem_range0.mp hy, fun z => by rw [mem_range0]; simp⟩
theorem mem_erase_iff {L : List Nat} {i s : Nat} (nd : L.Nodup) (e : L[i]? = some s) (z : Nat) : z ∈ L.eraseIdx i ↔ z ∈ L ∧ z ≠ s := by
  have pm := erasePerm L i s e
  constructor
  · intro h
    refine ⟨List.mem_of_mem_eraseIdx h, fun c => ?_⟩
    rw [c] at h
    exact not_mem_erase nd e h
  · rintro ⟨h1, h2⟩
    rcases List.mem_cons.mp (pm.mem_iff.mpr h1) with h | h
    · exact absurd h h2
    · exact h
theorem idx_at {L : List Nat} {s : Nat} (h : s ∈ L) : L[L.idxOf s]? = some s := by
  rw [List.getElem?_eq_getElem (List.idxOf_lt_length_of_mem h), List.getElem_idxOf]
theorem div_block {w r i : Nat} (w0 : 0 < w) : r / w = i ↔ w * i ≤ r ∧ r < w * (i + 1) := by
  rw [Nat.div_eq_iff w0]
  rw [Nat.mul_comm i w]
  constructor
  · rintro ⟨h1, h2⟩
    rw [Nat.mul_add, Nat.mul_one]
    exact ⟨h1, by omega⟩
  · rintro ⟨h1, h2⟩
    rw [Nat.mul_add, Nat.mul_one] at h2
    exact ⟨h1, by omega⟩
/-- the rest stays within its bounds, on every way -/
theorem fwd_bound {n c d : Nat} (hd : ∀ b, b < d → n * C (n - 1) b ∣ c) (hc : 0 < c) (hdn : d ≤ n) {k : Nat} (hk : k < c) : ∀ b, b ≤ d →
    (folL n c (List.range' 0 b) (List.range' 0 n) k).length = n - b ∧ Asc (folL n c (List.range' 0 b) (List.range' 0 n) k) ∧ (∀ y ∈ folL n c (List.range' 0 b) (List.range' 0 n) k, y < n) ∧ (fol n c (List.range' 0 b) (List.range' 0 n) k).2 < c / C n b
  | 0, _ => ⟨by show (List.range' 0 n).length = n; rw [List.length_range'], asc_range' n 0, fun y hy => mem_range0.mp hy, by rw [C_zero, Nat.div_one]; exact hk⟩
  | b + 1, h => by
    obtain ⟨h1, h2, h3, h4⟩ := fwd_bound hd hc hdn hk b (by omega)
    have dv := hd b (by omega)
    have w0 := wd_pos dv hc
    have e := wd_out dv (show b < n by omega)
    have p := C_pos n b (by omega)
    have h5 : c / C n b = wd n c b * (n - b) := by
      conv => lhs; rw [← e]
      exact Nat.mul_div_cancel _ p
    rw [h5] at h4
    rw [range'_end, folL_snoc, fol_snoc]
    have hi : (fol n c (List.range' 0 b) (List.range' 0 n) k).2 / wd n c b < (folL n c (List.range' 0 b) (List.range' 0 n) k).length := by
      rw [h1]
      exact Nat.div_lt_of_lt_mul h4
    have hm : (fol n c (List.range' 0 b) (List.range' 0 n) k).2 % wd n c b < wd n c b := Nat.mod_lt _ w0
    have hx := getD_of hi
    have g2 := asc_le h2 h3 hx
    refine ⟨?_, asc_erase h2 _, fun y hy => h3 y (List.mem_of_mem_eraseIdx hy), ?_⟩
    · rw [List.length_eraseIdx, if_pos hi]
      omega
    · rw [wd_back dv (by omega)]
      show wd n c b * _ + _ < _
      have h6 : (folL n c (List.range' 0 b) (List.range' 0 n) k).getD ((fol n c (List.range' 0 b) (List.range' 0 n) k).2 / wd n c b) 0 - (fol n c (List.range' 0 b) (List.range' 0 n) k).2 / wd n c b ≤ b := by omega
      have h7 := Nat.mul_le_mul_left (wd n c b) h6
      rw [Nat.mul_add, Nat.mul_one]
      omega
theorem Beg.step {n c d : Nat} {t : List Nat} {x : Wst} (h : Beg n c t x) (hd : ∀ b, b < d → n * C (n - 1) b ∣ c) (hc : 0 < c) (hdn : d ≤ n) (hb : t.length < d) {s : Nat} (hs : s ∈ x.L) : Beg n c (t ++ [s]) (wStep n c t.length s x) := by
  have dv := hd t.length hb
  have w0 := wd_pos dv hc
  have hix := idx_at hs
  have hil := List.idxOf_lt_length_of_mem hs
  have his := asc_ge h.asc hix
  have ea : (t ++ [s]).length = t.length + 1 := by rw [List.length_append]; rfl
  have e := wd_out dv (show t.length < n by omega)
  have p := C_pos n t.length (by omega)
  have h5 : c / C n t.length = wd n c t.length * (n - t.length) := by
    conv => lhs; rw [← e]
    exact Nat.mul_div_cancel _ p
  -- where the rest lies
  have key : ∀ k : Nat, k < c → x.lo ≤ (k : Int) → (k : Int) < x.hi → ((fol n c (List.range' 0 t.length) (List.range' 0 n) k).2 / wd n c t.length = x.L.idxOf s ↔ (wd n c t.length : Int) * (x.L.idxOf s : Int) - x.mv ≤ (k : Int) ∧ (k : Int) < (wd n c t.length : Int) * ((x.L.idxOf s : Int) + 1) - x.mv) := by
    intro k hk h1 h2
    obtain ⟨r1, _⟩ := h.rest k h1 h2
    rw [div_block w0]
    have c1 : ((wd n c t.length * x.L.idxOf s : Nat) : Int) = (wd n c t.length : Int) * (x.L.idxOf s : Int) := Int.natCast_mul _ _
    have c2 : ((wd n c t.length * (x.L.idxOf s + 1) : Nat) : Int) = (wd n c t.length : Int) * ((x.L.idxOf s : Int) + 1) := Int.natCast_mul _ _
    constructor
    · rintro ⟨a, b⟩
      exact ⟨by omega, by omega⟩
    · rintro ⟨a, b⟩
      exact ⟨by omega, by omega⟩
  have got : ∀ k : Nat, k < c → x.lo ≤ (k : Int) → (k : Int) < x.hi → ((folL n c (List.range' 0 t.length) (List.range' 0 n) k).getD ((fol n c (List.range' 0 t.length) (List.range' 0 n) k).2 / wd n c t.length) 0 = s ↔ (fol n c (List.range' 0 t.length) (List.range' 0 n) k).2 / wd n c t.length = x.L.idxOf s) := by
    intro k hk h1 h2
    obtain ⟨r1, r2⟩ := h.rest k h1 h2
    obtain ⟨b1, _, _, b4⟩ := fwd_bound hd hc hdn hk t.length (by omega)
    rw [h5] at b4
    have hi : (fol n c (List.range' 0 t.length) (List.range' 0 n) k).2 / wd n c t.length < x.L.length := by
      rw [h.len]
      exact Nat.div_lt_of_lt_mul b4
    rw [r2]
    constructor
    · intro z
      have h8 := getD_of hi
      rw [z] at h8
      exact nodup_inj h.nd h8 hix
    · intro z
      rw [z]
      have h8 := getD_of hil
      rw [hix] at h8
      exact (Option.some.inj h8).symm
  refine ⟨h.nd.sublist (List.eraseIdx_sublist _ _), asc_erase h.asc _, ?_, ?_, fun k hk => ?_, fun k h1 h2 => ?_, ?_, fun y hy => h.lt y (List.mem_of_mem_eraseIdx hy), fun z => ?_⟩
  · have := h.lo0
    show 0 ≤ max x.lo _
    omega
  · have := h.hic
    show min x.hi _ ≤ _
    omega
  · rw [ea, range'_end, fol_snoc]
    show _ ++ [_] = t ++ [s] ↔ max x.lo _ ≤ (k : Int) ∧ (k : Int) < min x.hi _
    constructor
    · intro z
      obtain ⟨z1, z2⟩ := List.append_inj' z rfl
      obtain ⟨a, b⟩ := (h.iff k hk).mp z1
      have z3 := (got k hk a b).mp (List.singleton_inj.mp z2)
      have z4 := (key k hk a b).mp z3
      omega
    · intro z
      have a : x.lo ≤ (k : Int) ∧ (k : Int) < x.hi := by omega
      have z3 := (key k hk a.1 a.2).mpr (by omega)
      have z4 := (got k hk a.1 a.2).mpr z3
      rw [(h.iff k hk).mpr a, z4]
  · have h1' : max x.lo ((wd n c t.length : Int) * (x.L.idxOf s : Int) - x.mv) ≤ (k : Int) := h1
    have h2' : (k : Int) < min x.hi ((wd n c t.length : Int) * ((x.L.idxOf s : Int) + 1) - x.mv) := h2
    have a : x.lo ≤ (k : Int) ∧ (k : Int) < x.hi := by omega
    have hk : k < c := by
      have := h.hic
      omega
    have z3 := (key k hk a.1 a.2).mpr (by omega)
    have z4 := (got k hk a.1 a.2).mpr z3
    obtain ⟨r1, r2⟩ := h.rest k a.1 a.2
    rw [ea, range'_end, fol_snoc, folL_snoc, z3, r2]
    rw [z3, r2] at z4
    refine ⟨?_, rfl⟩
    show ((wd n c t.length * (x.L.getD (x.L.idxOf s) 0 - x.L.idxOf s) + (fol n c (List.range' 0 t.length) (List.range' 0 n) k).2 % wd n c t.length : Nat) : Int) = (k : Int) + (x.mv + (wd n c t.length : Int) * ((s : Int) - (x.L.idxOf s : Int) - (x.L.idxOf s : Int)))
    rw [z4]
    have dm := Nat.div_add_mod (fol n c (List.range' 0 t.length) (List.range' 0 n) k).2 (wd n c t.length)
    rw [z3] at dm
    generalize (fol n c (List.range' 0 t.length) (List.range' 0 n) k).2 % wd n c t.length = u at dm
    generalize x.L.idxOf s = i at *
    generalize wd n c t.length = w at *
    rw [Int.natCast_add, Int.natCast_mul, Int.natCast_sub his]
    have dm2 : (w : Int) * (i : Int) + (u : Int) = (k : Int) + x.mv := by
      rw [← r1, ← dm, Int.natCast_add, Int.natCast_mul]
    rw [Int.mul_sub, Int.mul_sub, Int.mul_sub]
    omega
  · rw [ea]
    show (x.L.eraseIdx _).length = _
    rw [List.length_eraseIdx, if_pos hil, h.len]
    omega
  · show z ∈ x.L.eraseIdx _ ↔ _
    rw [mem_erase_iff h.nd hix, h.mem, List.mem_append, List.mem_singleton]
    constructor
    · rintro ⟨⟨a, b⟩, e⟩
      exact ⟨a, fun q => q.elim b e⟩
    · rintro ⟨a, b⟩
      exact ⟨⟨a, fun q => b (.inl q)⟩, fun q => b (.inr q)⟩
theorem fol_take (n c k : Nat) (b : Nat) : ∀ m : Nat, (fol n c (List.range' 0 (b + m)) (List.range' 0 n) k).1.take b = (fol n c (List.range' 0 b) (List.range' 0 n) k).1
  | 0 => by
    have := fol_len n c (List.range' 0 b) (List.range' 0 n) k
    rw [List.length_range'] at this
    exact List.take_of_length_le (by rw [Nat.add_zero]; omega)
  | m + 1 => by
    rw [show b + (m + 1) = b + m + 1 from rfl, range'_end, fol_snoc]
    have := fol_len n c (List.range' 0 (b + m)) (List.range' 0 n) k
    rw [List.length_range'] at this
    show (_ ++ [_]).take b = _
    rw [List.take_append_of_le_length (by omega)]
    exact fol_take n c k b m
theorem wRun_some {n c d : Nat} (hd : ∀ b, b < d → n * C (n - 1) b ∣ c) (hc : 0 < c) (hdn : d ≤ n) {k : Nat} (hk : k < c) : ∀ (r t : List Nat) (x : Wst), t.length + r.length ≤ d → Beg n c t x → (fol n c (List.range' 0 (t.length + r.length)) (List.range' 0 n) k).1 = t ++ r → ∃ y, wRun n c t.length r x = some y ∧ Beg n c (t ++ r) y
  | [], t, x, _, h, _ => ⟨x, rfl, by rw [List.append_nil]; exact h⟩
  | s :: r, t, x, hl, h, he => by
    have el : (s :: r).length = r.length + 1 := rfl
    have e1 : (fol n c (List.range' 0 t.length) (List.range' 0 n) k).1 = t := by
      have := fol_take n c k t.length (s :: r).length
      rw [he, List.take_left] at this
      exact this.symm
    have ea : (t ++ [s]).length = t.length + 1 := by rw [List.length_append]; rfl
    have e2 : (fol n c (List.range' 0 (t.length + 1)) (List.range' 0 n) k).1 = t ++ [s] := by
      have := fol_take n c k (t.length + 1) r.length
      rw [show t.length + 1 + r.length = t.length + (s :: r).length by omega, he] at this
      rw [← this, show t ++ s :: r = (t ++ [s]) ++ r by simp, ← ea, List.take_left]
    have in1 := (h.iff k hk).mp e1
    obtain ⟨r1, r2⟩ := h.rest k in1.1 in1.2
    have dv := hd t.length (by omega)
    have w0 := wd_pos dv hc
    obtain ⟨b1, b2, b3, b4⟩ := fwd_bound hd hc hdn hk t.length (by omega)
    have hs : s ∈ x.L := by
      have e3 := e2
      rw [range'_end, fol_snoc] at e3
      obtain ⟨_, z2⟩ := List.append_inj' e3 rfl
      have z3 := List.singleton_inj.mp z2
      rw [← r2, ← z3]
      refine List.mem_of_getElem? (getD_of ?_)
      rw [b1]
      have e := wd_out dv (show t.length < n by omega)
      have p := C_pos n t.length (by omega)
      have h5 : c / C n t.length = wd n c t.length * (n - t.length) := by
        conv => lhs; rw [← e]
        exact Nat.mul_div_cancel _ p
      rw [h5] at b4
      exact Nat.div_lt_of_lt_mul b4
    have st := h.step hd hc hdn (by omega) hs
    have in2 := (st.iff k hk).mp (by rw [ea]; exact e2)
    obtain ⟨y, y1, y2⟩ := wRun_some hd hc hdn hk r (t ++ [s]) _ (by rw [ea]; omega) st (by rw [ea, show t.length + 1 + r.length = t.length + (s :: r).length by omega, he]; simp)
    refine ⟨y, ?_, by rw [show t ++ s :: r = (t ++ [s]) ++ r by simp]; exact y2⟩
    show (if s ∈ x.L then _ else none) = _
    rw [if_pos hs, if_neg (by omega)]
    rw [ea] at y1
    exact y1
theorem wRun_snoc (n c s : Nat) : ∀ (r : List Nat) (b : Nat) (x : Wst), wRun n c b (r ++ [s]) x = (wRun n c b r x).bind fun y => wRun n c (b + r.length) [s] y
  | [], b, x => rfl
  | u :: r, b, x => by
    show (if u ∈ x.L then _ else none) = Option.bind (if u ∈ x.L then _ else none) _
    by_cases h1 : u ∈ x.L
    · rw [if_pos h1, if_pos h1]
      by_cases h2 : (wStep n c b u x).hi ≤ (wStep n c b u x).lo
      · rw [if_pos h2, if_pos h2]
        rfl
      · rw [if_neg h2, if_neg h2]
        have := wRun_snoc n c s r (b + 1) (wStep n c b u x)
        rw [show (u :: r).length = r.length + 1 from rfl, show b + (r.length + 1) = b + 1 + r.length by omega]
        exact this
    · rw [if_neg h1, if_neg h1]
      rfl
/-- where the numbers of the first i continuations end -/
def cutAt (w : Nat) (y : Wst) (i : Nat) : Int := min y.hi (max y.lo ((w : Int) * (i : Int) - y.mv))
end Ef
namespace Ef
/-! ### sets and their numbers -/
def many (k : Nat) : Nat → Nat
  | 0 => 0
  | j + 1 => C k j
theorem C_many (k j : Nat) : C (k + 1) j = many k j + C k j := by
  cases j with
  | zero => rw [C_zero, C_zero]; rfl
  | succ j => exact C_ss k j
theorem binZ_many (k j : Nat) : binZ (k : Int) ((j : Int) - 1) = (many k j : Int) := by
  cases j with
  | zero => exact if_pos (.inl (by decide))
  | succ j =>
    rw [show ((j + 1 : Nat) : Int) - 1 = (j : Int) by omega]
    exact binZ_nat k j
/-- the set with the number r among those of j of the k servers from s on -/
def unr : Nat → Nat → Nat → Nat → List Nat
  | _, 0, _, _ => []
  | s, k + 1, j, r => if r < many k j then s :: unr (s + 1) k (j - 1) r else unr (s + 1) k j (r - many k j)
/-- the number of a set among those of its size of the k servers from s on -/
def rnk : Nat → Nat → List Nat → Nat
  | _, 0, _ => 0
  | s, k + 1, ms => if ms.head? = some s then rnk (s + 1) k ms.tail else many k ms.length + rnk (s + 1) k ms
def Sub (s k : Nat) (ms : List Nat) : Prop := ms.Pairwise (· < ·) ∧ ∀ m ∈ ms, s ≤ m ∧ m < s + k
theorem unr_spec : ∀ (k s j r : Nat), r < C k j → (unr s k j r).length = j ∧ Sub s k (unr s k j r) ∧ rnk s k (unr s k j r) = r
  | 0, s, j, r, h => by
    cases j with
    | zero =>
      have h0 : r < 1 := h
      exact ⟨rfl, ⟨List.Pairwise.nil, fun m hm => absurd hm List.not_mem_nil⟩, by show 0 = r; omega⟩
    | succ j => exact absurd h (Nat.not_lt_zero _)
  | k + 1, s, j, r, h => by
    rw [C_many] at h
    by_cases c : r < many k j
    · have e : unr s (k + 1) j r = s :: unr (s + 1) k (j - 1) r := if_pos c
      cases j with
      | zero => exact absurd c (Nat.not_lt_zero _)
      | succ j =>
        obtain ⟨h1, h2, h3⟩ := unr_spec k (s + 1) j r c
        rw [e]
        refine ⟨?_, ⟨?_, ?_⟩, ?_⟩
        · show (unr (s + 1) k j r).length + 1 = j + 1
          rw [h1]
        · refine List.Pairwise.cons (fun m hm => ?_) h2.1
          have := h2.2 m hm
          omega
        · intro m hm
          rcases List.mem_cons.mp hm with rfl | hm
          · omega
          · have := h2.2 m hm
            omega
        · have e3 : rnk s (k + 1) (s :: unr (s + 1) k j r) = rnk (s + 1) k (unr (s + 1) k j r) := if_pos rfl
          exact e3.trans h3
    · have e : unr s (k + 1) j r = unr (s + 1) k j (r - many k j) := if_neg c
      obtain ⟨h1, h2, h3⟩ := unr_spec k (s + 1) j (r - many k j) (by omega)
      rw [e]
      refine ⟨h1, ⟨h2.1, fun m hm => by have := h2.2 m hm; omega⟩, ?_⟩
      have hh : ¬ (unr (s + 1) k j (r - many k j)).head? = some s := fun z => by
        have hm : s ∈ unr (s + 1) k j (r - many k j) := List.mem_of_mem_head? z
        have := h2.2 s hm
        omega
      show (if (unr (s + 1) k j (r - many k j)).head? = some s then _ else many k (unr (s + 1) k j (r - many k j)).length + rnk (s + 1) k (unr (s + 1) k j (r - many k j))) = r
      rw [if_neg hh, h1, h3]
      omega
theorem rnk_spec : ∀ (k s : Nat) (ms : List Nat), Sub s k ms → rnk s k ms < C k ms.length ∧ unr s k ms.length (rnk s k ms) = ms
  | 0, s, ms, h => by
    cases ms with
    | nil => exact ⟨Nat.one_pos, rfl⟩
    | cons m r =>
      have := h.2 m List.mem_cons_self
      omega
  | k + 1, s, ms, h => by
    by_cases c : ms.head? = some s
    · cases ms with
      | nil => cases c
      | cons m t =>
        obtain rfl : m = s := Option.some.inj c
        have ht : Sub (m + 1) k t := ⟨(List.pairwise_cons.mp h.1).2, fun x hx => by
          have h1 := (List.pairwise_cons.mp h.1).1 x hx
          have h2 := h.2 x (List.mem_cons_of_mem _ hx)
          omega⟩
        obtain ⟨h1, h2⟩ := rnk_spec k (m + 1) t ht
        have e : rnk m (k + 1) (m :: t) = rnk (m + 1) k t := if_pos rfl
        rw [e]
        have hm : rnk (m + 1) k t < many k (t.length + 1) := h1
        refine ⟨?_, ?_⟩
        · rw [C_many]
          exact Nat.lt_of_lt_of_le hm (Nat.le_add_right _ _)
        · show unr m (k + 1) (t.length + 1) (rnk (m + 1) k t) = m :: t
          have e2 : unr m (k + 1) (t.length + 1) (rnk (m + 1) k t) = m :: unr (m + 1) k t.length (rnk (m + 1) k t) := if_pos hm
          rw [e2, h2]
    · have hs : Sub (s + 1) k ms := ⟨h.1, fun x hx => by
        have h2 := h.2 x hx
        have hne : x ≠ s := fun z => by
          subst z
          cases ms with
          | nil => cases hx
          | cons m t =>
            rcases List.mem_cons.mp hx with z | hx
            · exact c (by rw [z]; rfl)
            · have h3 := (List.pairwise_cons.mp h.1).1 x hx
              have h4 := h.2 m List.mem_cons_self
              omega
        omega⟩
      obtain ⟨h1, h2⟩ := rnk_spec k (s + 1) ms hs
      have e : rnk s (k + 1) ms = many k ms.length + rnk (s + 1) k ms := if_neg c
      rw [e]
      refine ⟨by rw [C_many]; omega, ?_⟩
      have e2 : unr s (k + 1) ms.length (many k ms.length + rnk (s + 1) k ms) = unr (s + 1) k ms.length (many k ms.length + rnk (s + 1) k ms - many k ms.length) := if_neg (by omega)
      rw [e2, Nat.add_sub_cancel_left, h2]
/-! the small sets, one after the other -/
def allG (few : Nat) : Nat → List (List Nat)
  | 0 => [[]]
  | i + 1 => allG few i ++ ((allG few i).filter fun s => decide (s.length < few)).map fun s => s ++ [i]
def allS (n few : Nat) : List (List Nat) := (allG few n).filter fun s => decide (s.length = few)
def inOrder (n few : Nat) : List (List Nat) := (List.range (C n few)).map (unr 0 n few)
def codeN : List Nat → Nat
  | [] => 0
  | d :: r => d * 8 ^ r.length + codeN r
def smallOk (n few : Nat) : Bool := (allS n few).isPerm (inOrder n few) && decide ((inOrder n few).Pairwise fun a b => codeN a < codeN b)
theorem small_sets : ((List.range 6).all fun i => (List.range (i + 3)).all fun few => smallOk (i + 2) few) = true := by decide +kernel
theorem small_lens : ((List.range 6).all fun i => (List.range (i + 3)).all fun few => decide (C (i + 2) few < 64) && (allS (i + 2) few).all fun s => decide (s.length = few) && s.all fun m => decide (m < 8)) = true := by decide +kernel
theorem gen_lens : ((List.range 6).all fun i => (List.range (i + 3)).all fun few => (List.range (i + 3)).all fun t => decide ((allG few t).length ≤ 200) && (allG few t).all fun s => decide (s.length ≤ 8)) = true := by decide +kernel
theorem small_sets' {n k : Nat} (h2 : 2 ≤ n) (h7 : n ≤ 7) (hk : k ≤ n) : (allS n k).Perm (inOrder n k) ∧ (inOrder n k).Pairwise (fun a b => codeN a < codeN b) ∧ C n k < 64 ∧ ∀ s ∈ allS n k, s.length = k ∧ ∀ m ∈ s, m < 8 := by
  obtain ⟨i, rfl⟩ : ∃ i, n = i + 2 := ⟨n - 2, by omega⟩
  have h1 := List.all_eq_true.mp (List.all_eq_true.mp small_sets i (List.mem_range.mpr (by omega))) k (List.mem_range.mpr (by omega))
  unfold smallOk at h1
  rw [Bool.and_eq_true] at h1
  have h3 := List.all_eq_true.mp (List.all_eq_true.mp small_lens i (List.mem_range.mpr (by omega))) k (List.mem_range.mpr (by omega))
  rw [Bool.and_eq_true] at h3
  refine ⟨List.isPerm_iff.mp h1.1, of_decide_eq_true h1.2, of_decide_eq_true h3.1, fun s hs => ?_⟩
  have h4 := List.all_eq_true.mp h3.2 s hs
  rw [Bool.and_eq_true] at h4
  exact ⟨of_decide_eq_true h4.1, fun m hm => of_decide_eq_true (List.all_eq_true.mp h4.2 m hm)⟩
theorem gen_lens' {n k t : Nat} (h2 : 2 ≤ n) (h7 : n ≤ 7) (hk : k ≤ n) (ht : t ≤ n) : (allG k t).length ≤ 200 ∧ ∀ s ∈ allG k t, s.length ≤ 8 := by
  obtain ⟨i, rfl⟩ : ∃ i, n = i + 2 := ⟨n - 2, by omega⟩
  have h1 := List.all_eq_true.mp (List.all_eq_true.mp (List.all_eq_true.mp gen_lens i (List.mem_range.mpr (by omega))) k (List.mem_range.mpr (by omega))) t (List.mem_range.mpr (by omega))
  rw [Bool.and_eq_true] at h1
  exact ⟨of_decide_eq_true h1.1, fun s hs => of_decide_eq_true (List.all_eq_true.mp h1.2 s hs)⟩
theorem code_inj {L : List (List Nat)} (h : L.Pairwise fun a b => codeN a < codeN b) {a b : List Nat} (ha : a ∈ L) (hb : b ∈ L) (e : codeN a = codeN b) : a = b := by
  induction L with
  | nil => cases ha
  | cons x r ih =>
    obtain ⟨h1, h2⟩ := List.pairwise_cons.mp h
    rcases List.mem_cons.mp ha with e1 | ha2
    · rcases List.mem_cons.mp hb with e2 | hb2
      · rw [e1, e2]
      · have := h1 b hb2
        rw [← e1] at this
        omega
    · rcases List.mem_cons.mp hb with e2 | hb2
      · have := h1 a ha2
        rw [← e2] at this
        omega
      · exact ih h2 ha2 hb2
theorem order_unique {L M : List (List Nat)} (hM : M.Pairwise fun a b => codeN a < codeN b) (hL : L.Pairwise fun a b => codeN a ≤ codeN b) (h : L.Perm M) : L = M := by
  induction M generalizing L with
  | nil => exact List.perm_nil.mp h
  | cons x r ih =>
    cases L with
    | nil => exact absurd h.length_eq (by simp)
    | cons y t =>
      obtain ⟨h1, h2⟩ := List.pairwise_cons.mp hM
      obtain ⟨h3, h4⟩ := List.pairwise_cons.mp hL
      have hyx : y = x := by
        have hy : y ∈ x :: r := h.mem_iff.mp List.mem_cons_self
        have hx : x ∈ y :: t := h.mem_iff.mpr List.mem_cons_self
        rcases List.mem_cons.mp hy with e | hy
        · exact e
        · rcases List.mem_cons.mp hx with e | hx
          · exact e.symm
          · have h5 := h1 y hy
            have h6 := h3 x hx
            omega
      subst hyx
      rw [ih h2 h4 h.cons_inv]
end Ef
namespace Ef
open PySem PySem.Spec PyProof.Rows L2
/-! ### a call whose arguments are all given by name -/
def permL {α : Type} (perm : List Nat) (n : Nat) (us ws : List α) : List α :=
  if us.length = 0 ∧ ws.length = n then perm.filterMap (fun i => ws[i]?) else []
theorem paired_len {α β : Type} {F : α → β → Prop} : ∀ {l : List α} {m : List β}, Paired F l m → l.length = m.length
  | _, _, .nil => rfl
  | _, _, .cons _ t => congrArg (· + 1) (paired_len t)
theorem paired_at {α β : Type} {F : α → β → Prop} : ∀ {l : List α} {m : List β}, Paired F l m → ∀ i : Nat, (l[i]? = none ∧ m[i]? = none) ∨ ∃ x y, l[i]? = some x ∧ m[i]? = some y ∧ F x y
  | _, _, .nil, _ => .inl ⟨rfl, rfl⟩
  | _, _, .cons h _, 0 => .inr ⟨_, _, rfl, rfl, h⟩
  | _, _, .cons _ t, i + 1 => by
    rw [List.getElem?_cons_succ, List.getElem?_cons_succ]
    exact paired_at t i
theorem paired_pick {α β : Type} {F : α → β → Prop} {l : List α} {m : List β} (h : Paired F l m) : ∀ perm : List Nat, Paired F (perm.filterMap (fun i => l[i]?)) (perm.filterMap (fun i => m[i]?))
  | [] => .nil
  | i :: r => by
    rcases paired_at h i with ⟨e1, e2⟩ | ⟨x, y, e1, e2, f⟩
    · rw [List.filterMap_cons_none e1, List.filterMap_cons_none e2]
      exact paired_pick h r
    · rw [List.filterMap_cons_some e1, List.filterMap_cons_some e2]
      exact .cons f (paired_pick h r)
theorem permL_rel {perm : List Nat} {n : Nat} {vs zs : List V} {us ws : List Value} (r : Vals vs us) (rz : Vals zs ws) : Vals (permL perm n vs zs) (permL perm n us ws) := by
  unfold permL
  rw [paired_len r, paired_len rz]
  by_cases h : us.length = 0 ∧ ws.length = n
  · rw [if_pos h, if_pos h]
    exact paired_pick rz perm
  · rw [if_neg h, if_neg h]
    exact .nil
theorem kb_of {K : PySem.W.Frag} {fd : FuncData} {ps ks : List Str} {perm : List Nat} {n : Nat} (h0 : ps ≠ [])
    (h : ∀ ws : List Value, ws.length = n → bindArgs fd ⟨[], ks.zip ws⟩ = pure (ps.zip (perm.filterMap (fun i => ws[i]?)))) :
    KBinds K fd ps ks (permL perm n) (permL perm n) := by
  refine ⟨fun s us ws _ hl => ?_, fun r rz => permL_rel r rz⟩
  unfold permL at hl ⊢
  by_cases c : us.length = 0 ∧ ws.length = n
  · rw [if_pos c]
    have e : us = [] := List.length_eq_zero_iff.mp c.1
    subst e
    exact .of_eq (h ws c.2)
  · rw [if_neg c] at hl
    exact absurd (List.length_eq_zero_iff.mp hl.symm) h0
theorem Fun_kb {K : PySem.W.Frag} {x qual : Str} {st : Stmt} {f : Addr} {fd : FuncData} {ps ks : List Str} (perm : List Nat) (n : Nat) (F : Fun K x qual st f fd) (h0 : ps ≠ [])
    (h : ∀ (kV doc pm : Value) (an : Option Addr) (cdv ct : Value) (ws : List Value), ws.length = n → bindArgs (PySem.W.fnOf x qual (defArgs st) (defBody st) (defScope st) .none kV doc pm an cdv ct) ⟨[], ks.zip ws⟩ = pure (ps.zip (perm.filterMap (fun i => ws[i]?)))) :
    KBinds K fd ps ks (permL perm n) (permL perm n) := by
  obtain ⟨oc, od, kV, doc, pm, an, cdv, ct, osl, rfl, lk, hcd⟩ := F.ex
  exact kb_of h0 (h kV doc pm an cdv ct)
section
variable {X : Cx} {CX : CXT} {k : Nat} {f : Addr} {fd : FuncData} {ps ks : List Str} {sp : Sp} {E : XK} {x : Str} {p pos : Pos} {kws : List Keyword} {tk : TA}
variable {g : List Value → List Value → List Value} {gV : List V → List V → List V}
/-- f(k = v, ..) -/
theorem pe_kw (F : FnOk X.prog X.w X.K X.mg X.base CX k f fd ps sp) (hr : Room k X.A) (hg : Gl X x) (hm : X.mg x = some (.ref f))
    (hk : PySem.W.keepIn X.K (.ref f) = true) (hb : KBinds X.K fd ps ks g gV) (hx : Passes CX X E) (hkw : PK X kws tk)
    (a1 : (backToKw pos (keywordEach kws X.env)).all (fun z => z.1.isSome) = true := by rfl)
    (a2 : (backToKw pos (keywordEach kws X.env)).filterMap (fun z => z.1) = ks := by rfl)
    (a3 : (x == ("__debug__" : Str)) = false := by decide)
    (a4 : ((backTo pos (starEach [] X.env)).any (fun z => z.1) || (backToKw pos (keywordEach kws X.env)).any (fun z => z.1.isNone)) = false := by rfl) :
    PE X (.Call (.Name x p) [] kws pos) (tCallK sp gV E tNil tk) := by
  refine ⟨fun pins s σ H Q I h => wpAny_Call_Name_kw (ld_glob I hg hm ?_ a3)⟩
  refine PySem.W.callWith_KW0 (h₀ := X.base) I.ok.mod.kin hk a1 ?_ a4
  refine thn (hkw.run pos pins s σ H _ I h) fun ws s2 z => ?_
  obtain ⟨zs, H2, I2, rz, q2⟩ := z
  refine ⟨I2.kIn, ?_⟩
  rw [a2]
  exact run_fnk (us := []) (vs := []) F hr hb hx I2 .nil rz q2
end
/-! ### heaps -/
theorem same_new {H : Hp} {p : Addr} {o : HO} (h : H p = none) : Same H (upd H p o) := fun b x e => by
  rw [upd_ne (ne_of_none e h)]
  exact e
theorem keep_upd {H H1 : Hp} {p : Addr} {o : HO} (s : Same H H1) (h : H p = none) : Same H (upd H1 p o) := fun b x e => by
  rw [upd_ne (ne_of_none e h)]
  exact s b x e
/-- all but what stands at p is as it was -/
def But (p : Addr) (H H' : Hp) : Prop := ∀ b o, b ≠ p → H b = some o → H' b = some o
theorem But.refl (p : Addr) (H : Hp) : But p H H := fun _ _ _ e => e
theorem But.trans {p : Addr} {H H1 H2 : Hp} (s : But p H H1) (t : But p H1 H2) : But p H H2 := fun b o n e => t b o n (s b o n e)
theorem But.same {p : Addr} {H H1 H2 : Hp} (s : But p H H1) (t : Same H1 H2) : But p H H2 := fun b o n e => t b o (s b o n e)
theorem But.of {p : Addr} {H H1 : Hp} (t : Same H H1) : But p H H1 := fun b o _ e => t b o e
theorem But.upd {p : Addr} {H H1 : Hp} {o : HO} (s : But p H H1) : But p H (upd H1 p o) := fun b x n e => by
  rw [upd_ne n]
  exact s b x n e
theorem But.to {p : Addr} {H H1 : Hp} (s : But p H H1) (h : H p = none) : Same H H1 := fun b x e => s b x (ne_of_none e h) e
theorem But.seq {K : PySem.W.Frag} {p a : Addr} {H H' : Hp} {xs : List V} (e : But p H H') (n : a ≠ p) (h : SqL K H a xs) : SqL K H' a xs := by
  rcases h with (h | ⟨o, h⟩) | h
  · exact .inl (.inl (e _ _ n h))
  · exact .inl (.inr ⟨o, e _ _ n h⟩)
  · exact .inr h
end Ef
namespace Ef
open PySem PySem.Spec PyProof.Rows L2
/-! ### promises of defs that are called where no repr is under way -/
structure FnG (P : Program) (w : World) (K : PySem.W.Frag) (mg : Str → Option Value) (base : Heap) (CX : CXT) (k : Nat) (f : Addr) (fd : FuncData) (ps : List Str) (sp : Sp) : Prop where
  len : ∀ vs H Q E, sp vs H Q E → vs.length = ps.length
  run : ∀ (A : Around), A.guards = some [] → ∀ (outer : List Env) (s : Shared) (H : Hp) (args : Args) (us : List Value) (vs : List V) (Q : VK) (E : XK),
    Room k A → Env0 P w K mg base A outer s H → BindsTo s fd args (ps.zip us) → Vals vs us → sp vs H Q E →
      codeAny (model P w) A (.call (.ref f) args) (CR CX outer P w H s Q E) s
section
variable {P : Program} {w : World} {K : PySem.W.Frag} {mg : Str → Option Value} {base : Heap} {CX : CXT}
theorem FnG.of {k : Nat} {f : Addr} {fd : FuncData} {ps : List Str} {sp : Sp} (F : FnOk P w K mg base CX k f fd ps sp) : FnG P w K mg base CX k f fd ps sp :=
  ⟨F.len, fun A _ outer s H args us vs Q E => F.run A outer s H args us vs Q E⟩
theorem Fun_okG {x qual : Str} {st : Stmt} {f : Addr} {fd : FuncData} {N ps : List Str} {k : Nat} {sp : Sp} (F : Fun K x qual st f fd) (S : FnScope N ps (defScope st)) (len : ∀ vs H Q E, sp vs H Q E → vs.length = ps.length)
    (bod : ∀ (cdv : Value) (A : Around) (outer : List Env) (s : Shared) (H : Hp) (vs : List V) (Q : VK) (E : XK), A.guards = some [] → Room k (A.deeper (envOfC qual (defScope st) s.heap.objs.size f cdv)) → sp vs H Q E →
      ∃ t, PSs (cxOf CX P w K mg base N qual (defScope st) f cdv A outer s H E) (defBody st) t ∧ t { nx := fun _ H' => Q .non H', rt := Q } (start N vs) H) :
    FnG P w K mg base CX (k + 1) f fd ps sp := by
  obtain ⟨oc, od, kV, doc, pm, an, cdv, ct, osl, rfl, lk, hcd⟩ := F.ex
  refine ⟨len, fun A gd outer s H args us vs Q E room e0 bnd rel wish => ?_⟩
  have kin : K.In s.heap := e0.mod.kin.keeps fun b o z => (e0.bs b o z).1
  have nolim : s.heap.NoLimit := e0.mod.nolimit.keeps fun b o z => (e0.bs b o z).1
  refine codeAny_call_function room.depth (kin _ _ lk) rfl S.co S.gen rfl (PySem.W.codeRec_of kin hcd) (bnd _ _ _ _ ?_)
  refine wpAny_newFunctionEnv_cells S.kind ?_ fun env hev s1 ic => ?_
  · rintro ⟨n, v⟩ hy
    rcases S.par n (List.of_mem_zip hy).1 with z | z
    · exact .inl z
    · exact .inr ⟨z, PySem.W.cellsFrom_some _ _ _ (.inl z)⟩
  · subst hev
    refine ⟨nolim.keeps ic.toInCall.keep, codeAny_func ?_⟩
    obtain ⟨t, pt, rd⟩ := bod cdv A outer s H vs Q E gd (room.deeper _) wish
    have J0 := inv_start (CX := CX) (E := E) S room.hd e0 (len _ _ _ _ wish) rel ic
    refine wpAny_mono (pt.run [] s1 (start N vs) H _ J0 rd) (fun fl s' got => ?_) fun e s' got => got
    cases fl with
    | brk =>
      obtain ⟨_, _, _, z⟩ := got
      exact z.elim
    | cont =>
      obtain ⟨_, _, _, z⟩ := got
      exact z.elim
    | next =>
      obtain ⟨σ', H', J, z⟩ := got
      exact ⟨V.non, H', J.os, J.bare, J.base, J.hok, (rfl : RelV V.non Value.none), z⟩
    | ret u =>
      obtain ⟨v, σ', H', J, rv, z⟩ := got
      exact ⟨v, H', J.os, J.bare, J.base, J.hok, rv, z⟩
end
/-- the same of a def that lets no exception out -/
theorem Fun_ok0 {P : Program} {w : World} {K : PySem.W.Frag} {mg : Str → Option Value} {base : Heap} {x qual : Str} {st : Stmt} {f : Addr} {fd : FuncData} {N ps : List Str} {k : Nat} {sp : Sp} (F : Fun K x qual st f fd) (S : FnScope N ps (defScope st)) (len : ∀ vs H Q E, sp vs H Q E → vs.length = ps.length)
    (bod : ∀ (cdv : Value) (A : Around) (outer : List Env) (s : Shared) (H : Hp) (vs : List V) (Q : VK) (E : XK), A.guards = some [] → Room k (A.deeper (envOfC qual (defScope st) s.heap.objs.size f cdv)) → sp vs H Q E →
      ∃ t, PSs (cxOf CX0 P w K mg base N qual (defScope st) f cdv A outer s H E).nox (defBody st) t ∧ t { nx := fun _ H' => Q .non H', rt := Q } (start N vs) H) :
    FnG P w K mg base CX0 (k + 1) f fd ps sp :=
  Fun_okG F S len fun cdv A outer s H vs Q E gd room wish => by
    obtain ⟨t, pt, rd⟩ := bod cdv A outer s H vs Q E gd room wish
    exact ⟨t, pt.nox, rd⟩
section
variable {X : Cx} {CX : CXT} {k : Nat} {f : Addr} {fd : FuncData} {ps : List Str} {sp : Sp} {E : XK} {x : Str} {p pos : Pos} {e : Expr} {es : List Expr} {t : TA}
theorem run_G {pins : List (Addr × Obj)} {σ : L2.St} {H : Hp} {s : Shared} {Q : VK} {us : List Value} {vs : List V} (F : FnG X.prog X.w X.K X.mg X.base CX k f fd ps sp)
    (gd : X.A.guards = some []) (room : Room k X.A) (bnd : Binds X.K fd ps []) (pass : Passes CX X E) (I : Inv X pins σ H s) (rel : Vals vs us) (wish : sp vs H Q E) :
    wpAny (model X.prog X.w) X.A (call (.ref f) us) (EP X pins σ Q) X.xe s := by
  have hl : (us ++ []).length = ps.length := by
    rw [List.append_nil, ← rel.length]
    exact F.len _ _ _ _ wish
  have b1 := bnd s us I.kIn hl
  rw [List.append_nil] at b1
  refine wpAny_call (codeAny_mono (F.run X.A gd X.stack s H ⟨us, []⟩ us vs Q E room I.env0 b1 rel wish) fun res s' got => ?_)
  cases res with
  | error z => exact pass pins σ H s z s' I got
  | ok fl =>
    cases fl with
    | ret u => exact I.after got
    | next => exact got.elim
    | brk => exact got.elim
    | cont => exact got.elim
/-- f(e, ..) of a def whose promise holds where no repr is under way -/
theorem pe_callG (F : FnG X.prog X.w X.K X.mg X.base CX k f fd ps sp) (gd : X.A.guards = some []) (room : Room k X.A) (hg : Gl X x) (hm : X.mg x = some (.ref f))
    (hk : PySem.W.keepIn X.K (.ref f) = true) (bnd : Binds X.K fd ps []) (pass : Passes CX X E) (ha : PA X (e :: es) t)
    (a1 : (x == ("__debug__" : Str)) = false := by decide) (a2 : starEach (e :: es) X.env = (false, eval e X.env) :: starEach es X.env := by rfl)
    (a3 : (backTo pos (starEach es X.env)).any (fun z => z.1) = false := by rfl) :
    PE X (.Call (.Name x p) (e :: es) [] pos) (tCall sp [] E t) := by
  refine ⟨fun pins s σ H Q I h => wpAny_Call_Name_kw (ld_glob I hg hm ?_ a1)⟩
  refine PySem.W.callWith_K (h₀ := X.base) I.ok.mod.kin hk (thn (ha.run pos pins s σ H _ I h) fun us s1 z => ?_) a2 a3
  obtain ⟨vs, H1, I1, r, q⟩ := z
  rw [List.append_nil] at q
  exact ⟨I1.kIn, run_G F gd room bnd pass I1 r q⟩
end
/-! ### the law's own end, where no repr is under way -/
def scriptObj (vs : List Value) : Obj := { cls := .type "list", data := .seq vs.toArray }
def scriptHp (K : PySem.W.Frag) (a : Addr) (vs : List Value) (ns : List Int) : Hp := fun b => if b = a ∧ K.lookup a = none then some (.frz (scriptObj vs) (.lst (ns.map V.int))) else none
section
variable {K : PySem.W.Frag} {a : Addr} {vs : List Value} {ns : List Int}
theorem scriptHp_only : Only (scriptHp K a vs ns) := fun b => by
  unfold scriptHp
  by_cases c : b = a ∧ K.lookup a = none
  · exact .inr ⟨_, _, if_pos c⟩
  · exact .inl (if_neg c)
theorem scriptHp_some {b : Addr} {u : HO} (h : scriptHp K a vs ns b = some u) : b = a ∧ K.lookup a = none ∧ u = .frz (scriptObj vs) (.lst (ns.map V.int)) := by
  unfold scriptHp at h
  by_cases c : b = a ∧ K.lookup a = none
  · rw [if_pos c] at h
    exact ⟨c.1, c.2, (Option.some.inj h).symm⟩
  · rw [if_neg c] at h
    cases h
theorem scriptHp_none {b : Addr} {o : Obj} {h : Heap} (ha : h.get? a = some (scriptObj vs)) (e : h.get? b = some o) (hd : ∀ its n, o.data ≠ .seq its n) : scriptHp K a vs ns b = none := by
  cases q : scriptHp K a vs ns b with
  | none => rfl
  | some u =>
    obtain ⟨rfl, _, _⟩ := scriptHp_some q
    rw [ha] at e
    cases e
    exact absurd rfl (hd vs.toArray _)
theorem lawG {l : PySem.W.OpenLaw} {n k : Nat} {q : Program} {loose : List Str} {XP : (Str → Option Value) → Heap → Prop} {YP : World → Heap → Prop} {d : DefRec} {K : Params → PySem.W.Frag} {sp : World → Sp} {x : Str}
    (hn : l.most = some n) (hn2 : n ≤ sizeLine) (hdf : d.params.defaults = []) (room : Room k callerA)
    (hY : ∀ (w : World) (h : Heap), YP w h → (K w.params).In h)
    (F : ∀ (w : World) (mg : Str → Option Value) (fa : Addr) (h : Heap), (K w.params).In h → h.Ns mainGlobals mg → mg d.name = some (.ref fa) →
      ∃ fd : FuncData, (∀ (s : Shared) (u : Value), BindsTo s fd ⟨[u], []⟩ [(x, u)]) ∧
        ∀ base : Heap, (K w.params).In base → base.Ns mainGlobals mg → FnG l.prog w (K w.params) mg base CX0 k fa fd [x] (sp w))
    (hsp : ∀ (w : World) (H : Hp) (a : Addr) (ns : List Int), ns.length ≤ n → Only H → SqL (K w.params) H a (ns.map V.int) → sp w [.ref a] H (fun v _ => v = .bl true) fun _ _ _ => False) :
    PySem.W.WalkO q loose XP YP l.row.toRowW d [] (fun f vs => PySem.call f vs) := by
  refine Att.attach_call hn hdf fun w s₀ s₁ mg mb fa o pm cd doc a vs ns G Y ho hd hcd hmg hobj hints hlen hgen => ?_
  have kin := hY w _ Y
  obtain ⟨fd, bnd, FF⟩ := F w mg fa _ kin G.T.g hmg
  have ha : s₁.heap.get? a = some (scriptObj vs) := hobj
  have short : ns.length ≤ sizeLine := Nat.le_trans hlen hn2
  have keep0 : ∀ {b : Addr} {o : Obj}, s₁.heap.get? b = some o → scriptHp (K w.params) a vs ns b = none → (hidT s₁.heap (scriptHp (K w.params) a vs ns)).get? b = some o := fun e z => hidT_get e z
  have nsK : ∀ {b : Addr} {m : Str → Option Value}, s₁.heap.Ns b m → (hidT s₁.heap (scriptHp (K w.params) a vs ns)).Ns b m := by
    rintro b m ⟨o, es, ep, e, dd, r⟩
    exact ⟨o, es, ep, keep0 e (scriptHp_none ha e fun its n z => by rw [dd] at z; cases z), dd, r⟩
  have kinB : (K w.params).In (hidT s₁.heap (scriptHp (K w.params) a vs ns)) := fun b o e => keep0 (kin b o e) (by
    cases z : scriptHp (K w.params) a vs ns b with
    | none => rfl
    | some u =>
      obtain ⟨rfl, z2, _⟩ := scriptHp_some z
      rw [z2] at e
      cases e)
  have hM : Mod (K w.params) mg (hidT s₁.heap (scriptHp (K w.params) a vs ns)) := by
    obtain ⟨mc, h1, h2⟩ := G.T.nolimit
    exact ⟨kinB, nsK G.T.g, ⟨mb, nsK G.T.b, G.T.builtins⟩, ⟨mc, nsK h1, h2⟩⟩
  have hok : HOk l.prog w (scriptHp (K w.params) a vs ns) s₁.heap := fun b u z => by
    obtain ⟨rfl, _, rfl⟩ := scriptHp_some z
    exact ⟨ha, by rw [List.length_map]; exact short, vs, _, vals_ints hints, ha⟩
  have hS : SqL (K w.params) (scriptHp (K w.params) a vs ns) a (ns.map V.int) := by
    cases hk : (K w.params).lookup a with
    | none => exact .inl (.inr ⟨scriptObj vs, if_pos ⟨rfl, hk⟩⟩)
    | some o =>
      have e := kin a o hk
      rw [ha] at e
      obtain rfl := Option.some.inj e
      exact .inr ⟨_, vs.toArray, _, hk, rfl, rfl, rfl, by rw [List.size_toArray, hints.length]; exact short, by simpa using vals_ints hints⟩
  have e0 : Env0 l.prog w (K w.params) mg (hidT s₁.heap (scriptHp (K w.params) a vs ns)) callerA [] s₁ (scriptHp (K w.params) a vs ns) :=
    ⟨rfl, hM, fun b o e => of_hidT e, Nat.le_of_eq (hidT_size _ _), trivial, fun b z => absurd (show b ∈ ([] : List Addr) from z) (by simp), hok, .of_eq hgen⟩
  refine codeAny_mono ((FF _ kinB (nsK G.T.g)).run callerA rfl [] s₁ _ ⟨[.ref a], []⟩ [.ref a] [.ref a] _ _ room e0 (bnd s₁ (.ref a)) (.cons rfl .nil) (hsp w _ a ns hlen scriptHp_only hS)) fun r s' got => ?_
  cases r with
  | error e => exact got.elim
  | ok fl =>
    cases fl with
    | next => exact got.elim
    | brk => exact got.elim
    | cont => exact got.elim
    | ret u =>
      obtain ⟨v, H', os, bare, un, hok', rv, z⟩ := got
      obtain rfl : v = .bl true := z
      obtain rfl : u = Value.bool true := rv
      refine ⟨rfl, OldK.of_keep fun b o e => ?_, os, bare⟩
      cases z : scriptHp (K w.params) a vs ns b with
      | none => exact un.keep b o e z (fun y => absurd (show b ∈ ([] : List Addr) from y) (by simp)) (by simp)
      | some u =>
        obtain ⟨_, _, rfl⟩ := scriptHp_some z
        have z2 := un.frzs b _ _ z
        obtain ⟨e1, _⟩ := hok b _ z
        obtain ⟨e2, _⟩ := hok' b _ z2
        rw [e] at e1
        obtain rfl := Option.some.inj e1
        exact e2
end
/-! ### repr of data -/
theorem Dp_ref {K : PySem.W.Frag} {H : Hp} {v : V} {d : PyData} (h : Dp K H v d) : (∃ a, v = .ref a) ∨ (v = .non ∧ d = .none) ∨ (∃ b, v = .bl b ∧ d = .bool b) ∨ (∃ i, v = .int i ∧ d = .int i) ∨ ∃ x, v = .str x ∧ d = .str x := by
  cases h with
  | non => exact .inr (.inl ⟨rfl, rfl⟩)
  | bl b => exact .inr (.inr (.inl ⟨b, rfl, rfl⟩))
  | int i => exact .inr (.inr (.inr (.inl ⟨i, rfl, rfl⟩)))
  | str x => exact .inr (.inr (.inr (.inr ⟨x, rfl, rfl⟩)))
  | lst _ _ => exact .inl ⟨_, rfl⟩
  | tup _ _ => exact .inl ⟨_, rfl⟩
/-- data that can be shown: not deeper than dp, not heavier than wt -/
structure Sh (dp wt : Nat) (d : PyData) : Prop where
  can : d.canLay0 = true
  dep : d.depth ≤ dp
  shw : d.showable = true
  lvs : d.leavesShort 200 = true
  wgt : d.weight ≤ wt
structure ShAll (dp wt : Nat) (ds : List PyData) : Prop where
  can : PyData.canLayAll0 ds = true
  dep : PyData.depthAll ds ≤ dp
  shw : PyData.showableAll ds = true
  lvs : PyData.leavesShortAll 200 ds = true
  wgt : PyData.weightAll ds ≤ wt
theorem Sh.mono {dp wt dp' wt' : Nat} {d : PyData} (h : Sh dp wt d) (h1 : dp ≤ dp') (h2 : wt ≤ wt') : Sh dp' wt' d := ⟨h.can, Nat.le_trans h.dep h1, h.shw, h.lvs, Nat.le_trans h.wgt h2⟩
theorem ShAll.mono {dp wt dp' wt' : Nat} {ds : List PyData} (h : ShAll dp wt ds) (h1 : dp ≤ dp') (h2 : wt ≤ wt') : ShAll dp' wt' ds := ⟨h.can, Nat.le_trans h.dep h1, h.shw, h.lvs, Nat.le_trans h.wgt h2⟩
theorem Sh.none : Sh 0 0 .none := ⟨rfl, Nat.le_refl _, rfl, rfl, Nat.le_refl _⟩
theorem Sh.bool (b : Bool) : Sh 0 0 (.bool b) := ⟨rfl, Nat.le_refl _, rfl, rfl, Nat.le_refl _⟩
theorem Sh.int {b : Nat} (h0 : 0 < b) (h6 : b ≤ 600) {i : Int} (h : i.natAbs < 2 ^ b) : Sh 0 b (.int i) := by
  have l2 := PySem.Flt.log2_lt_of h0 h
  refine ⟨rfl, Nat.le_refl _, decide_eq_true (by omega), decide_eq_true ?_, ?_⟩
  · have h1 : i.natAbs < 10 ^ 199 := Nat.lt_of_lt_of_le h (Nat.le_trans (Nat.pow_le_pow_right (by decide) h6) (by decide +kernel))
    have e := int_text_length_le10 (k := 199) (by decide) h1
    show (Str.ofString (toString i)).length ≤ 200
    rw [PySem.ofString_length]
    exact e
  · show (if i == 0 then 0 else i.natAbs.log2 + 1) ≤ b
    split <;> omega
theorem Sh.tup {dp wt : Nat} {ds : List PyData} (h : ShAll dp wt ds) : Sh (dp + 1) wt (.tuple ds) := ⟨h.can, Nat.add_le_add_right h.dep 1, h.shw, h.lvs, h.wgt⟩
theorem Sh.lst {dp wt : Nat} {ds : List PyData} (h : ShAll dp wt ds) : Sh (dp + 1) wt (.list ds) := ⟨h.can, Nat.add_le_add_right h.dep 1, h.shw, h.lvs, h.wgt⟩
theorem ShAll.nil : ShAll 0 0 [] := ⟨rfl, Nat.le_refl _, rfl, rfl, Nat.le_refl _⟩
theorem ShAll.cons {dp wt wt' : Nat} {d : PyData} {ds : List PyData} (h : Sh dp wt d) (t : ShAll dp wt' ds) : ShAll dp (wt + 1 + wt') (d :: ds) := by
  refine ⟨?_, Nat.max_le.mpr ⟨h.dep, t.dep⟩, ?_, ?_, ?_⟩
  · show (d.canLay0 && PyData.canLayAll0 ds) = true
    rw [h.can, t.can]
    rfl
  · show (d.showable && PyData.showableAll ds) = true
    rw [h.shw, t.shw]
    rfl
  · show (d.leavesShort 200 && PyData.leavesShortAll 200 ds) = true
    rw [h.lvs, t.lvs]
    rfl
  · show d.weight + 1 + PyData.weightAll ds ≤ wt + 1 + wt'
    have h1 := h.wgt
    have h2 := t.wgt
    omega
theorem ShAll.ints {b : Nat} (h0 : 0 < b) (h6 : b ≤ 600) : ∀ {ns : List Int}, (∀ x ∈ ns, x.natAbs < 2 ^ b) → ShAll 0 ((b + 1) * ns.length) (ns.map PyData.int)
  | [], _ => ShAll.nil
  | x :: r, h => by
    have h1 := ShAll.cons (Sh.int h0 h6 (h x List.mem_cons_self)) (ShAll.ints h0 h6 fun y hy => h y (List.mem_cons_of_mem _ hy))
    exact h1.mono (Nat.le_refl _) (by rw [List.length_cons, Nat.mul_succ]; omega)
theorem Sh.shaped {dp wt : Nat} {d : PyData} (h : Sh dp wt d) (h1 : dp ≤ 64) : SeqAt.shaped d = true := by
  unfold SeqAt.shaped
  rw [h.can]
  exact decide_eq_true (Nat.le_trans h.dep h1)
theorem Sh.fits {dp wt : Nat} {d : PyData} (h : Sh dp wt d) (h1 : wt ≤ 80000) : d.shown.length ≤ sizeLine := by
  have h2 := PyData.shown_le 200 (by decide) d h.lvs
  have h3 := h.wgt
  have h4 : (200 + 2) * d.weight ≤ 202 * 80000 := Nat.mul_le_mul (by omega) (by omega)
  have h5 : sizeLine = 16777216 := by decide
  omega
theorem dp_ints {K : PySem.W.Frag} {H : Hp} : ∀ ns : List Int, DpAll K H (ns.map V.int) (ns.map PyData.int)
  | [] => .nil
  | n :: r => .cons (.int n) (dp_ints r)
theorem eqvAll_ints : ∀ ns : List Int, PyData.eqvAll (ns.map PyData.int) (ns.map PyData.int) = true
  | [] => rfl
  | n :: r => by
    show (PyData.eqv (.int n) (.int n) && PyData.eqvAll (r.map PyData.int) (r.map PyData.int)) = true
    rw [eqvAll_ints r]
    show ((n == n) && true) = true
    rw [beq_self_eq_true]
    rfl
section
variable {X : Cx}
/-- repr(x), x data: its text -/
theorem call_reprD (gd : X.A.guards = some []) (hu : X.A.units + 66 < cLine) : CallR X (.builtin "repr") (fun xs H Q => ∃ v d, xs = [v] ∧ Dp X.K H v d ∧ Sh 60 80000 d ∧ Q (.str d.shown) H) := by
  intro pins s σ H xs us Q I r h
  obtain ⟨v, d, rfl, hD, hd, q⟩ := h
  have hsh := hd.shaped (by decide)
  have hsz := hd.fits (by decide)
  obtain ⟨u, rfl, ru⟩ := vals1 r
  rcases Dp_ref hD with ⟨a, rfl⟩ | ⟨rfl, rfl⟩ | ⟨b, rfl, rfl⟩ | ⟨i, rfl, rfl⟩ | ⟨x, rfl, rfl⟩
  · obtain rfl : u = Value.ref a := ru
    obtain ⟨as, rd⟩ := Dp.reads I d _ _ hD rfl
    have hdp := hd.dep
    refine repr_of_reads' rd hd.shw (PyData.noDict_hsm (PyData.hasDict_of_canLay d hd.can)) gd (by omega) (fun _ _ e => e) (fun h' u tk hk => ?_) hsz
    exact ⟨.str _, H, I.kept hk, ⟨u, rfl⟩, q⟩
  · obtain rfl : u = Value.none := ru
    exact P.repr_of_none ⟨.str _, H, I.tok _, ⟨_, rfl⟩, q⟩
  · obtain rfl : u = Value.bool b := ru
    exact P.repr_of_bool ⟨.str _, H, I.tok _, ⟨_, rfl⟩, q⟩
  · obtain ⟨t, rfl⟩ := ru
    exact P.repr_of_int (of_decide_eq_true hd.shw) ⟨.str _, H, I.tok _, ⟨_, rfl⟩, q⟩
  · obtain ⟨t, rfl⟩ := ru
    exact P.repr_of_str ⟨.str _, H, I.tok _, ⟨_, rfl⟩, q⟩ hsz
/-- a ** b of greater numbers -/
theorem op_powB : OpR X (binaryOp .Pow) (rI (fun i j => 0 ≤ j ∧ (Builtin.Int.intBits i : Int) * j ≤ 2 ^ 27) fun i j => .int (i ^ j.toNat)) := opI fun _ _ _ _ _ _ _ hc q => pow_int hc.1 hc.2 q
/-- set(t), t a tuple of ints -/
theorem cr_setT (hc : X.calm = true) : CallR X (.type "set") (fun xs H Q => ∃ (l : Addr) (ns : List Int), xs = [.ref l] ∧ SqT X.K H l (ns.map V.int) ∧ ns.length ≤ 1000 ∧
    ∀ (p : Addr) (c : Nat), H p = none → Q (.ref p) (upd H p (SetO X.w p (fun j => decide (j ∈ ns)) c))) := by
  intro pins s σ H xs us Q I r h
  obtain ⟨l, ns, rfl, hq, hl, q⟩ := h
  obtain ⟨u, rfl, ru⟩ := vals1 r
  obtain rfl : u = Value.ref l := ru
  obtain ⟨its, rv, pt, hz⟩ := I.tuple hq
  refine call_set_tupI ns (I.ok.hd hc) (show s.heap.IsTuple l its.toArray from pt) (ints_of_vals rv) (by unfold scanBound; omega) fun h' tk c R1 hcn k => ?_
  exact ⟨.ref _, _, I.laid (t' := tk) k (Nat.le_refl _) (setO_new R1), rfl, q _ c (I.hok.fresh (Nat.le_refl _))⟩
end

/-! ### the same rules with the written part as a letter (for comprehensions) -/
section
variable {X : Cx} (K : PySem.W.Frag)
theorem ix_listK (h : X.K = K := by rfl) : IxR X (rIxL K) := h ▸ ix_list
theorem ix_tupK (h : X.K = K := by rfl) : IxR X (rIxT K) := h ▸ ix_tup
theorem op_inK (h : X.K = K := by rfl) : OpR X (compareOp .In) (rIn K false) := h ▸ op_in_seq
theorem op_notInK (h : X.K = K := by rfl) : OpR X (compareOp .NotIn) (rIn K true) := h ▸ op_notIn_seq
def rLenK (K : PySem.W.Frag) : List V → Hp → VK → Prop := fun xs H Q => ∃ p ys, xs = [.ref p] ∧ (SqL K H p ys ∨ SqT K H p ys) ∧ Q (.int ys.length) H
theorem call_lenK (h : X.K = K := by rfl) : CallR X (.builtin "len") (rLenK K) := h ▸ call_len_seq
def rReprK (K : PySem.W.Frag) : List V → Hp → VK → Prop := fun xs H Q => ∃ v d, xs = [v] ∧ Dp K H v d ∧ Sh 60 80000 d ∧ Q (.str d.shown) H
theorem call_reprK (gd : X.A.guards = some []) (hu : X.A.units + 66 < cLine) (h : X.K = K := by rfl) : CallR X (.builtin "repr") (rReprK K) := h ▸ call_reprD gd hu
theorem call_isiK1 (h : X.K = K := by rfl) : CallR X (.builtin "isinstance") (rIsi K) := h ▸ call_isi
def rTupleK (K : PySem.W.Frag) : List V → Hp → VK → Prop := fun xs H Q => ∃ p ys, xs = [.ref p] ∧ ((SqL K H p ys ∧ ∀ l, H l = none → Q (.ref l) (upd H l (.tup ys))) ∨ (SqT K H p ys ∧ Q (.ref p) H))
theorem call_tupleK (h : X.K = K := by rfl) : CallR X (.type "tuple") (rTupleK K) := h ▸ call_tuple_of
def rListK (K : PySem.W.Frag) : List V → Hp → VK → Prop := fun xs H Q => ∃ p ys, xs = [.ref p] ∧ (SqL K H p ys ∨ SqT K H p ys) ∧ ∀ l, H l = none → Q (.ref l) (upd H l (.lst ys))
theorem call_listK (h : X.K = K := by rfl) : CallR X (.type "list") (rListK K) := h ▸ call_list_of
theorem op_eqDK (hu : X.A.units + 64 < cLine) (h : X.K = K := by rfl) : OpR X (compareOp .Eq) (rEqD K) := h ▸ op_eqD hu
theorem op_neDK (hu : X.A.units + 64 < cLine) (h : X.K = K := by rfl) : OpR X (compareOp .NotEq) (rNeD K) := h ▸ op_neD hu
end
end Ef
namespace Ef
open PySem PySem.Spec PyProof.Rows L2
/-! ### tuples: sums, parts, the other way round -/
theorem Same.seqT {K : PySem.W.Frag} {H H' : Hp} {a : Addr} {xs : List V} (e : Same H H') (h : SqT K H a xs) : SqT K H' a xs := by
  rcases h with (h | ⟨o, h⟩) | h
  · exact .inl (.inl (e _ _ h))
  · exact .inl (.inr ⟨o, e _ _ h⟩)
  · exact .inr h
theorem But.seqT {K : PySem.W.Frag} {p a : Addr} {H H' : Hp} {xs : List V} (e : But p H H') (n : ∀ o, H p = some o → a = p → False) (h : SqT K H a xs) : SqT K H' a xs := by
  rcases h with (h | ⟨o, h⟩) | h
  · exact .inl (.inl (e _ _ (fun z => n _ (z ▸ h) z) h))
  · exact .inl (.inr ⟨o, e _ _ (fun z => n _ (z ▸ h) z) h⟩)
  · exact .inr h
/-- t + u -/
def rCatS (K : PySem.W.Frag) : R2 := fun x y H Q => ∃ a b xs ys, x = .ref a ∧ y = .ref b ∧ SqT K H a xs ∧ SqT K H b ys ∧ xs.length + ys.length ≤ sizeLine ∧ ∀ p H', Same H H' → SqT K H' p (xs ++ ys) → Q (.ref p) H'
/-- t[lo:hi] -/
def rSlS (K : PySem.W.Frag) : V → Option Int → Option Int → Hp → VK → Prop := fun x lo hi H Q => ∃ a xs, x = .ref a ∧ SqT K H a xs ∧ ∀ p H', Same H H' → SqT K H' p (cutV xs lo hi) → Q (.ref p) H'
theorem cut_whole {xs : List V} {lo hi : Option Int} (h : HT.sIx xs.length 0 lo = 0 ∧ HT.sIx xs.length xs.length hi = xs.length) : cutV xs lo hi = xs := by
  unfold cutV
  rw [h.1, h.2]
  show (xs.drop 0).take (xs.length - 0) = xs
  rw [List.drop_zero, Nat.sub_zero]
  exact List.take_length
section
variable {X : Cx} (K : PySem.W.Frag)
theorem op_catS (h : X.K = K := by rfl) : OpR X (binaryOp .Add) (rCatS K) := by
  subst h
  intro pins s σ H x y v u Q I rx ry h
  obtain ⟨a, b, xs, ys, rfl, rfl, ha, hb, hz, q⟩ := h
  refine op_catA pins s σ H _ _ v u Q I rx ry ⟨a, b, xs, ys, rfl, rfl, ha, hb, hz, fun z => ?_, fun _ z => ?_, fun _ _ p np => ?_⟩
  · subst z
    exact q b H (Same.refl H) hb
  · subst z
    refine q a H (Same.refl H) ?_
    rw [List.append_nil]
    exact ha
  · exact q p _ (same_new np) (SqT.of upd_same)
theorem sl_tupS (h : X.K = K := by rfl) : SlR X (rSlS K) := by
  subst h
  intro pins s σ H x v vl vu lo hi sl Q I rx hs pl pu h
  obtain ⟨a, xs, rfl, hx, q⟩ := h
  refine sl_tupA pins s σ H _ v vl vu lo hi sl Q I rx hs pl pu ⟨a, xs, rfl, hx, fun z => ?_, fun _ p np => ?_⟩
  · refine q a H (Same.refl H) ?_
    rw [cut_whole z]
    exact hx
  · exact q p _ (same_new np) (SqT.of upd_same)
end
theorem fm_congr {α β : Type} {f g : α → Option β} : ∀ l : List α, (∀ x ∈ l, f x = g x) → l.filterMap f = l.filterMap g
  | [], _ => rfl
  | x :: r, h => by
    have h1 := h x List.mem_cons_self
    have h2 := fm_congr r fun y hy => h y (List.mem_cons_of_mem _ hy)
    cases e : f x with
    | none => rw [List.filterMap_cons_none e, List.filterMap_cons_none (h1 ▸ e), h2]
    | some b => rw [List.filterMap_cons_some e, List.filterMap_cons_some (h1 ▸ e), h2]
theorem range_pick {α : Type} : ∀ (n : Nat) (ys : List α), ys.length = n → (List.range n).filterMap (fun m => ys[m]?) = ys
  | 0, ys, h => by
    rw [List.length_eq_zero_iff.mp h]
    rfl
  | n + 1, ys, h => by
    have hne : ys ≠ [] := fun z => by
      rw [z] at h
      cases h
    have hl : ys.dropLast.length = n := by
      rw [List.length_dropLast]
      omega
    have e : ys = ys.dropLast ++ [ys.getLast hne] := (List.dropLast_concat_getLast hne).symm
    rw [List.range_succ, List.filterMap_append]
    have e1 : (List.range n).filterMap (fun m => ys[m]?) = ys.dropLast := by
      have e3 : (List.range n).filterMap (fun m => ys[m]?) = (List.range n).filterMap (fun m => ys.dropLast[m]?) := by
        refine fm_congr _ fun m hm => ?_
        have hm' : m < ys.dropLast.length := by
          rw [hl]
          exact List.mem_range.mp hm
        have e4 : (ys.dropLast ++ [ys.getLast hne])[m]? = ys.dropLast[m]? := List.getElem?_append_left hm'
        rw [← e4, List.dropLast_concat_getLast hne]
      rw [e3]
      exact range_pick n ys.dropLast hl
    have e2 : [n].filterMap (fun m => ys[m]?) = [ys.getLast hne] := by
      have : ys[n]? = some (ys.getLast hne) := by
        rw [List.getLast_eq_getElem hne, ← List.getElem?_eq_getElem]
        congr 1
        omega
      rw [List.filterMap_cons_some this]
      rfl
    rw [e1, e2]
    exact e.symm
theorem pick_back (xs : Array Value) : ((List.range xs.size).filterMap fun (m : Nat) => xs[(((xs.size : Int) - 1) + (m : Int) * (-1)).toNat]?).toArray = xs.toList.reverse.toArray := by
  congr 1
  have h : xs.toList.reverse.length = xs.size := by
    rw [List.length_reverse, Array.length_toList]
  rw [← range_pick xs.size xs.toList.reverse h]
  refine fm_congr _ fun m hm => ?_
  have hm' : m < xs.size := List.mem_range.mp hm
  have e : (((xs.size : Int) - 1) + (m : Int) * (-1)).toNat = xs.size - 1 - m := by omega
  rw [e, List.getElem?_reverse (by rw [Array.length_toList]; exact hm'), Array.length_toList, Array.getElem?_toList]
section
variable {prog : Program} {w : World} {A : Around} {E : Value → Shared → Prop} {s : Shared}
theorem tuple_back {t sl : Addr} {items : Array Value} {vl vu vs : Value} {Q : Value → Shared → Prop} (ht : IsTup s.heap t items) (hs : s.heap.IsSliceOf sl vl vu vs) (pl : PySem.IsPart vl none) (pu : PySem.IsPart vu none) (ps : PySem.IsPart vs (some (-1)))
    (h : Q (.ref s.heap.objs.size) { s with heap := s.heap.push { cls := .type "tuple", data := .seq items.toList.reverse.toArray } })
    (hsz : items.size ≤ sizeLine) : wpAny (model prog w) A (getItem (.ref t) (.ref sl)) Q E s := by
  have hfit : sizeOk (.seq items.toList.reverse.toArray) := by
    show items.toList.reverse.toArray.size ≤ sizeLine
    rw [List.size_toArray, List.length_reverse, Array.length_toList]
    exact hsz
  obtain ⟨os, hos, hcs, hds⟩ := id hs
  have tys : s.TypeIs (.ref sl) "slice" := ⟨os, hos, hcs⟩
  unfold getItem
  try with_reducible refine wpAny_holding ?_
  first | refine wpAny_bind (wpAny_pure ?_) | skip
  refine wpAny_bind (wpAny_sequenceKey ht.typeIs (by decide) ?_)
  refine wpAny_bind (wpAny_callSpecial?_slot (name := Str.ofString "__getitem__") ht.typeIs PyProof.Rows.slot_tuple_getitem
    (wpAny_call_entry PyProof.Rows.slot_tuple_getitem ht.typeIs PyProof.Rows.entry_tuple_getitem ?_ (PyProof.Rows.args_tuple_getitem _ _)))
  show wpAny _ _ (Builtin.Tuple.tupleItemsOf (.ref t) >>= _) _ _ s
  refine wpAny_bind (PyProof.Rows.tupleItemsOf_ ht ?_)
  refine wpAny_bind (wpAny_typeOf tys ?_)
  rw [if_pos (by decide)]
  have look : ∀ {B : Around} {E : Value → Shared → Prop} {R : Int × Int × Nat → Shared → Prop}, R (((items.size : Int) - 1), -1, items.size) s → wpAny (model prog w) B (Builtin.Slice.sliceApplied (.ref sl) (pure (items.size : Int))) R E s := fun {B E R} hR => by
    unfold Builtin.Slice.sliceApplied Builtin.Slice.sliceFields
    refine wpAny_bind (wpAny_bind (wpAny_field hos hds (x := vl) rfl (wpAny_bind (wpAny_field hos hds (x := vu) rfl (wpAny_bind (wpAny_field hos hds (x := vs) rfl (wpAny_pure ?_)))))))
    refine wpAny_bind (HT.slicePart_ ps ?_)
    show wpAny _ _ (if ((-1 : Int) == 0) = true then _ else _) _ _ s
    rw [if_neg (by decide)]
    refine wpAny_bind (HT.slicePart_ pl (wpAny_bind (HT.slicePart_ pu (wpAny_bind (wpAny_pure ?_)))))
    show wpAny _ _ (pure (((items.size : Int) - 1), (-1 : Int), Builtin.Slice.slicePlaces ((items.size : Int) - 1) (-1) (-1))) _ _ s
    have e : Builtin.Slice.slicePlaces ((items.size : Int) - 1) (-1) (-1) = items.size := by
      unfold Builtin.Slice.slicePlaces
      rw [if_neg (by decide)]
      by_cases c : ((items.size : Int) - 1) > -1
      · rw [if_pos c, show -(-1 : Int) = 1 from rfl, Int.ediv_one]
        omega
      · rw [if_neg c]
        omega
    rw [e]
    exact wpAny_pure hR
  refine wpAny_bind (look ?_)
  have no : ¬ ((((items.size : Int) - 1) == 0 && (-1 : Int) == 1 && items.size == items.size) = true) := by
    intro z
    rw [Bool.and_eq_true, Bool.and_eq_true] at z
    exact absurd z.1.2 (by decide)
  show wpAny _ _ (if (((items.size : Int) - 1) == 0 && (-1 : Int) == 1 && items.size == items.size) = true then _ else _) _ _ s
  rw [if_neg no, pick_back]
  first
    | exact wpAny_bind (m := Builtin.Tuple.tupleExact _) (wpAny_newObj_type (wpAny_pure ⟨_, rfl, wpAny_pure h⟩) hfit)
    | exact wpAny_bind (m := Builtin.Tuple.tupleExact _) (wpAny_newObj_type (wpAny_bind (wpAny_pure (wpAny_pure ⟨_, rfl, wpAny_pure h⟩))) hfit)
    | exact wpAny_bind (wpAny_bind (m := Builtin.Tuple.tupleExact _) (wpAny_newObj_type (wpAny_pure (wpAny_pure ⟨_, rfl, wpAny_pure h⟩)) hfit))
    | exact wpAny_bind (wpAny_bind (m := Builtin.Tuple.tupleExact _) (wpAny_newObj_type (wpAny_pure ⟨_, rfl, wpAny_pure h⟩) hfit))
end
/-! ### t[::-1] -/
def tRevT (K : PySem.W.Frag) (te : TE) : TE := fun σ H Q => te σ H fun x H1 => ∃ a xs, x = .ref a ∧ SqT K H1 a xs ∧ ∀ p, H1 p = none → Q (.ref p) (upd H1 p (.tup xs.reverse))
theorem pe_revT {X : Cx} {e : Expr} {te : TE} {k : Nat} {p1 p2 p3 pos : Pos} (he : PE X e te) : PE X (.Subscript e (.Slice none none (some (.UnaryOp .USub (.Constant (.int 1) k p1) p2)) p3) pos) (tRevT X.K te) := by
  refine ⟨fun pins s σ H Q I h => ?_⟩
  refine Subscript_ (thn (he.run pins s σ H _ I h) fun v s1 z1 => ?_)
  obtain ⟨x, H1, I1, r1, a, xs, ex, hx, q⟩ := z1
  subst ex
  cases r1
  have hst : PO X (some (.UnaryOp .USub (.Constant (.int 1) k p1) p2)) (tPart (tUn (rU fun i => .int (-i)) (tC (.int 1)))) := po_some (pe_un un_neg pe_int)
  refine wpAny_Slice (thn (po_none.run pins s1 σ H1 (fun o H2 => o = none ∧ H2 = H1) I1 ⟨rfl, rfl⟩) fun vl s2 z2 => ?_)
  obtain ⟨l, H2, I2, pl, rfl, rfl⟩ := z2
  refine thn (po_none.run pins s2 σ H2 (fun o H3 => o = none ∧ H3 = H2) I2 ⟨rfl, rfl⟩) fun vu s3 z3 => ?_
  obtain ⟨u, H3, I3, pu, rfl, rfl⟩ := z3
  refine thn (hst.run pins s3 σ H3 (fun o H4 => o = some (-1) ∧ H4 = H3) I3 ⟨1, rfl, -1, rfl, rfl, rfl⟩) fun vs s4 z4 => ?_
  obtain ⟨o, H4, I4, ps, rfl, rfl⟩ := z4
  have I5 : Inv X pins σ H4 { s4 with heap := s4.heap.push { cls := .type "slice", data := .fields #[vl, vu, vs] } } := I4.kept (t' := s4.toks) fun b ob z => Heap.get?_push_of_some _ z
  obtain ⟨its, r, ht, hz⟩ := I5.tuple hx
  show wpAny (model X.prog X.w) X.A (subscriptTail e (.Slice none none (some (.UnaryOp .USub (.Constant (.int 1) k p1) p2)) p3) (.ref a) (.ref s4.heap.objs.size)) (EP X pins σ Q) X.xe _
  refine tail_any (ops := [.ref a, .ref s4.heap.objs.size]) ht.typeIs (PyProof.Rows.slot_tuple_getitem.lookup) ?_ (by with_unfolding_all rfl)
  refine tuple_back ht (Heap.IsSliceOf.new _ vl vu vs) pl pu ps ?_ (by rw [List.size_toArray, ← r.length]; exact hz)
  refine ⟨.ref _, _, I5.laid (t' := s4.toks) (o := .tup xs.reverse) (fun b ob z => Heap.get?_push_of_some _ z) (Nat.le_refl _) ?_, rfl, q _ (I5.hok.fresh (Nat.le_refl _))⟩
  exact ⟨by rw [List.length_reverse]; exact hz, _, r.reverse, IsTup.new _ _⟩
end Ef
namespace Ef
open PySem PySem.Spec PyProof.Rows L2
/-! ### values of all sorts -/
mutual
theorem Dp.mono {K : PySem.W.Frag} {H H' : Hp} (s : Same H H') : ∀ {v : V} {d : PyData}, Dp K H v d → Dp K H' v d
  | _, _, .non => .non
  | _, _, .bl b => .bl b
  | _, _, .int i => .int i
  | _, _, .str x => .str x
  | _, _, .lst h t => .lst (s.seq h) (DpAll.mono s t)
  | _, _, .tup h t => .tup (Same.seqT s h) (DpAll.mono s t)
theorem DpAll.mono {K : PySem.W.Frag} {H H' : Hp} (s : Same H H') : ∀ {vs : List V} {ds : List PyData}, DpAll K H vs ds → DpAll K H' vs ds
  | _, _, .nil => .nil
  | _, _, .cons h t => .cons (Dp.mono s h) (DpAll.mono s t)
end
theorem DpAll.app {K : PySem.W.Frag} {H : Hp} : ∀ {xs ys : List V} {ds es : List PyData}, DpAll K H xs ds → DpAll K H ys es → DpAll K H (xs ++ ys) (ds ++ es)
  | _, _, _, _, .nil, t => t
  | _, _, _, _, .cons h r, t => .cons h (DpAll.app r t)
theorem dpAll_at {K : PySem.W.Frag} {H : Hp} : ∀ {xs : List V} {ds : List PyData}, DpAll K H xs ds → ∀ {i : Nat} {x : V}, xs[i]? = some x → ∃ d, ds[i]? = some d ∧ Dp K H x d
  | _, _, .nil, _, _, h => by cases h
  | _, _, .cons h _, 0, x, e => ⟨_, rfl, by rw [← Option.some.inj e]; exact h⟩
  | _, _, .cons _ t, i + 1, x, e => by
    rw [List.getElem?_cons_succ] at e ⊢
    exact dpAll_at t e
theorem dpAll_len {K : PySem.W.Frag} {H : Hp} : ∀ {xs : List V} {ds : List PyData}, DpAll K H xs ds → ds.length = xs.length
  | _, _, .nil => rfl
  | _, _, .cons _ t => congrArg (· + 1) (dpAll_len t)
theorem ShAll.app {dp w1 w2 : Nat} : ∀ {ds es : List PyData}, ShAll dp w1 ds → ShAll dp w2 es → ShAll dp (w1 + w2) (ds ++ es)
  | [], es, _, t => t.mono (Nat.le_refl _) (by omega)
  | d :: r, es, h, t => by
    have hc : (d.canLay0 && PyData.canLayAll0 r) = true := h.can
    have hs : (d.showable && PyData.showableAll r) = true := h.shw
    have hl : (d.leavesShort 200 && PyData.leavesShortAll 200 r) = true := h.lvs
    have hw : d.weight + 1 + PyData.weightAll r ≤ w1 := h.wgt
    have hd : max d.depth (PyData.depthAll r) ≤ dp := h.dep
    rw [Bool.and_eq_true] at hc hs hl
    rw [Nat.max_le] at hd
    have h1 : Sh dp d.weight d := ⟨hc.1, hd.1, hs.1, hl.1, Nat.le_refl _⟩
    have h2 : ShAll dp (PyData.weightAll r) r := ⟨hc.2, hd.2, hs.2, hl.2, Nat.le_refl _⟩
    exact (ShAll.cons h1 (ShAll.app h2 t)).mono (Nat.le_refl _) (by omega)
/-- all but what stands at p -/
def hide (p : Addr) (H : Hp) : Hp := fun b => if b = p then none else H b
theorem hide_ne {p b : Addr} {H : Hp} (n : b ≠ p) : hide p H b = H b := if_neg n
theorem hide_same (p : Addr) (H : Hp) : Same (hide p H) H := fun b o e => by
  by_cases c : b = p
  · unfold hide at e
    rw [if_pos c] at e
    cases e
  · rw [hide_ne c] at e
    exact e
theorem But.hide {p : Addr} {H H' : Hp} (s : But p H H') : Same (Ef.hide p H) (Ef.hide p H') := fun b o e => by
  by_cases c : b = p
  · unfold Ef.hide at e
    rw [if_pos c] at e
    cases e
  · rw [hide_ne c] at e ⊢
    exact s b o c e
theorem hide_lst {K : PySem.W.Frag} {p a : Addr} {H : Hp} {xs : List V} (n : a ≠ p) (h : H a = some (.lst xs)) : SqL K (hide p H) a xs := SqL.of (by rw [hide_ne n]; exact h)
theorem hide_tup {K : PySem.W.Frag} {p a : Addr} {H : Hp} {xs ys : List V} (hp : H p = some (.lst ys)) (h : SqT K H a xs) : SqT K (hide p H) a xs := by
  rcases h with (h | ⟨o, h⟩) | h
  · have n : a ≠ p := fun z => by
      rw [z, hp] at h
      cases h
    exact .inl (.inl (by rw [hide_ne n]; exact h))
  · have n : a ≠ p := fun z => by
      rw [z, hp] at h
      cases h
    exact .inl (.inr ⟨o, by rw [hide_ne n]; exact h⟩)
  · exact .inr h
/-- data, or an empty dict -/
def ItemV (K : PySem.W.Frag) (H : Hp) (v : V) (d : PyData) : Prop := (Dp K H v d ∧ Sh 60 80000 d) ∨ (d = .dict [] ∧ ∃ p, v = .ref p ∧ H p = some (.dK []))
theorem ItemV.mono {K : PySem.W.Frag} {H H' : Hp} {v : V} {d : PyData} (s : Same H H') (h : ItemV K H v d) : ItemV K H' v d := by
  rcases h with ⟨h, h2⟩ | ⟨e, p, e2, h⟩
  · exact .inl ⟨Dp.mono s h, h2⟩
  · exact .inr ⟨e, p, e2, s _ _ h⟩
def tyN : PyData → String
  | .none => "NoneType"
  | .bool _ => "bool"
  | .int _ => "int"
  | .str _ => "str"
  | .list _ => "list"
  | .tuple _ => "tuple"
  | .dict _ => "dict"
theorem Dp.ty {K : PySem.W.Frag} {H : Hp} {v : V} {d : PyData} (h : Dp K H v d) : TyX K H v (.type (tyN d)) := by
  cases h with
  | non => exact .base .non
  | bl b => exact .base (.bl b)
  | int i => exact .base (.int i)
  | str x => exact .base (.str x)
  | lst h _ =>
    rcases h with (h | ⟨o, h⟩) | ⟨o, its, n, h1, h2, _⟩
    · exact .base (.lst h)
    · exact .base (.frz h)
    · exact .kList h1 h2
  | tup h _ =>
    rcases h with (h | ⟨o, h⟩) | ⟨o, its, n, h1, h2, _⟩
    · exact .base (.tup h)
    · exact .fTuple h
    · exact .kTuple h1 h2
theorem ItemV.ty {K : PySem.W.Frag} {H : Hp} {v : V} {d : PyData} (h : ItemV K H v d) : TyX K H v (.type (tyN d)) := by
  rcases h with ⟨h, _⟩ | ⟨rfl, p, rfl, h⟩
  · exact Ef.Dp.ty h
  · exact .base (.dK h)
section
variable {X : Cx} (K : PySem.W.Frag)
def rReprI (K : PySem.W.Frag) : List V → Hp → VK → Prop := fun xs H Q => ∃ v d, xs = [v] ∧ ItemV K H v d ∧ Q (.str d.shown) H
theorem call_reprI (gd : X.A.guards = some []) (hu : X.A.units + 66 < cLine) (h : X.K = K := by rfl) : CallR X (.builtin "repr") (rReprI K) := by
  subst h
  intro pins s σ H xs us Q I r h
  obtain ⟨v, d, rfl, hI, q⟩ := h
  rcases hI with ⟨hD, hS⟩ | ⟨rfl, p, rfl, hp⟩
  · exact call_reprD gd hu pins s σ H _ us Q I r ⟨v, d, rfl, hD, hS, q⟩
  · obtain ⟨u, rfl, ru⟩ := vals1 r
    obtain rfl : u = Value.ref p := ru
    obtain ⟨_, hsys, vs, kv, o, es, ep, ho, hx, hd, hk, hpr, hn⟩ := dk_of I.hok hp
    have e1 : vs = [] := by
      cases kv
      rfl
    subst e1
    have e2 : es.toList = [] := by
      generalize es.toList = l at hpr ⊢
      cases hpr
      rfl
    have dep : PyData.depth (.dict []) ≤ 2 := by decide
    have rd : Reads s.heap (.ref p) (.dict []) (p :: [] ++ []) := by
      refine .dict ho hx.1 hd ?_ ?_
      · rw [e2]
        exact .nil
      · rw [e2]
        exact .nil
    refine repr_of_reads' rd rfl (fun _ hm => ?_) gd (by omega) (fun _ _ e => e) (fun h' u tk hk => ?_) (by decide +kernel)
    · have e3 : sysModules = p := by simpa using hm
      rw [← e3] at hsys
      exact absurd hsys (by simp)
    · exact ⟨.str _, H, I.kept hk, ⟨u, rfl⟩, q⟩
end
end Ef
set_option maxHeartbeats 4000000
namespace Ef
open PySem PySem.Spec PyProof.Rows L2
/-! ### sum of a list, of a tuple of whole numbers -/
theorem cr_sumK {X : Cx} (K : PySem.W.Frag) (hc : X.calm = true := by rfl) (h : X.K = K := by rfl) : CallR X (.builtin "sum") (rSum K) := by
  subst h
  exact cr_sum hc
def rSumT (K : PySem.W.Frag) : List V → Hp → VK → Prop := fun vs H Q => ∃ (a : Addr) (ns : List Int), vs = [V.ref a] ∧ SqT K H a (ns.map V.int) ∧ Q (.int ns.sum) H
theorem cr_sumT {X : Cx} (K : PySem.W.Frag) (hc : X.calm = true := by rfl) (h : X.K = K := by rfl) : CallR X (.builtin "sum") (rSumT K) := by
  subst h
  intro pins s σ H vs us Q I r h
  obtain ⟨a, ns, rfl, hs, q⟩ := h
  obtain ⟨its, rv, hl, _⟩ := I.tuple hs
  rw [Vals.ref1 r]
  have hi := rv.ints
  obtain ⟨xs, hx⟩ := hi.allInts.items
  have hn : numsOf its.toArray.toList = ns := by rw [show its.toArray.toList = its from rfl, hi.numsOf]
  rw [hx] at hl hn
  rw [nums_intItems] at hn
  refine PySem.W.ktm_sumG (I.ok.hd hc) hl fun h' tk t' hk => ?_
  rw [preSum_eq, List.take_of_length_le (by simp), hn]
  exact ⟨.int _, H, I.kept hk, ⟨_, rfl⟩, q⟩
end Ef
set_option maxHeartbeats 4000000
namespace Ef
open PySem PySem.Spec PyProof.Rows L2
/-! ### Base.__init__(self, ..) where Base is an own class without an __init__ of its own -/
section
variable {X : Cx} {e : Expr} {es : List Expr} {ta : TA} {x : Str} {p1 p2 pos : Pos} {B : Addr}
theorem pe_baseInit {pl : Sem Bool} (hg : Gl X x) (hm : X.mg x = some (.ref B))
    (h1 : PySem.W.specialIn X.K (.ref B) "__getattribute__" = some (some (.builtin "type.__getattribute__")))
    (h2 : PySem.W.typeIn X.K (.ref B) = some (.type "type")) (h3 : PySem.W.readsIn X.K B (.type "type") = true)
    (h4 : PySem.W.findCls X.K (.ref B) (.type "type") "__init__" = some (.val (.builtin "ValueError.__init__"))) (ha : PA X (e :: es) ta)
    (a1 : eval (.Call (.Attribute (.Name x p1) "__init__" p2) (e :: es) [] pos) X.env = (do
      let bv ← eval (.Name x p1) X.env
      standAt p2.atName
      let (g, first) ← holding [bv] (getMethod bv "__init__" pl)
      callWith pos g first (backTo pos (starEach (e :: es) X.env)) (backToKw pos (keywordEach [] X.env))) := by rfl)
    (a2 : starEach (e :: es) X.env = (false, eval e X.env) :: starEach es X.env := by rfl)
    (a3 : (backTo pos (starEach es X.env)).any (fun z => z.1) = false := by rfl) (a4 : (x == ("__debug__" : Str)) = false := by decide) :
    PE X (.Call (.Attribute (.Name x p1) "__init__" p2) (e :: es) [] pos) (tVeI X.K ta) := by
  refine ⟨fun pins s σ H Q I h => ?_⟩
  refine PySem.W.methodCall_KW (ld_glob I hg hm ?_ a4) a1
  obtain ⟨m, fr⟩ := I.fr
  refine PySem.W.method_of_cls fr I.ok.mod.kin h1 ?_
  refine PySem.W.cls_val fr I.ok.mod.kin h2 h3 h4 (by decide +kernel) ?_
  show wpAny _ _ (callWith pos (Value.builtin "ValueError.__init__") [] (backTo pos (starEach (e :: es) X.env)) []) _ _ _
  refine PyProof.Rows.callWith_method1 (thn (ha.run pos pins _ σ H _ (I.tok _) h) fun us s1 got => ?_) a2 a3
  obtain ⟨vs, H1, I1, r1, a, C, ws, rfl, hl, T, ea, q⟩ := got
  cases r1 with
  | @cons _ u0 _ ur ra rest =>
    obtain rfl : u0 = Value.ref a := ra
    refine oinit_ok T I1 ea ?_ fun s' J => ⟨.non, H1, J, rfl, q⟩
    have hl2 := Paired.length rest
    rw [sizeLine_eq]
    omega
end
/-! ### an exception that is kept as a value -/
/-- at a: an exception of the class cls, its dict at d -/
def exk (a : Addr) (cls : Value) (d : Option Addr) : HO := .ext fun h => ∃ oe vs, h.get? a = some oe ∧ oe.cls = cls ∧ oe.dict = d ∧ oe.data = .fields vs
theorem exk_ok {P : Program} {w : World} {H : Hp} {h : Heap} {a : Addr} {cls : Value} {d : Option Addr} {oe : Obj} {vs : Array Value} (he : h.get? a = some oe) (hc : oe.cls = cls) (hd : oe.dict = d) (hv : oe.data = .fields vs) : ObjOk P w H h a (exk a cls d) :=
  ⟨⟨oe, vs, he, hc, hd, hv⟩, ⟨oe, he⟩, fun h1 h2 z k => by
    obtain ⟨o, v, z1, z2⟩ := z
    exact ⟨o, v, k _ z1, z2⟩⟩
theorem exk_at {P : Program} {w : World} {H : Hp} {h : Heap} {a : Addr} {cls : Value} {d : Option Addr} (hok : HOk P w H h) (e : H a = some (exk a cls d)) : ∃ oe vs, h.get? a = some oe ∧ oe.cls = cls ∧ oe.dict = d ∧ oe.data = .fields vs := by
  have z : ObjOk P w H h a (.ext fun h => ∃ oe vs, h.get? a = some oe ∧ oe.cls = cls ∧ oe.dict = d ∧ oe.data = .fields vs) := hok a _ e
  exact z.1
theorem Inv_track {X : Cx} {pins : List (Addr × Obj)} {σ : L2.St} {H : Hp} {s : Shared} {a : Addr} {oe : Obj} {vs : Array Value} {cls : Value} {d : Option Addr} (I : L2.Inv X ((a, oe) :: pins) σ H s)
    (hc : oe.cls = cls) (hd : oe.dict = d) (hv : oe.data = .fields vs) (new : X.s_0.heap.get? a = none) (hp : ∀ p ∈ X.pn ++ pins, p.1 ≠ a) : L2.Inv X pins σ (upd H a (exk a cls d)) s := by
  obtain ⟨ha, na, nL, nF, nc⟩ := I.pin (a, oe) (List.mem_append_right _ List.mem_cons_self)
  have kp : ∀ {b : Addr} {u : HO}, H b = some u → upd H a (exk a cls d) b = some u := fun {b u} z => by
    rw [upd_ne (ne_of_none z na)]
    exact z
  refine ⟨I.ok, I.os, I.bare, ⟨I.base.keep, I.base.slot, fun b o z n hx => ?_, I.base.there, fun b xs z => kp (I.base.tups b xs z), fun b o u z => kp (I.base.frzs b o u z), fun b ps z => ?_⟩, I.loc, I.cell, ?_, fun y c z => ?_, fun p q => ?_, fun b o z => ?_, I.len⟩
  · rw [upd_ne (fun y => by rw [y, new] at z; cases z)]
    exact I.base.free b o z n hx
  · obtain ⟨more, z2⟩ := I.base.tbls b ps z
    exact ⟨more, kp z2⟩
  · rw [upd_ne nL.symm]
    exact I.free
  · have nca : c ≠ a := fun y2 => by
      obtain ⟨v, oc, z3, z4⟩ := I.cell y c z
      rw [y2, ha] at z3
      obtain rfl := Option.some.inj z3
      first
        | exact nc _ z4
        | exact nc _ z4.2
        | exact nc _ z4.1
    rw [upd_ne nca]
    exact I.freeC y c z
  · obtain ⟨z1, z2, z3, z4, z5⟩ := I.pin p (by
      rcases List.mem_append.mp q with q | q
      · exact List.mem_append_left _ q
      · exact List.mem_append_right _ (List.mem_cons_of_mem _ q))
    exact ⟨z1, by rw [upd_ne (hp p q)]; exact z2, z3, z4, z5⟩
  · by_cases hb : b = a
    · subst hb
      rw [upd_same] at z
      obtain rfl := Option.some.inj z
      exact exk_ok ha hc hd hv
    · rw [upd_ne hb] at z
      exact (I.hok b o z).stay (fun _ _ _ y => y) (fun c y => kp y) fun c xs y => kp y
/-- what 'except x as n: suite' wishes of an exception of the body, the exception being kept: slot i is n's -/
def wKeep (K : PySem.W.Frag) (c : Value) (i : Nat) (ts : Addr → Value → Option Addr → TS) (Wout : WX) (D : Ends) : WX := fun cls d σ H =>
  ∃ b, PySem.W.exmOne K cls c = some b ∧ (b = true → ∀ a, H a = none → ts a cls d { nx := fun σ' H' => D.nx (σ'.set i none) (upd H' a (exk a cls d)), rt := fun _ _ => False } (σ.set i (some (.ref a))) H) ∧
    (b = false → Wout cls d σ H)
section
variable {X : Cx} {x n : Str} {c : Value} {i : Nat} {body suite : List Stmt} {b₀ : Stmt} {np pos pos' : Pos} {tb : WX → TS} {ts : Addr → Value → Option Addr → TS} {Wout : WX}
theorem ps_try_keep (stk : X.stack = X.env :: X.outer) (frm : X.env.frame = some X.env.locals) (hex : X.ex = []) (hN : X.N.Nodup) (hi : X.N[i]? = some n) (hln : X.env.kindOf n = some .local) (nm : Names X x c) (tk : Takes X Wout)
    (hb : ∀ (W : WX) (pn : List (Addr × Obj)) (xe : Value → Shared → Prop), Takes (X.tr pn xe) W → PassesOwn (model X.prog X.w) X.A X.env xe → PSs (X.tr pn xe) body (tb W))
    (hsu : ∀ (a : Addr) (oe : Obj) (cls : Value) (d : Option Addr) (pn : List (Addr × Obj)), Zc cls d oe → (∃ vs, oe.data = .fields vs) → PSs (X.suite a ((a, oe) :: pn)) (b₀ :: suite) (ts a cls d)) :
    PS X (.Try body [.ExceptHandler (some (.Name x np)) (some n) (b₀ :: suite) pos'] [] [] pos) (fun D σ H => tb (wKeep X.K c i ts Wout D) D σ H) := by
  refine ⟨fun pins s σ H D I wish => ?_⟩
  have okX := I.ok
  have frs1 : X.A.frames = some (X.env :: X.outer) := by rw [okX.frames, stk]
  refine wpAny_Try_except ?_
  refine wpAny_mono ((hb (wKeep X.K c i ts Wout D) (X.pn ++ pins) (fun z s₁ => wpAny (model X.prog X.w) X.A (noteFrame z X.env) (fun _ s₂ => wpAny (model X.prog X.w) X.A (setFlight z none) (fun _ s₃ =>
    wpAny (model X.prog X.w) X.A (handleBy z X.env [.ExceptHandler (some (.Name x np)) (some n) (b₀ :: suite) pos']) (SP X pins D) X.xe s₃) X.xe s₂) X.xe s₁) (fun u s' air => ?_) PassesOwn.looking).run [] s σ H D (I.toTry _) wish) (fun fl s1 got => ?_) (fun z s1 got => got)
  · obtain ⟨a, B, sI, pins', σ', H', cls, d, rfl, J', nb, up, sky, na, os, ag, b, hb1, hyes, hno⟩ := air
    have J : L2.Inv X pins σ' H' sI := J'.ofTry okX
    have sky1 : Sky B (X.env :: X.outer) a (Zc cls d) X.env.locals s'.heap := by rw [← stk]; exact sky
    show wpAny (model X.prog X.w) X.A (noteFrame (.ref a) X.env) _ _ _
    refine Sky.land Zc.steady frs1 frm sky1 fun h3 fl3 up3 => ?_
    have J3 : L2.Inv X pins σ' H' { s' with heap := h3 } := J.landed nb fl3.1 (up.trans up3) os ag
    obtain ⟨oe3, vs3, he3, hz3, hd3⟩ := fl3.there
    have nfr : a ∉ frs (X.env :: X.outer) := fun hm => by
      obtain ⟨_, o', e', hnf⟩ := fl3.2.2.1.mem hm
      rw [he3] at e'
      cases e'
      exact hnf _ hd3
    have nL : a ≠ X.env.locals := fun z => nfr (List.mem_filterMap.mpr ⟨X.env, List.mem_cons_self, by rw [frm, z]⟩)
    have nF : a ∉ X.fs := fun hm => by
      obtain ⟨en, hen, y⟩ := List.mem_filterMap.mp hm
      exact nfr (List.mem_filterMap.mpr ⟨en, List.mem_cons_of_mem _ hen, y⟩)
    have newI : ∀ o, sI.heap.get? a = some o → False := fun o y => by
      have y2 := nb a o y (by rw [stk]; exact nfr)
      rw [fl3.2.1] at y2
      cases y2
    have new0 : X.s_0.heap.get? a = none := by
      cases y : X.s_0.heap.get? a with
      | none => rfl
      | some o =>
        obtain ⟨o', y2⟩ := J.base.there a o y (by rw [hex]; exact List.not_mem_nil)
        exact (newI o' y2).elim
    have apart : ∀ p ∈ X.pn ++ pins, p.1 ≠ a := fun p hp y => newI p.2 (by rw [← y]; exact (J.pin p hp).1)
    have S3 := J3.suite he3 hd3 na nL nF
    refine wpAny_handleBy_cons (codeAny_handlers_test ?_) (by intro y; cases y)
    have LT : PySem.W.Looks (model X.prog X.w) h3 (typeOf (.ref a)) cls := fun A Q E s k y => wpAny_typeOf_ref (k _ _ he3) (by rw [hz3.1]; exact y)
    have LM := PySem.W.exm_one (M := model X.prog X.w) (J3.kIn) LT hb1
    have asked : ∀ {Q : Value → Shared → Prop} {E : Value → Shared → Prop}, Q c { s' with heap := h3 } → wpAny (model X.prog X.w) (X.A.mark (some (.ref a))) (eval (.Name x np) X.env) Q E { s' with heap := h3 } := fun {Q E} y => by
      obtain ⟨hg, hdbg, hm | ⟨hm, hv, hnn⟩⟩ := nm
      · exact ld_glob (X := X.suite a ((a, oe3) :: (X.pn ++ pins))) S3 hg hm y hdbg
      · exact ld_blt (X := X.suite a ((a, oe3) :: (X.pn ++ pins))) S3 hg hm hv y hnn hdbg
    refine asked (LM.here ?_)
    cases b with
    | true =>
      refine codeAny_handlers_suite_as ?_
      refine HandSPX.lands_againZ fl3 fun h4 fl4 up4 => ?_
      have J4 : L2.Inv X pins σ' H' { s' with heap := h4 } := J.landed nb fl4.1 ((up.trans up3).trans up4) os ag
      obtain ⟨oe4, vs4, he4, hz4, hd4⟩ := fl4.there
      have S4 := J4.suite he4 hd4 na nL nF
      refine store_ok (X := X.suite a ((a, oe4) :: (X.pn ++ pins))) (v := .ref a) S4 hN hi (.inl hln) rfl (fun s5 S5 => ?_) (.inr hln)
      refine wpAny_mono ((hsu a oe4 cls d (X.pn ++ pins) hz4 ⟨_, hd4⟩).run [] s5 _ H' _ S5 (hyes rfl a na)) (fun fl s6 got => ?_) (fun _ _ y => False.elim y)
      cases fl with
      | next =>
        obtain ⟨σ6, H6, S6, q6⟩ := got
        have P6 := S6.pin (a, oe4) (List.mem_append_left _ List.mem_cons_self)
        have J6 : L2.Inv X ((a, oe4) :: pins) σ6 H6 s6 := (S6.unsuite okX).pins_of fun p hp => by
          rcases List.mem_cons.mp hp with rfl | hp
          · exact P6
          · exact (S6.unsuite okX).pin p (List.mem_append_right _ hp)
        exact gone_ok J6 hN hi hln fun s7 J7 => ⟨_, _, Inv_track J7 hz4.1 hz4.2 hd4 new0 apart, q6⟩
      | brk =>
        obtain ⟨σ6, H6, S6, q6⟩ := got
        exact q6.elim
      | cont =>
        obtain ⟨σ6, H6, S6, q6⟩ := got
        exact q6.elim
      | ret u =>
        obtain ⟨v6, σ6, H6, S6, r6, q6⟩ := got
        exact q6.elim
    | false =>
      show wpAny _ X.A (handleBy (.ref a) X.env []) _ _ _
      refine wpAny_handleBy_nil ?_
      obtain ⟨k1, k2, k3, oe, vs, T, oT, ts', he, hz, hd, h1, hr⟩ := id fl3
      unfold PySem.passOn
      refine wpAny_bind (wpAny_field he hd h1 ?_)
      rw [if_neg (show ¬ ((Value.ref T == Value.none) = true) from by simp)]
      have fin : wpAny (model X.prog X.w) X.A (setFlight (.ref a) X.env.frame) (fun _ s4 => wpAny (model X.prog X.w) X.A (throw (.ref a) : Sem Flow) (SP X pins D) X.xe s4) X.xe { s' with heap := h3 } := by
        rw [frm]
        refine HandSPX.setFlight_upZ fl3 fun h4 hh4 up4 => wpAny_throw (tk _ _ ?_)
        exact ⟨a, B, sI, pins, σ', H', cls, d, rfl, J, nb, (up.trans up3).trans up4, .inr (.inr (by rw [stk]; exact hh4)), na, os, ag, hno rfl⟩
      first
        | exact wpAny_bind (wpAny_pure (wpAny_bind fin))
        | exact wpAny_bind fin
  · cases fl with
    | next =>
      obtain ⟨σ', H', J', q⟩ := got
      exact wpAny_execs_nil ⟨σ', H', J'.ofTry okX, q⟩
    | brk =>
      obtain ⟨σ', H', J', q⟩ := got
      exact ⟨σ', H', J'.ofTry okX, q⟩
    | cont =>
      obtain ⟨σ', H', J', q⟩ := got
      exact ⟨σ', H', J'.ofTry okX, q⟩
    | ret u =>
      obtain ⟨v, σ', H', J', r, q⟩ := got
      exact ⟨v, σ', H', J'.ofTry okX, r, q⟩
end
theorem takesF {X : Cx} : Takes X (fun _ _ _ _ => False) := fun _ _ x => by
  obtain ⟨_, _, _, _, _, _, _, _, _, _, _, _, _, _, _, _, z⟩ := x
  exact z.elim
theorem passF {X : Cx} : Passes (L2.CX X.prog X.w) X (fun _ _ _ => False) := fun _ _ _ _ _ _ _ x => by
  obtain ⟨_, _, _, _, _, _, _, _, _, _, _, _, z⟩ := x
  exact z.elim
/-! ### what is asked of an exception that was kept -/
section
open PySem.W PySem.Calls
variable {prog : Program} {w : World} {A : Around} {E : Value → Shared → Prop} {s : Shared} {K : PySem.W.Frag} {y D : Addr} {oy : Obj} {od : Option Obj}
theorem class_of_exc {Q : Option Value → Shared → Prop} (T : ExcC K D) (kin : K.In s.heap) (I : InstAt s.heap y oy D od) (hod : od.isSome = true) (h : Q (some (.ref D)) { s with toks := s.toks + 1 }) :
    wpAny (model prog w) A (getAttr? (.ref y) "__class__") Q E s := by
  obtain ⟨oo, rfl⟩ := Option.isSome_iff_exists.mp hod
  have ff : findObj K D (some oo) "__class__" = some (.bind (.builtin "getset_descriptor.__get__") (.builtin "object.__class__")) := findObj_data (by obtain ⟨cd, hc, _⟩ := any_some T.hd; rw [hc]; rfl) T.ha T.hn T.ht
  obtain ⟨hp, g, d, t, os⟩ := s
  have T0 := I.type (M := model prog w)
  have T1 := looks_findIn (M := model prog w) kin T.hg
  have T2 := looks_findIn (M := model prog w) kin T.hk
  have T3 := looks_find (M := model prog w) kin I ff
  have inB : Looks (model prog w) hp (isInstance (.ref y) (.type "BaseException")) true := T0.andThen (looks_subIn kin T.hs)
  have b0 : (false && onTheHeap (Value.builtin "BaseException.__getattribute__")) = false := rfl
  have b2 : (Value.builtin "BaseException.__getattribute__" == Value.builtin "object.__getattribute__") = false := by decide +kernel
  have b1 : (onTheHeap (Value.ref D) && Value.builtin "BaseException.__getattribute__" == Value.builtin "object.__getattribute__") = false := by rw [b2]; rfl
  unfold getAttr? getAttrBy? getAttrBy
  refine wpAny_bind (wpAny_mkText (wpAny_bind (wpAny_attempt (wpAny_holding (wpAny_bind (T0.at (wpAny_bind (T1.at ?_))))))))
  show wpAny _ _ (if (onTheHeap (Value.ref D) && Value.builtin "BaseException.__getattribute__" == Value.builtin "object.__getattribute__") = true then _ else _) _ _ ⟨hp, g, d, t + 1, os⟩
  rw [b1, if_neg Bool.false_ne_true]
  unfold getAttrByItsOwn hookBefore
  refine wpAny_bind ?_
  rw [if_pos (show onTheHeap (Value.ref D) = true from rfl)]
  refine T2.at ?_
  refine wpAny_bind (wpAny_attempt (wpAny_holding ?_))
  unfold callGetattribute
  rw [b0, if_neg Bool.false_ne_true]
  unfold boundAndCalled
  rw [PySem.F.excAttr_ValueError.ga.bind (.ref y)]
  refine wpAny_bind (wpAny_pure ?_)
  show wpAny _ _ (call (.builtin "BaseException.__getattribute__") [.ref y, .str "__class__" t]) _ _ _
  refine wpAny_call (codeAny_call_builtin PySem.F.excAttr_ValueError.ga.plain PySem.F.entry_bexc_ga ?_)
  refine @check_slot (model prog w) _ _ ⟨hp, g, d, t + 1, os⟩ "BaseException.__getattribute__" "BaseException" "__getattribute__" (.ref y) [.str "__class__" t] [] _ (by decide +kernel) (by decide +kernel) inB (PySem.F.args_bexc_ga (.ref y) (.str "__class__" t)) ?_
  unfold Builtin.«object.__getattribute__»
  refine wpAny_bind (wpAny_of_eq (a := ((Value.ref y : Value), [Value.str "__class__" t])) (by first | rfl | (simp only [slotArgs]; rfl)) ?_)
  refine wpAny_bind (wpAny_pure (wpAny_bind (T0.at (wpAny_bind (T3.at ?_)))))
  show wpAny _ _ (holding [Value.builtin "object.__class__"] (call (.builtin "getset_descriptor.__get__") [.builtin "object.__class__", .ref y, .ref D]) >>= ret) _ _ ⟨hp, g, d, t + 1, os⟩
  refine wpAny_bind (wpAny_holding (wpAny_call (class_get (s := ⟨hp, g, d, t + 1, os⟩) (ox := oy) (od := some oo) kin I T.hm ?_)))
  refine wpAny_pure ?_
  show wpAny _ _ (handedOut (.ref D)) _ _ ⟨hp, g, d, t + 1, os⟩
  rw [handedOut_of (v := .ref D) rfl]
  first
    | exact wpAny_pure (wpAny_pure h)
    | exact wpAny_pure h
    | exact wpAny_pure (wpAny_bind (wpAny_pure (wpAny_pure h)))
theorem kit_kept (T : ExcC K D) : KitX K (.ref y) (.ref D) (fun h => ∃ oy oo, InstAt h y oy D (some oo)) where
  ty := fun _ _ _ I => by
    obtain ⟨_, _, I⟩ := I
    exact I.type
  it := fun _ _ kin _ => by
    obtain ⟨cd, hc, _⟩ := any_some T.hd
    unfold clsIn at hc
    split at hc
    · rename_i c' d' cd' sl' ho
      intro A' Q' E' s' k q
      unfold isType loadHead
      exact wpAny_bind (wpAny_loadPart (k _ _ (kin _ _ ho)) (wpAny_pure q))
    · cases hc
  ne := fun h tp dd its n sl kin htp => by
    obtain ⟨cd, hc, _⟩ := any_some T.hd
    refine Bool.eq_false_iff.mpr fun q => ?_
    obtain rfl : D = tp := Value.ref.inj (beq_iff_eq.mp q)
    unfold clsIn at hc
    split at hc
    · rename_i c' d' cd' sl' ho
      have z := (kin _ _ ho).symm.trans htp
      cases z
    · cases hc
  ca := fun kin I k => by
    obtain ⟨_, _, I⟩ := I
    exact class_of_exc T kin I rfl k
end
section
variable {X : Cx} {pins : List (Addr × Obj)} {σ : L2.St} {H : Hp} {s : Shared}
theorem kept_inst {a D d : Addr} {fs : List (Str × V)} (I : L2.Inv X pins σ H s) (e : H a = some (exk a (.ref D) (some d))) (ed : H d = some (.xd fs)) : ∃ oy oo, PySem.W.InstAt s.heap a oy D (some oo) ∧ ∃ mA : Str → Option Value, (∀ f, RelO (fs.lookup f) (mA f)) ∧ ∀ n, PySem.W.lookIn n oo = some (mA n) := by
  obtain ⟨oe, vs, h1, h2, h3, h4⟩ := exk_at I.hok e
  obtain ⟨mA, hns, hr⟩ := (show ObjOk X.prog X.w H s.heap d (.xd fs) from I.hok d _ ed)
  obtain ⟨oo, ho, hl⟩ := lookIn_ns hns
  exact ⟨oe, oo, ⟨h1, h2, by unfold PySem.W.notCls; rw [h4] <;> rfl, by rw [h3]; exact ho⟩, mA, hr, hl⟩
end
/-- isinstance(x, c), x an exception that was kept -/
def rIsX (K : PySem.W.Frag) : List V → Hp → VK → Prop := fun xs H Q => ∃ (a D d : Addr) (fs : List (Str × V)) (c : V) (u : Value) (b : Bool), xs = [.ref a, c] ∧ H a = some (exk a (.ref D) (some d)) ∧ H d = some (.xd fs) ∧ ExcC K D ∧ ClsV c u ∧ PySem.W.kitOne K (.ref D) u = some b ∧ Q (.bl b) H
/-- isinstance(x, (c1, ..)) -/
def rIsXT (K : PySem.W.Frag) : List V → Hp → VK → Prop := fun xs H Q => ∃ (a D d : Addr) (fs : List (Str × V)) (tp : Addr) (cs : List V) (us : List Value) (b : Bool), xs = [.ref a, .ref tp] ∧ H a = some (exk a (.ref D) (some d)) ∧ H d = some (.xd fs) ∧ ExcC K D ∧ H tp = some (.tup cs) ∧ Paired ClsV cs us ∧ PySem.W.kitAny K (.ref D) us = some b ∧ Q (.bl b) H
section
variable {X : Cx}
theorem call_isX : CallR X (.builtin "isinstance") (rIsX X.K) := by
  intro pins s σ H xs us Q I r h
  obtain ⟨a, D, d, fs, c, u, b, rfl, ea, ed, T, k, e, q⟩ := h
  obtain ⟨u1, u2, rfl, r1, r2⟩ := vals2 r
  obtain rfl := k.eq r2
  obtain rfl : u1 = Value.ref a := r1
  obtain ⟨oy, oo, J, _⟩ := kept_inst I ea ed
  exact PySem.W.kia_one (kit_kept T) I.kIn ⟨_, _, J⟩ e (fun z => nomatch z) fun tk => ⟨.bl b, H, I.tok tk, rfl, q⟩
theorem call_isXT : CallR X (.builtin "isinstance") (rIsXT X.K) := by
  intro pins s σ H xs us Q I r h
  obtain ⟨a, D, d, fs, tp, cs, ws, b, rfl, ea, ed, T, hT, k, e, q⟩ := h
  obtain ⟨u1, u2, rfl, r1, r2⟩ := vals2 r
  obtain rfl : u1 = Value.ref a := r1
  obtain rfl : u2 = Value.ref tp := r2
  obtain ⟨oy, oo, J, _⟩ := kept_inst I ea ed
  obtain ⟨_, its, rv, o, h1, h2, n, h3⟩ := (show ObjOk X.prog X.w H s.heap tp (.tup cs) from I.hok tp _ hT)
  obtain rfl := ClsV.all k rv
  obtain ⟨oc, odd, dt, sl⟩ := o
  simp only at h2 h3
  subst h2 h3
  exact PySem.W.kia_tup (kit_kept T) I.kIn ⟨_, _, J⟩ h1 e (fun z => nomatch z) fun tk => ⟨.bl b, H, I.tok tk, rfl, q⟩
/-- e.f, e an exception that was kept -/
def tFldX (K : PySem.W.Frag) (f : Str) (te : TE) : TE := fun σ H Q => te σ H fun x H1 => ∃ (a D d : Addr) (fs : List (Str × V)) (v : V), x = .ref a ∧ H1 a = some (exk a (.ref D) (some d)) ∧ H1 d = some (.xd fs) ∧ XfC K D ∧ PySem.W.findIn K (.ref D) f = some none ∧ fs.lookup f = some v ∧ Q v H1
theorem pe_fldX {e : Expr} {te : TE} {pos : Pos} {f : Str} (he : PE X e te) (hb : attributeBase e f X.env (eval e X.env) = eval e X.env := by rfl) : PE X (.Attribute e f pos) (tFldX X.K f te) := by
  refine ⟨fun pins s σ H Q I h => ?_⟩
  refine attr_of hb (thn (he.run pins s σ H _ I h) fun u s1 got => ?_)
  obtain ⟨x, H1, I1, rx, a, D, d, fs, v, rfl, ea, ed, T, hno, l, q⟩ := got
  obtain rfl : u = Value.ref a := rx
  obtain ⟨oy, oo, J, mA, hr, hl⟩ := kept_inst I1 ea ed
  obtain ⟨u, hu, ru⟩ := RelO.some_of (v := v) (o := mA f) (by rw [← l]; exact hr f)
  exact HandSPX.exc_get I1.kIn J T.ga T.gg T.exC (PySem.W.findObj_own T.hdC hno rfl (by rw [hl, hu])) (handed_of ru) ⟨v, H1, I1.tok _, ru, q⟩
end
/-! ### what the written part says of the program's error classes -/
structure BaseT (K : PySem.W.Frag) (B : Addr) : Prop where
  sp : PySem.W.specialIn K (.ref B) "__getattribute__" = some (some (.builtin "type.__getattribute__"))
  ty : PySem.W.typeIn K (.ref B) = some (.type "type")
  rd : PySem.W.readsIn K B (.type "type") = true
  fc : PySem.W.findCls K (.ref B) (.type "type") "__init__" = some (.val (.builtin "ValueError.__init__"))
structure ErrT (K : PySem.W.Frag) (C fI : Addr) (f : Str) (B : Addr) : Prop where
  ox : OexC K C
  xf : XfC K C
  ec : ExcC K C
  no : PySem.W.findIn K (.ref C) f = some none
  iC : PySem.W.findIn K (.ref C) "__init__" = some (some (.ref fI))
  tI : PySem.W.typeIn K (.ref fI) = some (.type "function")
  ex : PySem.W.exmOne K (.ref C) (.ref B) = some true
/-- an error's __init__: the base's, then the field -/
def spErr (K : PySem.W.Frag) (C : Addr) (f : Str) : Sp := fun vs H Q _ => ∃ (a : Addr) (v : V), vs = [.ref a, v] ∧ H a = some (exo a C none) ∧ ∀ dx, H dx = none → dx ≠ a → Q .non (upd (upd H dx (exd dx [(f, v)])) a (exo a C (some dx)))
/-- behind the raise: the error's dict, all else as it was -/
theorem err_end {H : Hp} {a C dx : Addr} {f : Str} {v : V} (na : H a = none) (nd : (upd H a (exo a C none)) dx = none) (ne : dx ≠ a) :
    let H2 := upd (upd (upd H a (exo a C none)) dx (exd dx [(f, v)])) a (exo a C (some dx))
    H2 a = some (exo a C (some dx)) ∧ H2 dx = some (exd dx [(f, v)]) ∧ H dx = none ∧ Same H (upd (del H2 a) dx (.xd [(f, v)])) ∧ (upd (del H2 a) dx (.xd [(f, v)])) dx = some (.xd [(f, v)]) := by
  have hd : H dx = none := by
    rw [upd_ne ne] at nd
    exact nd
  refine ⟨upd_same, by rw [upd_ne ne, upd_same], hd, fun b o z => ?_, upd_same⟩
  have n1 : b ≠ a := ne_of_none z na
  have n2 : b ≠ dx := ne_of_none z hd
  rw [upd_ne n2, del_ne n1, upd_ne n1, upd_ne n2, upd_ne n1]
  exact z
end Ef
set_option maxHeartbeats 4000000
namespace Ef
open PySem PySem.Spec PyProof.Rows L2 CwR
/-! ### texts replaced: a token must be out -/
section
variable {P : Program} {w : World} {K : PySem.W.Frag} {mg : Str → Option Value} {base : Heap}
theorem Fun_okT {x qual : Str} {st : Stmt} {f : Addr} {fd : FuncData} {N ps : List Str} {k : Nat} {sp : Sp} (F : Fun K x qual st f fd) (S : FnScope N ps (defScope st)) (nc : (defScope st).names.all (fun y => match y.2 with | .cell => false | _ => true) = true) (h1 : 1 ≤ ps.length) (ln : ∀ vs H Q E, sp vs H Q E → vs.length = ps.length)
    (bod : ∀ (cdv : Value) (A : Around) (outer : List Env) (s : Shared) (H : Hp) (vs : List V) (Q : VK) (E : XK), Room k (A.deeper (envOfC qual (defScope st) s.heap.objs.size f cdv)) → sp vs H Q E →
      ∃ t, PSsT (cxOf (L2.CX P w) P w K mg base N qual (defScope st) f cdv A outer s H E) (defBody st) t ∧ t { nx := fun _ H' => Q .non H', rt := Q } (start N vs) H) : FnOk P w K mg base (L2.CX P w) (k + 1) f fd ps sp := by
  obtain ⟨oc, od, kV, doc, pm, an, cdv, ct, osl, rfl, lk, hcd⟩ := F.ex
  refine fn_ofT lk hcd S (fun y hy e => ?_) h1 ln fun A outer s H vs Q E hr wish => bod cdv A outer s H vs Q E hr wish
  have := List.all_eq_true.mp nc y hy
  rw [e] at this
  cases this
end
section
variable {X : Cx} {e f : Expr} {te tf : TE} {st : Stmt} {rest : List Stmt} {t u : TS}
/-- a value, behind which a token is out -/
def PEG (X : Cx) (e : Expr) (t : TE) : Prop :=
  ∀ (pins : List (Addr × Obj)) (s : Shared) (σ : L2.St) (H : Hp) (Q : VK), Inv X pins σ H s → t σ H Q → wpAny (model X.prog X.w) X.A (eval e X.env) (fun v s1 => 1 ≤ s1.toks ∧ EP X pins σ Q v s1) X.xe s
theorem peg_str {c : Str} {j : Nat} {p : Pos} : PEG X (.Constant (.str c) j p) (tC (.str c)) := fun pins s σ H Q I q =>
  Calls.Constant_str ⟨Nat.succ_le_succ (Nat.zero_le _), V.str c, H, I.tok _, ⟨_, rfl⟩, q⟩
theorem peg_op {op : Operator} {r : R2} {pos : Pos} (ho : OpR X (binaryOp op) r) (ha : PEG X e te) (hb : PE X f tf) : PEG X (.BinOp e op f pos) (tOp r te tf) := by
  intro pins s σ H Q I wish
  refine wpAny_BinOp (wpAny_mono (ha pins s σ H _ I wish) (fun v s1 got => ?_) fun _ _ z => z)
  obtain ⟨k1, x, H1, I1, r1, q1⟩ := got
  have W := thn (hb.run pins s1 σ H1 _ I1 q1) fun v2 s2 (got2 : EP X pins σ _ v2 s2) => by
    obtain ⟨y, H2, I2, r2, q2⟩ := got2
    exact ho pins s2 σ H2 x y v v2 Q I2 r1 r2 q2
  exact wpAny_mono (PySem.wpAny_toks W) (fun v2 s2 z => wpAny_mono (PySem.wpAny_toks z.2) (fun _ s3 z3 => ⟨Nat.le_trans (Nat.le_trans k1 z.1) z3.1, z3.2⟩) fun _ _ z => z.2) fun _ _ z => z.2
/-- name = value, a token behind it -/
theorem pss_setG {i : Nat} {x : Str} {pos' pos : Pos} (hN : X.N.Nodup) (hi : X.N[i]? = some x) (hx : Loc X.env.scope x) (he : PEG X e te) (h2 : PSsT X rest u)
    (hs : swapsWith e (some (.Name x pos')) pos.line X.env = pure false := by rfl) (hf : X.fn x = true ∨ X.env.scope.names.lookup x = some .local := by first | exact .inl rfl | exact .inr rfl | assumption) :
    PSs X (.Assign [.Name x pos'] e pos :: rest) (tSeq (tAsg te (gName i)) u) := by
  refine ⟨fun pins s σ H D I wish => ?_⟩
  refine wpAny_execs_cons (wpAny_Assign_Name (wpAny_mono (he pins s σ H _ I wish) (fun v s1 got => ?_) fun _ _ z => z) hs)
  obtain ⟨k1, y, H1, I1, r1, q1⟩ := got
  refine wpAny_mono (PySem.wpAny_toks (store_ok (Q := fun _ s2 => Inv X pins (σ.set i (some y)) H1 s2) I1 hN hi hx r1 (fun s2 I2 => I2) hf)) (fun _ s2 z => ?_) fun _ _ z => z.2
  exact h2 pins s2 _ H1 D (Nat.le_trans k1 z.1) z.2 q1
theorem pst_set {i : Nat} {x : Str} {pos' pos : Pos} (hN : X.N.Nodup) (hi : X.N[i]? = some x) (hx : Loc X.env.scope x) (he : PET X e te)
    (hs : swapsWith e (some (.Name x pos')) pos.line X.env = pure false := by rfl) (hf : X.fn x = true ∨ X.env.scope.names.lookup x = some .local := by first | exact .inl rfl | exact .inr rfl | assumption) :
    PST X (.Assign [.Name x pos'] e pos) (tAsg te (gName i)) := by
  intro pins s σ H D h0 I wish
  refine wpAny_Assign_Name (thn (he pins s σ H _ h0 I wish) fun v s1 got => ?_) hs
  obtain ⟨y, H1, I1, r1, q1⟩ := got
  exact store_ok I1 hN hi hx r1 (fun s2 I2 => ⟨_, H1, I2, q1⟩) hf
theorem pat_one (ha : PET X e te) (hs : starEach [e] X.env = (false, eval e X.env) :: starEach [] X.env := by rfl) : PAT X [e] (tCons te tNil) := by
  intro pos pins s σ H Q h0 I wish
  rw [hs]
  show wpAny _ _ (spliced ((false, eval e X.env) :: backTo pos (starEach [] X.env))) _ _ s
  refine Calls.spliced_cons (thn (ha pins s σ H _ h0 I wish) fun v s1 got => ?_)
  obtain ⟨x, H1, I1, r1, q1⟩ := got
  exact Calls.spliced_nil ⟨[x], H1, I1, .cons r1 .nil, q1⟩
end
section
variable {X : Cx} {CX : CXT} {k : Nat} {C f : Addr} {fd : FuncData} {ps : List Str} {sp : Sp} {E : XK} {x : Str} {p pos : Pos} {e : Expr} {es : List Expr} {t : TA} {ds : List Value} {dvs : List V}
theorem pet_make (M : Mk X.K C f) (F : FnOk X.prog X.w X.K X.mg X.base CX k f fd ps sp) (hr : Room (k + 1) X.A) (hg : Gl X x) (hm : X.mg x = some (.ref C)) (hb : L2.Binds X.K fd ps ds) (hd : Vals dvs ds) (hx : Passes CX X E)
    (ha : PAT X (e :: es) t) (a1 : (x == ("__debug__" : Str)) = false := by decide) (a2 : starEach (e :: es) X.env = (false, eval e X.env) :: starEach es X.env := by rfl) (a3 : (backTo pos (starEach es X.env)).any (·.1) = false := by rfl) :
    PET X (.Call (.Name x p) (e :: es) [] pos) (tMake C sp dvs E t) := by
  intro pins s σ H Q h0 I wish
  refine wpAny_Call_Name_kw (ld_glob I hg hm ?_ a1)
  have W := ha pos pins s σ H _ h0 I wish
  exact PySem.W.callWith_K (h₀ := X.base) I.ok.mod.kin M.kp (thn W fun us s1 got => by
    obtain ⟨vs, H1, I1, r, q⟩ := got
    exact ⟨I1.kIn, run_make M F hr hb hd hx I1 r q⟩) a2 a3
end
end Ef
set_option maxHeartbeats 4000000
namespace Ef
open PySem PySem.Spec PyProof.Rows L2
/-! ### a try whose body never raises: the handlers are not asked -/
section
variable {X : Cx} {body : List Stmt} {hd : ExceptHandler} {hds : List ExceptHandler} {pos : Pos} {tb : TS}
theorem ps_try_never (hb : ∀ (pn : List (Addr × Obj)) (xe : Value → Shared → Prop), Takes (X.tr pn xe) (fun _ _ _ _ => False) → PassesOwn (model X.prog X.w) X.A X.env xe → PSs (X.tr pn xe) body tb) : PS X (.Try body (hd :: hds) [] [] pos) tb := by
  refine ⟨fun pins s σ H D I wish => ?_⟩
  have okX := I.ok
  refine wpAny_Try_except ?_
  have run := (hb (X.pn ++ pins) (fun z s₁ => wpAny (model X.prog X.w) X.A (noteFrame z X.env) (fun _ s₂ => wpAny (model X.prog X.w) X.A (setFlight z none) (fun _ s₃ => wpAny (model X.prog X.w) X.A (handleBy z X.env (hd :: hds)) (SP X pins D) X.xe s₃) X.xe s₂) X.xe s₁) takesF PassesOwn.looking).run [] s σ H D (I.toTry _) wish
  refine wpAny_mono run (fun fl s1 got => ?_) (fun z s1 got => got)
  cases fl with
  | next =>
    obtain ⟨σ', H', J', q⟩ := got
    exact wpAny_execs_nil ⟨σ', H', J'.ofTry okX, q⟩
  | brk =>
    obtain ⟨σ', H', J', q⟩ := got
    exact ⟨σ', H', J'.ofTry okX, q⟩
  | cont =>
    obtain ⟨σ', H', J', q⟩ := got
    exact ⟨σ', H', J'.ofTry okX, q⟩
  | ret u =>
    obtain ⟨v, σ', H', J', r, q⟩ := got
    exact ⟨v, σ', H', J'.ofTry okX, r, q⟩
end
end Ef
set_option maxHeartbeats 4000000
namespace Ef
open PySem PySem.Spec PyProof.Rows L2
open Sem (wp)
/-! ### enumerate(tuple) -/
theorem meets_enumerate_newG {v : Value} {o : Obj} {H : Heap → Prop} (B : Begins v o H) :
    Meets (Builtin.«enumerate.__new__» ⟨[.type "enumerate", v], []⟩) (fun _ R s => H s.heap ∧
      R (.ok (.ret (.ref (s.heap.push o).objs.size))) { s with heap := (s.heap.push o).push { cls := .type "enumerate", data := .fields #[.none, .bool false, .ref s.heap.objs.size, rawInt 0, .none, .none] } }) :=
  .of_wp fun prog w A R s h => by
    obtain ⟨hp, g, d, tk, os⟩ := s; obtain ⟨h1, h⟩ := h
    have hsub := sub_enumerate
    have q1 : ∀ {A' : Around} {E : Value → Shared → Prop} {Q : Value → Shared → Prop}, Q (.ref hp.objs.size) ⟨hp.push o, g, d, tk, os⟩ → wpAny (model prog w) A' (pyIter v) Q E ⟨hp, g, d, tk, os⟩ :=
      fun q => B.iter prog w _ _ ⟨hp, g, d, tk, os⟩ _ h1 q
    wp_walk using q1
    refine wpAny_stack_any fun st => wpAny_pure ?_
    split
    · rename_i c _ _ _ _ _
      cases (c == Value.type "enumerate")
      · wp_walk using q1
        exact ⟨_, rfl, h⟩
      · wp_walk using q1
        exact ⟨_, rfl, h⟩
    · wp_walk using q1
      exact ⟨_, rfl, h⟩
theorem call_enumerate_tup {prog : Program} {w : World} {A : Around} {E : Value → Shared → Prop} {s : Shared} {t : Addr} {items : Array Value} {Q : Value → Shared → Prop} (hT : s.heap.IsTuple t items)
    (h : ∀ h', IsEnum h' (s.heap.objs.size + 1) s.heap.objs.size 0 .none → h'.IsTupleIter s.heap.objs.size t 0 → h'.objs.size = s.heap.objs.size + 2 →
      (∀ b o, s.heap.get? b = some o → h'.get? b = some o) → Q (.ref (s.heap.objs.size + 1)) { s with heap := h' }) :
    wpAny (model prog w) A (call (.type "enumerate") [.ref t]) Q E s := by
  refine callType_new F.called_enumerate (by decide) (F.typeCall_enumerate_1 _) (F.newCall_enumerate_1 _) (fun obj => F.args_object_init_2 obj _) F.entry_enumerate_new
    (meets_enumerate_newG (begins_tuple t items)) ⟨hT, ?_⟩
  have hz : (s.heap.push { cls := .type "tuple_iterator", data := .fields #[.ref t, .int 0 0] }).objs.size = s.heap.objs.size + 1 := Heap.size_push ..
  show _ ∧ _
  rw [hz]
  have he : IsEnum ((s.heap.push { cls := .type "tuple_iterator", data := .fields #[.ref t, .int 0 0] }).push
      { cls := .type "enumerate", data := .fields #[.none, .bool false, .ref s.heap.objs.size, rawInt 0, .none, .none] }) (s.heap.objs.size + 1) s.heap.objs.size 0 .none := by
    have := Heap.get?_push_size (s.heap.push { cls := .type "tuple_iterator", data := .fields #[.ref t, .int 0 0] })
      (o := { cls := .type "enumerate", data := .fields #[.none, .bool false, .ref s.heap.objs.size, rawInt 0, .none, .none] }) rfl
    rw [hz] at this; exact this
  exact ⟨⟨_, he, rfl⟩, h _ he ⟨_, Heap.get?_push_of_some _ (Heap.get?_push_size _ rfl), rfl, rfl⟩ (by rw [Heap.size_push, hz]) fun b o x => Heap.get?_push_of_some _ (Heap.get?_push_of_some _ x)⟩
/-- the tuple at a, each item in a new pair -/
def Itet (K : PySem.W.Frag) (a : Addr) : It :=
  ⟨fun i H => ∃ (xs : List V) (x : V), SqT K H a xs ∧ xs[i]? = some x, fun i H v H' => ∃ T x, v = .ref T ∧ H T = none ∧ H' = upd H T (.tup [.int (i : Nat), x]) ∧ ∀ xs, SqT K H a xs → xs[i]? = some x, fun i H => ∃ xs : List V, SqT K H a xs ∧ xs.length ≤ i⟩
theorem tup_ne_iter {h : Heap} {a it : Addr} {items : Array Value} {i : Nat} (ht : h.IsTuple a items) (hit : h.IsTupleIter it a i) : a ≠ it := by
  rintro rfl
  obtain ⟨o, h1, c1, _⟩ := ht
  obtain ⟨o', h2, c2, _⟩ := hit
  rw [h1] at h2
  obtain rfl := Option.some.inj h2
  rw [c1] at c2
  injection c2 with c3
  exact absurd c3 (by decide)
theorem enum_ne_tup {h : Heap} {a e it : Addr} {items : Array Value} {i : Int} {old : Value} (ht : h.IsTuple a items) (he : IsEnum h e it i old) : e ≠ a := by
  rintro rfl
  obtain ⟨o, h1, c1, _⟩ := ht
  have h2 : h.get? e = _ := he
  rw [h1] at h2
  obtain rfl := Option.some.inj h2
  injection c1 with c3
  exact absurd c3 (by decide)
theorem wpAny_pyNext_enum_endX {prog : Program} {w : World} {A : Around} {E : Value → Shared → Prop} {s : Shared} {e it t : Addr} {i : Nat} {items : Array Value} {old : Value} {Q : Option Value → Shared → Prop} (hh : A.handled = none)
    (he : IsEnum s.heap e it i old) (hit : s.heap.IsTupleIter it t i) (ht : s.heap.IsTuple t items) (hx : items[i]? = none)
    (hQ : ∀ h', Heap.ExtBut it s.heap h' → Q none { s with heap := h' }) : wpAny (model prog w) A (pyNext (.ref e)) Q E s := by
  have hT : s.TypeIs (.ref e) "enumerate" := ⟨_, he, rfl⟩
  unfold pyNext
  refine wpAny_bind (wpAny_attempt (wpAny_callSpecial?_slot (name := Str.ofString "__next__") hT F.slot_enumerate_next
    (wpAny_call_entry F.slot_enumerate_next hT F.entry_enumerate_next ?_ (F.args_enumerate_next_1 _))))
  show wpAny _ _ (field (.ref e) 2 >>= _) _ _ _
  refine wpAny_bind (wpAny_field he rfl (x := .ref it) rfl ?_)
  refine wpAny_bind (wpAny_nextOf_tuple_end (show A.in1.handled = none from hh) hit ht hx fun h' x he' hx' => ?_)
  obtain ⟨o, ho, hc⟩ := hx'
  refine wpAny_bind (wpAny_isInstance (T := "StopIteration") (b := true) ⟨o, ho, hc⟩ isSubtype_stop ?_)
  exact wpAny_pure (hQ _ he')
theorem turn_enumT {P : Program} {w : World} {K : PySem.W.Frag} {elts : List Expr} {kk : Nat} {tpos : Pos} (a e it : Addr) :
    Turn P w K (.Tuple elts kk tpos) (Itet K a) [e, it] e (fun i h => (∃ old, IsEnum h e it ((i : Nat) : Int) old) ∧ h.IsTupleIter it a i ∧ e ≠ it) where
  mem := by simp
  obj := fun i h st b hb => by
    obtain ⟨⟨old, he⟩, ⟨o, ho, hc, hd⟩, _⟩ := st
    have e' : b = e ∨ b = it := by simpa using hb
    rcases e' with z | z
    · rw [z]; exact ⟨_, he, fun v q => nomatch q⟩
    · rw [z]; exact ⟨o, ho, fun v q => by rw [hd] at q; cases q⟩
  keep := fun i h h' st k => let ⟨⟨old, he⟩, hi, hne⟩ := st; ⟨⟨old, k e (by simp) _ he⟩, hi.at fun o q => k it (by simp) o q, hne⟩
  item := by
    intro X hP hw hK hc i pins s σ H E I hf st hg
    subst hP hw hK
    obtain ⟨⟨old, he⟩, hit, hne⟩ := st
    obtain ⟨xs, x, hq, hx⟩ := hg
    obtain ⟨its, rv, p, hz⟩ := I.tuple hq
    obtain ⟨u, hu, ru⟩ := rv.get hx
    have hel : e < s.heap.objs.size := Heap.lt_size he
    have hil : it < s.heap.objs.size := by obtain ⟨_, q, _⟩ := hit; exact Heap.lt_size q
    have pT : s.heap.IsTuple a its.toArray := p
    have hai := tup_ne_iter pT hit
    have hei : i < its.toArray.size := by
      have h9 : i < its.length := by
        rw [← rv.length]
        exact (List.getElem?_eq_some_iff.mp hx).1
      simpa using h9
    refine wpAny_pyNext_enum_itemD (Draws.tuple (show X.A.in1.handled = none from I.ok.hd hc) it a hai its.toArray) he ⟨hit, pT⟩ hei hne (fun z => ?_) fun x2 h' tk hP ho hst' hT hsz hk => ?_
    · rcases List.mem_cons.mp z with z | z
      · exact hne z
      · exact enum_ne_tup pT he (by simpa using z)
    have hP2 : its.toArray[i]? = some x2 := hP
    obtain rfl : u = x2 := by
      have h9 : its[i]? = some x2 := by simpa using hP2
      rw [hu] at h9
      exact Option.some.inj h9
    refine ⟨_, rfl, wpAny_letOwnedTupleGo_enum (s := { s with heap := h', toks := tk + 1 }) ho fun h'' he' sb => ?_⟩
    have hT2 : h''.get? s.heap.objs.size = some { cls := .type "tuple", data := .seq #[.int i tk, u] } := (sb.2 _ (Nat.ne_of_gt hel)).trans hT
    have new : ObjOk X.prog X.w (upd H s.heap.objs.size (.tup [.int (i : Nat), x])) h'' s.heap.objs.size (.tup [.int (i : Nat), x]) :=
      ⟨by show 2 ≤ sizeLine; decide, [.int i tk, u], .cons ⟨_, rfl⟩ (.cons ru .nil), ⟨_, hT2, rfl, _, rfl⟩⟩
    have I1 : Inv X pins σ (upd H s.heap.objs.size (.tup [.int (i : Nat), x])) { s with heap := h'', toks := tk + 1 } :=
      I.turnedNew (ch := [e, it]) (fun b ob hb q => (sb.2 b (fun z => hb (by simp [z]))).trans (hk b ob (fun z => hb (by simp [z])) (fun z => hb (by simp [z])) q)) hf (Nat.le_refl _) new
    refine ⟨.ref s.heap.objs.size, _, I1, rfl, ⟨_, x, rfl, I.hok.fresh (Nat.le_refl _), rfl, fun ys hy => by rw [I.tuple_inj hy hq]; exact hx⟩, ⟨⟨u, ?_⟩, hst'.1.at fun o q => (sb.2 it (Ne.symm hne)).trans q, hne⟩, fun b hb => ?_⟩
    · have e1 : ((i + 1 : Nat) : Int) = (i : Int) + 1 := by omega
      rw [e1]; exact he'
    · have hb' : b < s.heap.objs.size := by
        have e' : b = e ∨ b = it := by simpa using hb
        rcases e' with z | z
        · rw [z]; exact hel
        · rw [z]; exact hil
      rw [upd_ne (Nat.ne_of_lt hb')]
      exact (hf b hb).1
  done := by
    intro X hP hw hK hc i pins s σ H E I hf st hg
    subst hP hw hK
    obtain ⟨⟨old, he⟩, hit, hne⟩ := st
    obtain ⟨xs, hq, hx⟩ := hg
    obtain ⟨its, rv, p, hz⟩ := I.tuple hq
    obtain ⟨f0, f1, f2, f3, f4, f5⟩ := hf it (by simp)
    have pT : s.heap.IsTuple a its.toArray := p
    have hl := rv.length
    refine wpAny_pyNext_enum_endX (I.ok.hd hc) he hit pT (by simp; omega) fun h' eb => ⟨rfl, I.turned (t' := s.toks) (fun b o hb q => eb b o hb q) f0 f1 f3 f4 f5⟩
  self := fun A i s Q E st h => let ⟨⟨_, he⟩, _⟩ := st; wpAny_pyIter_enum he h
def iEnumT (K : PySem.W.Frag) (ta : TA) : TI := fun σ H R => ta σ H fun vs H1 => ∃ a xs, vs = [.ref a] ∧ SqT K H1 a xs ∧ R (Itet K a) H1
theorem pi_enumT {X : Cx} {e : Expr} {ta : TA} {p pos tpos : Pos} {elts : List Expr} {kk : Nat} (hg : Gl X "enumerate") (hm : X.mg "enumerate" = none) (ha : PA X [e] ta) (hs : starEach [e] X.env = [(false, eval e X.env)] := by rfl) :
    PI X (.Tuple elts kk tpos) (.Call (.Name "enumerate" p) [e] [] pos) (iEnumT X.K ta) := by
  refine ⟨fun pins s σ H R I h => ?_⟩
  refine Call_ (ld_blt I hg hm boot_enumerate (PyProof.Rows.callWith_type1 (thn (ha.run pos pins s σ H _ I h) fun us s1 ⟨vs, H1, I1, r1, q1⟩ => ?_) hs rfl))
  obtain ⟨a, xs, ex, hq, q⟩ := q1
  subst ex
  cases r1 with
  | cons r rr =>
    cases rr
    cases r
    obtain ⟨its, rv, p', hz⟩ := I1.tuple hq
    refine call_enumerate_tup (show s1.heap.IsTuple a its.toArray from p') fun h' he hit hsz hk => wpAny_pyIter_enum he ?_
    have I2 : Inv X pins σ H1 { s1 with heap := h' } := I1.kept (t' := s1.toks) hk
    refine ⟨s1.heap.objs.size + 1, [s1.heap.objs.size + 1, s1.heap.objs.size], _, _, H1, rfl, I2, turn_enumT a (s1.heap.objs.size + 1) s1.heap.objs.size, ⟨⟨.none, he⟩, hit, Nat.succ_ne_self _⟩, fun b hb => ?_, q⟩
    have e' : b = s1.heap.objs.size + 1 ∨ b = s1.heap.objs.size := by simpa using hb
    have hle : s1.heap.objs.size ≤ b := by
      rcases e' with z | z
      · rw [z]; exact Nat.le_add_right _ _
      · rw [z]; exact Nat.le_refl _
    exact I1.fpOk hle (I1.hok.fresh hle)
/-! ### sorted(xs) of tuples of ints, also of at most one -/
theorem sort_short {prog : Program} {w : World} {A : Around} {E : Value → Shared → Prop} {s : Shared} {a : Addr} {vs : List Value} {n : Nat} {P : PySem.Fin → Shared → Prop} (ho : s.heap.get? a = some (seqObj "list" vs.toArray n)) (h1 : vs.length < 2)
    (h : ∀ out : Array Value, out.toList.Perm vs → P (.done (.ret .none)) { s with heap := sortedHeap s.heap a vs out }) :
    wpAny (model prog w) A (Builtin.«list.sort» ⟨[.ref a], []⟩) P E s :=
  SK.plain_sort (r := fun _ => 0) ho (by omega) (fun h2 Q hQ => absurd h2 (by omega)) fun ps out e1 e2 e3 => h out (TS.out_rank (r := fun _ => 0) e1 e2 e3).1
theorem sorted_short {prog : Program} {w : World} {A : Around} {E : Value → Shared → Prop} {s : Shared} {l : Addr} {vs : List Value} {Q : Value → Shared → Prop} (hl : s.heap.IsList l vs.toArray) (h1 : vs.length < 2)
    (h : ∀ out : Array Value, out.toList.Perm vs → Q (.ref (s.heap.objs.size + 1)) { s with heap := sortedAll s.heap vs out }) :
    wpAny (model prog w) A (call (.builtin "sorted") [.ref l]) Q E s := by
  refine Calls.call_function_entry kind_sorted plain_sorted entry_sorted (args_sorted1 _) ?_
  unfold Builtin.«sorted»
  refine wpAny_bind (m := checkCount "sorted" 1 1 _) (wpAny_pure ?_)
  refine wpAny_bind (collect_list hl ?_ (by rw [sizeLine_eq]; omega))
  refine wpAny_bind (wpAny_newList ?_ (by rw [sizeLine_eq]; omega))
  have hsz : ((s.heap.push (seqObj "list" #[] 0)).update s.heap.objs.size (Obj.mapSeq (· ++ vs.toArray))).objs.size = s.heap.objs.size + 1 := by
    rw [Heap.size_update, size_push']
  have hoL : (((s.heap.push (seqObj "list" #[] 0)).update s.heap.objs.size (Obj.mapSeq (· ++ vs.toArray))).push (seqObj "list" vs.toArray 0)).get? (s.heap.objs.size + 1) = some (seqObj "list" vs.toArray 0) := by
    rw [← hsz]; exact Heap.get?_push_size _ rfl
  show wpAny _ _ _ _ _ { s with heap := ((s.heap.push (seqObj "list" #[] 0)).update s.heap.objs.size (Obj.mapSeq (· ++ vs.toArray))).push (seqObj "list" vs.toArray 0) }
  rw [hsz]
  refine wpAny_bind (wpAny_holding (wpAny_call_entry slot_list_sort ⟨_, hoL, rfl⟩ entry_list_sort (sort_short hoL h1 fun out a1 => ⟨_, rfl, ?_⟩) (args_list_sort _)))
  exact wpAny_pure ⟨_, rfl, h out a1⟩
def rSortA (K : PySem.W.Frag) (B : Int) : List V → Hp → VK → Prop := fun vs H Q => (∃ d, 1 ≤ d ∧ rSortU K d B vs H Q) ∨
  ∃ (a : Addr) (xs : List V), vs = [V.ref a] ∧ SqL K H a xs ∧ xs.length < 2 ∧ (∀ x ∈ xs, ∃ t, x = .ref t) ∧ ∀ p, H p = none → Q (.ref p) (upd H p (.lst xs))
theorem perm_short {α : Type} {l m : List α} (h : l.Perm m) (h1 : m.length < 2) : l = m := by
  cases m with
  | nil => exact List.perm_nil.mp h
  | cons x r =>
    cases r with
    | nil => exact List.perm_singleton.mp h
    | cons y r => exact absurd h1 (by simp)
theorem cr_sortA {X : Cx} {B : Int} : CallR X (.builtin "sorted") (rSortA X.K B) := by
  intro pins s σ H vs us Q I r h
  rcases h with ⟨d, hd, h⟩ | ⟨a, xs, rfl, hs, h1, hx, q⟩
  · exact cr_sortT hd pins s σ H vs us Q I r h
  · obtain ⟨its, rv, hl, hz⟩ := I.list hs
    rw [Vals.ref1 r]
    obtain ⟨e1, e2⟩ := bkV_refs rv hx
    refine sorted_short hl.isList (by rw [← rv.length]; exact h1) fun out p1 => ?_
    · obtain ⟨ep, he'⟩ := PyProof.Rows.sortedAll_at s.heap its out
      have e9 : out.toList = its := perm_short p1 (by rw [← rv.length]; exact h1)
      refine ⟨.ref _, upd H (s.heap.objs.size + 1) (.lst xs), I.laid (t' := s.toks) (fun _ _ => PyProof.Rows.sortedAll_old) (Nat.le_succ _) ⟨hz, out.toList, ep, by rw [e9]; exact rv, he'⟩, rfl, q _ (I.hok.fresh (Nat.le_succ _))⟩
theorem walk_enumT {K : PySem.W.Frag} {a : Addr} {xs : List V} : Walk (Itet K a) xs.length (fun H => SqT K H a xs) (YPair (fun i => some (.int (i : Nat))) (fun i => xs[i]?)) := by
  refine ⟨fun i _ hi q => ⟨xs, xs[i], q, by simp [hi]⟩, fun _ q => ⟨xs, q, Nat.le_refl _⟩, fun i H v H' _ q y => ?_⟩
  obtain ⟨T, x, h1, h2, h3, h4⟩ := y
  exact ⟨T, .int (i : Nat), x, h1, h2, h3, rfl, h4 xs q⟩
end Ef
set_option maxHeartbeats 4000000
namespace Ef
open PySem PySem.Spec PyProof.Rows L2
/-! ### sorted(t) of a tuple of ints -/
section
variable {prog : Program} {w : World} {A : Around} {E : Value → Shared → Prop} {s : Shared}
theorem collect_tup {l : Addr} {vs : List Value} {Q : List Value → Shared → Prop} (hl : s.heap.IsTuple l vs.toArray) (hn : vs.length ≤ sizeLine)
    (h : Q vs { s with heap := (s.heap.push (seqObj "list" #[] 0)).update s.heap.objs.size (Obj.mapSeq (· ++ vs.toArray)) }) : wpAny (model prog w) A (collect (.ref l)) Q E s := by
  obtain ⟨o, ho, hc, n, hd⟩ := hl
  have h2 : (s.heap.push (seqObj "list" #[] 0)).get? l = some o := Heap.get?_push_of_some _ ho
  have h3 : (s.heap.push (seqObj "list" #[] 0)).get? s.heap.objs.size = some (seqObj "list" #[] 0) := Heap.get?_push_size _ rfl
  have h4 : ((#[] : Array Value) ++ vs.toArray).toList = vs := by simp
  have h5 : (#[] ++ vs.toArray).size ≤ sizeLine + 1 := by
    simp only [Array.size_append, List.size_toArray, List.length_nil]
    omega
  unfold collect
  refine wpAny_bind (wpAny_runValue (codeAny_builtin entry_proto_collect' (show wpAny _ _ (do again (.builtin "list.__iadd__" ⟨[← newList [], .ref l], []⟩)) _ _ s from ?_)))
  refine wpAny_bind (wpAny_newList (wpAny_pure ⟨Code.quiet_builtin _ (by decide +kernel), codeAny_builtin entry_list_iadd' (show wpAny _ _ (Builtin.List.listExtendWith (.ref s.heap.objs.size) (.ref l) (.ref s.heap.objs.size)) _ _ { s with heap := s.heap.push (seqObj "list" #[] 0) } from ?_)⟩))
  unfold Builtin.List.listExtendWith
  refine wpAny_bind (wpAny_typeOf (T := "tuple") ⟨o, h2, hc⟩ ?_)
  rw [if_pos (by rw [show (Value.type "tuple" == Value.type "tuple") = true from rfl]; simp)]
  refine wpAny_bind (listItems_at h2 hd (wpAny_bind (listItems_at (xs := #[]) (n := 0) h3 rfl ?_)))
  rw [if_neg (by simp)]
  refine wpAny_bind (listUpdate_at (xs := #[]) (n := 0) h3 rfl (wpAny_pure ?_) (Nat.zero_le _) h5)
  show wpAny (model prog w) A (do
      let o ← load s.heap.objs.size
      match o.data with
      | .seq ys _ => pure ys.toList
      | _ => unsupported "internal:collect") Q E { s with heap := (s.heap.push (seqObj "list" #[] 0)).update s.heap.objs.size (Obj.mapSeq (· ++ vs.toArray)) }
  refine wpAny_bind (wpAny_load (get?_update_seq h3 _) (show wpAny _ _ (pure ((#[] : Array Value) ++ vs.toArray).toList) Q E _ from ?_))
  rw [h4]
  exact wpAny_pure h
theorem sorted_tup {l : Addr} {vs : List Value} {ns : List Int} {Q : Value → Shared → Prop} (hl : s.heap.IsTuple l vs.toArray) (hI : IntsAre vs ns) (hn : vs.length < 64)
    (h : ∀ (out : Array Value) (ns' : List Int), IntsAre out.toList ns' → ns'.Perm ns → ns'.Pairwise (· ≤ ·) → Q (.ref (s.heap.objs.size + 1)) { s with heap := sortedAll s.heap vs out }) :
    wpAny (model prog w) A (call (.builtin "sorted") [.ref l]) Q E s := by
  refine Calls.call_function_entry kind_sorted plain_sorted entry_sorted (args_sorted1 (.ref l)) ?_
  unfold Builtin.«sorted»
  refine wpAny_bind (m := checkCount "sorted" 1 1 _) (wpAny_pure (wpAny_bind (collect_tup hl (by rw [sizeLine_eq]; omega) (wpAny_bind (wpAny_newList ?_ (by rw [sizeLine_eq]; omega))))))
  have z1 : ((s.heap.push (seqObj "list" #[] 0)).update s.heap.objs.size (Obj.mapSeq (· ++ vs.toArray))).objs.size = s.heap.objs.size + 1 := (Heap.size_update ..).trans (size_push' ..)
  have z2 := Heap.get?_push_size ((s.heap.push (seqObj "list" #[] 0)).update s.heap.objs.size (Obj.mapSeq (· ++ vs.toArray))) (o := seqObj "list" vs.toArray 0) rfl
  rw [z1] at z2
  show wpAny _ _ _ _ _ { s with heap := ((s.heap.push (seqObj "list" #[] 0)).update s.heap.objs.size (Obj.mapSeq (· ++ vs.toArray))).push (seqObj "list" vs.toArray 0) }
  rw [z1]
  refine wpAny_bind (wpAny_holding (wpAny_call_entry slot_list_sort ⟨_, z2, rfl⟩ entry_list_sort (list_sort_tree z2 hI hn fun out ns' a1 a2 a3 => ⟨_, rfl, wpAny_pure ⟨_, rfl, h out ns' a1 a2 a3⟩⟩) (args_list_sort _)))
end
def rSortTI (K : PySem.W.Frag) : List V → Hp → VK → Prop := fun vs H Q => ∃ (a : Addr) (ns : List Int), vs = [V.ref a] ∧ (SqL K H a (ns.map V.int) ∨ SqT K H a (ns.map V.int)) ∧ ns.length < 64 ∧
  ∀ (ns' : List Int) (p : Addr), ns'.Perm ns → ns'.Pairwise (· ≤ ·) → H p = none → Q (.ref p) (upd H p (.lst (ns'.map V.int)))
section
variable {X : Cx} (K : PySem.W.Frag)
theorem cr_sortTI (h : X.K = K := by rfl) : CallR X (.builtin "sorted") (rSortTI K) := by
  subst h
  intro pins s σ H vs us Q I r h
  obtain ⟨a, ns, rfl, hs | hs, h64, q⟩ := h
  · exact cr_sorted pins s σ H _ us Q I r ⟨a, ns, rfl, hs, h64, q⟩
  · obtain ⟨its, rv, hl, hz⟩ := I.tuple hs
    rw [Vals.ref1 r]
    have hi := rv.ints
    refine sorted_tup (show s.heap.IsTuple a its.toArray from hl) hi (by rw [hi.length]; exact h64) fun out ns' h1 h2 h3 => ?_
    obtain ⟨ep, he'⟩ := PyProof.Rows.sortedAll_at s.heap its out
    have hlen : (ns'.map V.int).length ≤ sizeLine := by
      rw [List.length_map, h2.length_eq]
      exact small64 h64
    exact ⟨.ref _, upd H (s.heap.objs.size + 1) (.lst (ns'.map V.int)), I.laid (t' := s.toks) (fun _ _ => PyProof.Rows.sortedAll_old) (Nat.le_succ _) ⟨hlen, out.toList, ep, vals_of_ints h1, he'⟩, rfl, q ns' _ h2 h3 (I.hok.fresh (Nat.le_succ _))⟩
end
end Ef
set_option maxHeartbeats 4000000
namespace Ef
open PySem PySem.Spec PyProof.Rows L2
/-! ### set(xs) of a list of ints -/
section
variable {P : Program} {w : World} {A : Around} {E : Value → Shared → Prop} {s : Shared}
/-- a new set -/
abbrev set0 (w : World) : Obj := { cls := .type "set", dict := none, data := .set #[] 0 (.fresh 0 0 (!w.params.followText "set-order")) }
theorem call_setL {l : Addr} {items : Array Value} (ns : List Int) {Q : Value → Shared → Prop} (hh : A.handled = none) (hl : s.heap.IsList l items) (hit : IntsAre items.toList ns) (hb : ns.length + 1 < scanBound)
    (h : ∀ (h' : Heap) (tk c : Nat), SetR w h' s.heap.objs.size (fun j => decide (j ∈ ns)) c → c ≤ ns.length → (∀ b o, s.heap.get? b = some o → h'.get? b = some o) → Q (.ref s.heap.objs.size) { s with heap := h', toks := tk }) :
    wpAny (model P w) A (call (.type "set") [.ref l]) Q E s := by
  have len : items.size = ns.length := by
    have q := IntsAre.length hit
    rw [Array.length_toList] at q
    exact q
  obtain ⟨mc, mt, y0⟩ := F.called_set.mro
  have y1 := F.called_set.made
  have y2 := F.called_set.sub
  have y3 := F.called_set.notType
  have y4 := F.called_set.canCreate
  have y5 := F.typeCall_set_1 (.ref l)
  have hS : (s.heap.push (set0 w)).get? s.heap.objs.size = some (set0 w) := Heap.get?_push_size _ rfl
  have hT : Shared.TypeIs { s with heap := s.heap.push (set0 w) } (.ref s.heap.objs.size) "set" := ⟨_, hS, rfl⟩
  have y6 := F.called_set.init.lookup
  have y7 := F.called_set.init.bind (.ref s.heap.objs.size)
  refine wpAny_call (codeAny_of_tree (show wpAny _ _ (callAny (.type "set") _) _ _ _ from wpAny_pure ⟨Code.quiet_builtin _ (by decide +kernel), codeAny_builtin F.entry_type_call ?_⟩))
  rw [Around.under_plain (weight_type_call_type "set" [.ref l] []) rfl]
  repeat any_goals first | assumption | wp_step
  refine codeAny_mono (code_set_led1 (.ref l) (E := E) (Q₁ := fun obj s₁ => obj = .ref s.heap.objs.size ∧ s₁ = { s with heap := s.heap.push (set0 w) }) ⟨rfl, rfl⟩) fun r s₁ hr => ?_
  cases r with
  | error e => exact hr
  | ok fl =>
    cases fl with
    | ret obj =>
      obtain ⟨rfl, rfl⟩ := hr
      repeat any_goals first | assumption | wp_step
      refine codeAny_mono (codeAny_call_builtin (R := wants (fun r s₂ => r = .none ∧ ∃ h' tk c, s₂ = { s with heap := h', toks := tk } ∧ SetR w h' s.heap.objs.size (fun j => decide (j ∈ ns)) c ∧ c ≤ ns.length ∧
          (∀ b o, s.heap.get? b = some o → h'.get? b = some o)) E) F.called_set.init.plain F.entry_set_init (check_set_init_1 hT ?_)) fun r₂ s₂ hr₂ => ?_
      · obtain ⟨⟨c1, c2, c3, c4⟩, hol, hcl, nl, hdl⟩ := hl
        simp only at hcl hdl
        subst hcl hdl
        have ho2 : (s.heap.push (set0 w)).get? l = some { cls := .type "list", dict := c2, data := .seq items nl, slots := c4 } := Heap.get?_push_of_some _ hol
        have z1 := F.sub_list_set
        have z2 := F.sub_list_frozenset
        have z3 : (Value.type "list" == Value.type "dict") = false := by decide
        have hl1 : (s.heap.push (set0 w)).IsList l items := ⟨_, ho2, rfl, nl, rfl⟩
        have lS : l < s.heap.objs.size := Heap.lt_size hol
        have sz : (s.heap.push (set0 w)).objs.size = s.heap.objs.size + 1 := Heap.size_push ..
        unfold Builtin.«set.__init__» noKeywords Builtin.Frozenset.updateFrom
        generalize hPI : pyIter = PI
        wp_walk
        subst hPI
        refine wpAny_pyIter_list hl1 (wpAny_bind (wpAny_runValue ?_))
        have h3 : A.in1.in1.in1.handled = none := by simp [hh]
        have ne1 : l ≠ (s.heap.push (set0 w)).objs.size := by
          rw [sz]
          exact Nat.ne_of_lt (Nat.lt_succ_of_lt lS)
        have nf : s.heap.objs.size ∉ [(s.heap.push (set0 w)).objs.size, l] := by
          rw [sz]
          simp only [List.mem_cons, List.not_mem_nil, or_false, not_or]
          exact ⟨Nat.ne_of_lt (Nat.lt_succ_self _), Nat.ne_of_gt lS⟩
        have val : ∀ (i : Nat) (v : Value), items[i]? = some v → ∃ k t, ns[i]? = some k ∧ v = .int k t := fun i v hv => by
          have hi : i < ns.length := by rw [← len]; exact (Array.getElem?_eq_some_iff.mp hv).1
          obtain ⟨t, e⟩ := PyProof.Rows.IntsAre.int_at hit i v (by rw [Array.getElem?_toList]; exact hv)
          refine ⟨ns[i], t, List.getElem?_eq_getElem hi, ?_⟩
          rw [e, List.getD_eq_getElem?_getD, List.getElem?_eq_getElem hi] <;> rfl
        refine set_update_ints ((Walks.list h3 _ l ne1 items).toS) s.heap.objs.size nf ns len hb val (items.size - 0) 0 _ (by omega) (Nat.zero_le _) ⟨⟨_, Heap.get?_push_size _ rfl, rfl, rfl⟩, (hl1.push _)⟩ ⟨0, Nat.le_refl 0, setR_new_at (Heap.get?_push_of_some _ hS)⟩ ?_
        intro s' c' hm hc' hS'
        obtain ⟨h', g2, d', tk', os'⟩ := s'
        have eg : g2 = s.gens := hm.gens
        have ed : d' = s.drawn := hm.drawn
        have eo : os' = s.os := hm.os
        subst eg ed eo
        rw [len] at hc'
        refine wpAny_pure (show wpAny _ _ (ret Value.none) _ _ _ from wpAny_pure ⟨rfl, h', tk', c', rfl, hS', hc', fun b o e => ?_⟩)
        have b0 : b < s.heap.objs.size := Heap.lt_size e
        refine hm.heap b o ?_ (Heap.get?_push_of_some _ (Heap.get?_push_of_some _ e))
        simp only [List.mem_cons, List.not_mem_nil, or_false, not_or]
        rw [sz]
        exact ⟨Nat.ne_of_lt b0, Nat.ne_of_lt (Nat.lt_succ_of_lt b0)⟩
      · cases r₂ with
        | error e => exact hr₂
        | ok fl₂ =>
          cases fl₂ with
          | ret r =>
            obtain ⟨rfl, h', tk, c', rfl, hS', hc', hk'⟩ := hr₂
            repeat any_goals first | assumption | wp_step
            exact h _ _ _ hS' hc' hk'
          | _ => exact hr₂.elim
    | _ => exact hr.elim
end
def rSetL (K : PySem.W.Frag) (w : World) : List V → Hp → VK → Prop := fun xs H Q => ∃ (l : Addr) (ns : List Int), xs = [.ref l] ∧ SqL K H l (ns.map V.int) ∧ ns.length ≤ 1000 ∧
    ∀ (p : Addr) (c : Nat), H p = none → c ≤ ns.length → Q (.ref p) (upd H p (SetO w p (fun j => decide (j ∈ ns)) c))
section
variable {X : Cx} (K : PySem.W.Frag) (w : World)
theorem cr_setL (hc : X.calm = true) (h : X.K = K := by rfl) (hw : X.w = w := by rfl) : CallR X (.type "set") (rSetL K w) := by
  subst h hw
  intro pins s σ H xs us Q I r h
  obtain ⟨l, ns, rfl, hq, hl, q⟩ := h
  obtain ⟨u, rfl, ru⟩ := vals1 r
  obtain rfl : u = Value.ref l := ru
  obtain ⟨its, rv, pt, hz⟩ := I.list hq
  refine call_setL ns (I.ok.hd hc) (show s.heap.IsList l its.toArray from pt.isList) (ints_of_vals rv) (by unfold scanBound; omega) fun h' tk c R1 hcn k => ?_
  exact ⟨.ref _, _, I.laid (t' := tk) k (Nat.le_refl _) (setO_new R1), rfl, q _ c (I.hok.fresh (Nat.le_refl _)) hcn⟩
end
end Ef
set_option maxHeartbeats 4000000
namespace Ef
open PySem PySem.Spec PyProof.Rows L2
open AutoSeq1 (wpAny_loadPart')
/-! ### list(reversed(range(..))) -/
section
variable {prog : Program} {w : World} {A : Around} {E : Value → Shared → Prop} {s : Shared} {I : Addr} {a c : Int} {n : Nat}
theorem hint_rit {x y z : Int} {Q : Value → Shared → Prop} (hi : IsRangeIter s.heap I x y z) (hb : 0 ≤ y ∧ y < 2 ^ 24)
    (h : ∀ u tk, s.toks ≤ tk → Q (.int y u) { s with toks := tk }) : wpAny (model prog w) A (call (.builtin "range_iterator.__length_hint__") [.ref I]) Q E s := by
  have hT : s.TypeIs (.ref I) "range_iterator" := ⟨_, hi, rfl⟩
  refine wpAny_call_entry F.slot_range_iterator_length_hint hT F.entry_range_iterator_length_hint ?_ (F.args_range_iterator_length_hint_1 _)
  obtain ⟨hp, g, d, tk, os⟩ := s
  wp_walk using wpAny_loadPart' hi
  exact ⟨_, rfl, h _ _ (Nat.le_succ _)⟩
theorem extend_rit {R : Result → Shared → Prop} (hh : A.handled = none) (hn : n < 2 ^ 24) (hit : IsRangeIter s.heap I (a + ((0 : Nat) : Int) * c) ((n : Int) - ((0 : Nat) : Int)) c) (S : Addr) (c₀ : Nat) (hSI : S ≠ I)
    (hS : s.heap.get? S = some { cls := .type "list", data := .seq #[] c₀ })
    (hR : ∀ h' tk acc' c', (∀ b o, b ≠ S → b ≠ I → s.heap.get? b = some o → h'.get? b = some o) → h'.get? S = some { cls := .type "list", dict := none, data := .seq acc' c', slots := #[] } →
      ItemsOf (fun i v => ∃ t, v = .int (a + i * c) t) acc' n → R (.ok (.ret .none)) { s with heap := h', toks := tk }) :
    wpAny (model prog w) A.in1 (Builtin.List.listExtendWith (.ref S) (.ref I) .none)
      (fun fin s' => match fin with | .done f => R (.ok f) s' | .again c' => c'.quiet = true ∧ codeAny (model prog w) A c' R s') (fun e s' => R (.error e) s') s := by
  have W := (Walks.range (prog := prog) (w := w) (A := A.in1) hh I a c n).toS
  have hSf : S ∉ [I] := fun hm => hSI (List.mem_singleton.mp hm)
  have hT : s.TypeIs (.ref I) "range_iterator" := ⟨_, hit, rfl⟩
  have z1 : Builtin.List.listSameRef (.ref S) (.ref I) = false := by simp [Builtin.List.listSameRef, hSI]
  unfold Builtin.List.listExtendWith
  refine wpAny_bind (wpAny_typeOf hT ?_)
  rw [if_neg (by rw [z1]; decide)]
  refine wpAny_bind (W.self 0 _ _ _ hit (wpAny_bind (wpAny_holding ?_)))
  unfold Builtin.List.listLengthHint
  refine wpAny_bind (wpAny_specialOf hT F.nolen_ra ?_)
  show wpAny _ A.in1 (specialOf (Value.ref I) (Str.ofString "__length_hint__") >>= _) _ _ _
  refine wpAny_bind (wpAny_specialOf hT F.hint_ra ?_)
  generalize hid : ("range_iterator.__length_hint__" : String) = id0
  wp_delta
  rw [show splitId id0 = some ("range_iterator", "__length_hint__") from by subst hid; decide +kernel]
  subst hid
  refine wpAny_bind (wpAny_isInstance (b := true) hT (by rw [isSubtype_type]; kernel_rfl) ?_)
  show wpAny _ A.in1 (call (.builtin "range_iterator.__length_hint__") [.ref I] >>= _) _ _ _
  have e0 : (n : Int) - ((0 : Nat) : Int) = (n : Int) := by omega
  refine wpAny_bind (hint_rit hit (by rw [e0]; omega) fun u tk htk => ?_)
  refine wpAny_bind (m := asInt? (.int _ u)) (wpAny_pure ?_)
  have z2 : Builtin.List.listTooLong (Int.toNat ((n : Int) - ((0 : Nat) : Int))) = false := by
    rw [e0]
    simp [Builtin.List.listTooLong, sizeLine]
    omega
  dsimp only
  rw [if_neg (by rw [z2]; decide)]
  refine wpAny_pure ?_
  rw [if_neg (by decide)]
  refine wpAny_pure ⟨plainId_quiet F.plain_extend_loop _, codeAny_extend_loopS W (by rw [sizeLine_eq]; omega) S hSf .none n 0 _ #[] c₀ rfl (Nat.zero_le _) hit hS (ItemsOf.nil _) fun s' acc' c' hm hS' hacc => ?_⟩
  rw [Moved.eq_with hm]
  refine hR s'.heap s'.toks acc' c' (fun b o hb hb2 e => hm.heap b o (fun hmem => ?_) e) hS' hacc
  rcases List.mem_cons.mp hmem with e' | hmem
  · exact hb e'
  · exact hb2 (List.mem_singleton.mp hmem)
theorem call_list_rit {Q : Value → Shared → Prop} (hh : A.handled = none) (hn : n < 2 ^ 24) (hit : IsRangeIter s.heap I (a + ((0 : Nat) : Int) * c) ((n : Int) - ((0 : Nat) : Int)) c)
    (hQ : ∀ h' tk acc' c', (∀ b o, b ≠ I → s.heap.get? b = some o → h'.get? b = some o) →
      h'.get? s.heap.objs.size = some { cls := .type "list", dict := none, data := .seq acc' c', slots := #[] } → ItemsOf (fun i v => ∃ t, v = .int (a + i * c) t) acc' n → Q (.ref s.heap.objs.size) { s with heap := h', toks := tk }) :
    wpAny (model prog w) A (call (.type "list") [.ref I]) Q E s := by
  have hIl : I < s.heap.objs.size := Heap.lt_size hit
  refine callType_codes (Q₁ := fun obj s₁ => obj = .ref s.heap.objs.size ∧ s₁ = { s with heap := s.heap.push { cls := .type "list", data := .seq #[] } }) F.called_list (F.typeCall_list_1 _) F.entry_list_init
    (code_list_new _ ⟨rfl, rfl⟩) fun obj s₁ h₁ => ?_
  obtain ⟨rfl, rfl⟩ := h₁
  have hS : (s.heap.push { cls := .type "list", data := .seq #[] }).get? s.heap.objs.size = some { cls := .type "list", data := .seq #[] } := Heap.get?_push_size _ rfl
  refine ⟨⟨_, hS, rfl⟩, F.args_list_init_2 _ _, ?_⟩
  show wpAny _ _ (do let old ← Builtin.List.listItems (.ref s.heap.objs.size); Builtin.List.listUpdate (.ref s.heap.objs.size) (fun _ => #[]); letGo old.toList.reverse; Builtin.List.listExtendWith (.ref s.heap.objs.size) (.ref I) .none) _ _ _
  refine wpAny_bind ?_
  unfold Builtin.List.listItems
  refine wpAny_bind (wpAny_seqItems hS rfl (wpAny_pure ?_))
  show wpAny _ _ (updateSeq s.heap.objs.size (fun _ => #[]) >>= fun _ => letGo (#[] : Array Value).toList.reverse >>= fun _ => Builtin.List.listExtendWith (.ref s.heap.objs.size) (.ref I) .none) _ _ _
  refine wpAny_bind (wpAny_updateSeq hS rfl ?_)
  have hS₂ := Heap.get?_update_self (Obj.mapSeq (fun _ => (#[] : Array Value))) hS rfl
  have oth : ∀ b o, b ≠ s.heap.objs.size → (s.heap.push { cls := .type "list", data := .seq #[] }).get? b = some o → ((s.heap.push { cls := .type "list", data := .seq #[] }).update s.heap.objs.size (Obj.mapSeq (fun _ => (#[] : Array Value)))).get? b = some o :=
    fun b o hb e => (Heap.get?_update_other _ _ (Ne.symm hb)).trans e
  refine wpAny_bind (wpAny_letGo ?_)
  refine extend_rit (A := A.in1) hh hn (oth I _ (Nat.ne_of_lt hIl) (Heap.get?_push_of_some _ hit)) s.heap.objs.size _ (Nat.ne_of_gt hIl) hS₂ fun h' tk acc' c' hk hS' hacc => ?_
  exact ⟨rfl, hQ h' tk acc' c' (fun b o hb e => hk b o (Nat.ne_of_lt (Heap.lt_size e)) hb (oth b o (Nat.ne_of_lt (Heap.lt_size e)) (Heap.get?_push_of_some _ e))) hS' hacc⟩
end
def tLstRev (te : L2.St → Hp → (Int → Int → Hp → Prop) → Prop) : TE := fun σ H Q => te σ H fun a b H1 => RgOk a b ∧ (b - a).toNat < 2 ^ 24 ∧ ∀ q, H1 q = none → Q (.ref q) (upd H1 q (.lst (rgV a b).reverse))
theorem rg_rev (a b : Int) : (rgV a b).reverse = (List.range (b - a).toNat).map fun i => V.int (a + (((b - a).toNat : Nat) : Int) - 1 + (i : Nat) * (-1)) := by
  unfold rgV
  refine List.ext_getElem (by simp) fun i h1 h2 => ?_
  rw [List.getElem_reverse, List.getElem_map, List.getElem_map, List.getElem_range, List.getElem_range, List.length_map, List.length_range]
  rw [List.length_map, List.length_range] at h2
  congr 1
  omega
theorem vals_of {f : Nat → Int} {acc : Array Value} {n : Nat} (h : ItemsOf (fun i v => ∃ t, v = .int (f i) t) acc n) : Vals ((List.range n).map fun i => V.int (f i)) acc.toList := by
  have e : acc.toList.length = n := by rw [Array.length_toList]; exact h.1
  rw [← e]
  refine vals_of_get acc.toList _ fun j u hj => ?_
  obtain ⟨t, rfl⟩ := h.2 j u (by rw [← hj, Array.getElem?_toList])
  exact ⟨t, rfl⟩
section
variable {X : Cx} {e : Expr} {te : L2.St → Hp → (Int → Int → Hp → Prop) → Prop}
theorem pe_listRev {p pos p2 pos2 : Pos} (hc : X.calm = true) (hg : Gl X "list") (hm : X.mg "list" = none) (hg2 : Gl X "reversed") (hm2 : X.mg "reversed" = none) (he : PRg X e te)
    (na : starEach [.Call (.Name "reversed" p2) [e] [] pos2] X.env = (false, eval (.Call (.Name "reversed" p2) [e] [] pos2) X.env) :: starEach [] X.env := by rfl) (nb : starEach [e] X.env = (false, eval e X.env) :: starEach [] X.env := by rfl) :
    PE X (.Call (.Name "list" p) [.Call (.Name "reversed" p2) [e] [] pos2] [] pos) (tLstRev te) := by
  refine ⟨fun pins s σ H Q I h => ?_⟩
  refine Call_ (ld_blt I hg hm boot_list (PyProof.Rows.callWith_type1 (args_cons (Call_ (ld_blt I hg2 hm2 PyProof.Rows.boot_reversed (PyProof.Rows.callWith_type1 (args_cons (thn (he pins s σ H _ I h) fun x s1 ⟨r, a, b, t, u, v, H1, ex, hr, I1, ok, hb, q⟩ => args_nil ?_) nb) nb rfl))) na) na))
  subst ex
  obtain ⟨b1, b2, b3, b4, b5⟩ := ok
  have hn : Builtin.Range.rangeSize a b 1 = (((b - a).toNat : Nat) : Int) := rangeSize_nat a b
  refine call_reversed_range hr (smallRev_one b1 b2 b3 b4) (args_nil ?_)
  have hit : IsRangeIter (s1.heap.push (rngRevObj a b 1)) s1.heap.objs.size (a + (((b - a).toNat : Nat) : Int) - 1 + ((0 : Nat) : Int) * (-1)) ((((b - a).toNat : Nat) : Int) - ((0 : Nat) : Int)) (-1) := by
    have e1 : a + (((b - a).toNat : Nat) : Int) - 1 + ((0 : Nat) : Int) * (-1) = a + (Builtin.Range.rangeSize a b 1 - 1) * 1 := by rw [hn]; omega
    have e2 : (((b - a).toNat : Nat) : Int) - ((0 : Nat) : Int) = Builtin.Range.rangeSize a b 1 := by rw [hn]; omega
    rw [e1, e2]
    exact Heap.get?_push_size _ rfl
  have hsz : (s1.heap.push (rngRevObj a b 1)).objs.size = s1.heap.objs.size + 1 := size_push' ..
  refine call_list_rit (I1.ok.hd hc) hb hit fun h' tk acc c' hk e' hi => ?_
  have kp : ∀ x o, s1.heap.get? x = some o → h'.get? x = some o := fun x o z => hk x o (Nat.ne_of_lt (Heap.lt_size z)) (Heap.get?_push_of_some _ z)
  have ei := rg_rev a b
  have hlen : ((rgV a b).reverse).length ≤ sizeLine := by
    rw [List.length_reverse, rgV_length, sizeLine_eq]
    omega
  show EP X pins σ Q (.ref (s1.heap.push (rngRevObj a b 1)).objs.size) _
  rw [hsz] at e' ⊢
  refine ⟨.ref (s1.heap.objs.size + 1), upd H1 (s1.heap.objs.size + 1) (.lst (rgV a b).reverse), I1.laid (t' := tk) kp (Nat.le_succ _) ⟨hlen, acc.toList, c', ?_, ?_⟩, rfl, q _ (I1.hok.fresh (Nat.le_succ _))⟩
  · rw [ei]
    exact vals_of hi
  · rw [Array.toArray_toList]
    exact e'
end
end Ef
set_option maxHeartbeats 4000000
namespace Ef
open PySem PySem.Spec PyProof.Rows L2
/-! ### list(range(i, j, c)) -/
def rgC (i c : Int) (n : Nat) : List V := (List.range n).map fun k => V.int (i + (k : Nat) * c)
def tLstRgC (ta : TA) : TE := fun σ H Q => ta σ H fun vs H1 => ∃ (i j c : Int) (n : Nat), vs = [.int i, .int j, .int c] ∧ RgC i j c n ∧ n ≤ 2 ^ 24 ∧ ∀ q, H1 q = none → Q (.ref q) (upd H1 q (.lst (rgC i c n)))
section
variable {X : Cx}
theorem pe_listRgC {a b c : Expr} {ta : TA} {p pos p2 pos2 : Pos} (hc : X.calm = true) (hg : Gl X "list") (hm : X.mg "list" = none) (hg2 : Gl X "range") (hm2 : X.mg "range" = none) (ha : PA X [a, b, c] ta)
    (n1 : starEach [a, b, c] X.env = (false, eval a X.env) :: starEach [b, c] X.env := by rfl) (n2 : (backTo pos2 (starEach [b, c] X.env)).any (·.1) = false := by rfl)
    (n3 : starEach [.Call (.Name "range" p2) [a, b, c] [] pos2] X.env = (false, eval (.Call (.Name "range" p2) [a, b, c] [] pos2) X.env) :: starEach [] X.env := by rfl) :
    PE X (.Call (.Name "list" p) [.Call (.Name "range" p2) [a, b, c] [] pos2] [] pos) (tLstRgC ta) := by
  refine ⟨fun pins s σ H Q I h => ?_⟩
  refine Call_ (ld_blt I hg hm boot_list (PyProof.Rows.callWith_type1 (args_cons (Call_ (ld_blt I hg2 hm2 boot_range ?_)) n3) n3))
  refine PyProof.Rows.callWith_type1 ?_ n1 n2
  refine thn (ha.run pos2 pins s σ H _ I h) ?_
  rintro us s1 ⟨vs, H1, I1, r1, q1⟩
  obtain ⟨i, j, k, n, ev, ⟨c0, c1, c2, c3⟩, hn, q⟩ := q1
  subst ev
  match us, r1 with
  | [_, _, _], .cons ⟨t1, e1⟩ (.cons ⟨t2, e2⟩ (.cons ⟨t3, e3⟩ .nil)) =>
    subst e1 e2 e3
    refine call_range_3 c0 (args_nil ?_) (.inl (PyProof.noPylong_small c1))
    have I2 : Inv X pins σ H1 { s1 with heap := s1.heap.push { cls := .type "range", data := .fields #[.int i t1, .int j t2, .int k t3] } } := I1.kept (t' := s1.toks) fun _ _ z => Heap.get?_push_of_some _ z
    refine call_list_range (n := n) (I2.ok.hd hc) (IsRange.new ..) c2 c3 hn fun h' tk acc c' hk e' hi => ?_
    refine ⟨.ref _, upd H1 _ (.lst (rgC i k n)), I2.laid hk (Nat.le_refl _) (show ObjOk X.prog X.w _ _ _ (.lst (rgC i k n)) from ⟨?_, acc.toList, c', vals_of hi, ?_⟩), rfl, q _ (I2.hok.fresh (Nat.le_refl _))⟩
    · unfold rgC
      rw [List.length_map, List.length_range, sizeLine_eq]
      omega
    · rw [Array.toArray_toList]
      exact e'
end
/-! ### list(reversed(xs)), xs a list -/
section
variable {prog : Program} {w : World} {A : Around} {E : Value → Shared → Prop} {s : Shared} {I l : Addr} {xs : Array Value}
theorem extend_rev {R : Result → Shared → Prop} (hh : A.handled = none) (hn : xs.size ≤ sizeLine) (hit : s.heap.IsRevIter I l ((xs.size : Int) - 1)) (hl : s.heap.IsList l xs) (hne : l ≠ I) (S : Addr) (c₀ : Nat) (hSI : S ≠ I) (hSl : S ≠ l)
    (hS : s.heap.get? S = some { cls := .type "list", data := .seq #[] c₀ })
    (hR : ∀ h' tk acc' c', (∀ b o, b ≠ S → b ≠ I → s.heap.get? b = some o → h'.get? b = some o) → h'.get? S = some { cls := .type "list", dict := none, data := .seq acc' c', slots := #[] } →
      ItemsOf (fun i v => xs[xs.size - 1 - i]? = some v) acc' xs.size → R (.ok (.ret .none)) { s with heap := h', toks := tk }) :
    wpAny (model prog w) A.in1 (Builtin.List.listExtendWith (.ref S) (.ref I) .none)
      (fun fin s' => match fin with | .done f => R (.ok f) s' | .again c' => c'.quiet = true ∧ codeAny (model prog w) A c' R s') (fun e s' => R (.error e) s') s := by
  have Wk := (Walks.listRev (prog := prog) (w := w) (A := A.in1) hh I l hne xs).toS
  have hSf : S ∉ [I, l] := by
    intro hm
    rcases List.mem_cons.mp hm with z | z
    · exact hSI z
    · exact hSl (List.mem_singleton.mp z)
  have hT : s.TypeIs (.ref I) "list_reverseiterator" := Heap.IsRevIter.typeIs hit
  have z1 : Builtin.List.listSameRef (.ref S) (.ref I) = false := by simp [Builtin.List.listSameRef, hSI]
  unfold Builtin.List.listExtendWith
  refine wpAny_bind (wpAny_typeOf hT ?_)
  rw [if_neg (by rw [z1]; decide)]
  refine wpAny_bind (wpAny_pyIter_revIter hit (wpAny_bind (wpAny_holding ?_)))
  unfold Builtin.List.listLengthHint
  refine wpAny_bind (wpAny_specialOf hT RT.nolen_lri ?_)
  show wpAny _ A.in1 (specialOf (Value.ref I) (Str.ofString "__length_hint__") >>= _) _ _ _
  refine wpAny_bind (wpAny_specialOf hT RT.hint_lri ?_)
  generalize hid : ("list_reverseiterator.__length_hint__" : String) = id1
  wp_delta
  rw [show splitId id1 = some ("list_reverseiterator", "__length_hint__") from by subst hid; decide +kernel]
  subst hid
  refine wpAny_bind (wpAny_isInstance (b := true) hT (by rw [isSubtype_type]; kernel_rfl) ?_)
  refine wpAny_pure ?_
  rw [if_neg (by decide)]
  have z0 : ((xs.size : Nat) : Int) - 1 - ((0 : Nat) : Int) = (xs.size : Int) - 1 := by omega
  refine wpAny_pure ⟨plainId_quiet F.plain_extend_loop _, codeAny_extend_loopS Wk hn S hSf .none xs.size 0 _ #[] c₀ rfl (Nat.zero_le _) ⟨Nat.zero_le _, by rw [z0]; exact hit, hl⟩ hS (ItemsOf.nil _) fun s' acc' c' hm hS' hacc => ?_⟩
  rw [Moved.eq_with hm]
  refine hR s'.heap s'.toks acc' c' (fun b o hb hb2 e => hm.heap b o (fun hmem => ?_) e) hS' hacc
  rcases List.mem_cons.mp hmem with z | hmem
  · exact hb z
  · exact hb2 (List.mem_singleton.mp hmem)
theorem call_list_rev {Q : Value → Shared → Prop} (hh : A.handled = none) (hn : xs.size ≤ sizeLine) (hit : s.heap.IsRevIter I l ((xs.size : Int) - 1)) (hl : s.heap.IsList l xs) (hne : l ≠ I)
    (hQ : ∀ h' tk acc' c', (∀ b o, b ≠ I → s.heap.get? b = some o → h'.get? b = some o) →
      h'.get? s.heap.objs.size = some { cls := .type "list", dict := none, data := .seq acc' c', slots := #[] } → ItemsOf (fun i v => xs[xs.size - 1 - i]? = some v) acc' xs.size → Q (.ref s.heap.objs.size) { s with heap := h', toks := tk }) :
    wpAny (model prog w) A (call (.type "list") [.ref I]) Q E s := by
  obtain ⟨oi, hoi, _⟩ := id hit
  obtain ⟨ol, hol, _⟩ := id hl
  have hIl := Heap.lt_size hoi
  have hll := Heap.lt_size hol
  refine callType_codes (Q₁ := fun obj s₁ => obj = .ref s.heap.objs.size ∧ s₁ = { s with heap := s.heap.push { cls := .type "list", data := .seq #[] } }) F.called_list (F.typeCall_list_1 _) F.entry_list_init
    (code_list_new _ ⟨rfl, rfl⟩) fun obj s₁ h₁ => ?_
  obtain ⟨rfl, rfl⟩ := h₁
  have hS : (s.heap.push { cls := .type "list", data := .seq #[] }).get? s.heap.objs.size = some { cls := .type "list", data := .seq #[] } := Heap.get?_push_size _ rfl
  refine ⟨⟨_, hS, rfl⟩, F.args_list_init_2 _ _, ?_⟩
  show wpAny _ _ (do let old ← Builtin.List.listItems (.ref s.heap.objs.size); Builtin.List.listUpdate (.ref s.heap.objs.size) (fun _ => #[]); letGo old.toList.reverse; Builtin.List.listExtendWith (.ref s.heap.objs.size) (.ref I) .none) _ _ _
  refine wpAny_bind ?_
  unfold Builtin.List.listItems
  refine wpAny_bind (wpAny_seqItems hS rfl (wpAny_pure ?_))
  show wpAny _ _ (updateSeq s.heap.objs.size (fun _ => #[]) >>= fun _ => letGo (#[] : Array Value).toList.reverse >>= fun _ => Builtin.List.listExtendWith (.ref s.heap.objs.size) (.ref I) .none) _ _ _
  refine wpAny_bind (wpAny_updateSeq hS rfl ?_)
  have hS₂ := Heap.get?_update_self (Obj.mapSeq (fun _ => (#[] : Array Value))) hS rfl
  have oth : ∀ b o, b ≠ s.heap.objs.size → (s.heap.push { cls := .type "list", data := .seq #[] }).get? b = some o → ((s.heap.push { cls := .type "list", data := .seq #[] }).update s.heap.objs.size (Obj.mapSeq (fun _ => (#[] : Array Value)))).get? b = some o :=
    fun b o hb e => (Heap.get?_update_other _ _ (Ne.symm hb)).trans e
  refine wpAny_bind (wpAny_letGo ?_)
  have kp : ∀ b o, s.heap.get? b = some o → ((s.heap.push { cls := .type "list", data := .seq #[] }).update s.heap.objs.size (Obj.mapSeq (fun _ => (#[] : Array Value)))).get? b = some o := fun b o e => oth b o (Nat.ne_of_lt (Heap.lt_size e)) (Heap.get?_push_of_some _ e)
  refine extend_rev (A := A.in1) hh hn (hit.at fun o e => kp _ o e) (hl.at fun o e => kp _ o e) hne s.heap.objs.size _ (Nat.ne_of_gt hIl) (Nat.ne_of_gt hll) hS₂ fun h' tk acc' c' hk hS' hacc => ?_
  exact ⟨rfl, hQ h' tk acc' c' (fun b o hb e => hk b o (Nat.ne_of_lt (Heap.lt_size e)) hb (kp b o e)) hS' hacc⟩
end
def tLstRevL (K : PySem.W.Frag) (te : TE) : TE := fun σ H Q => te σ H fun v H1 => ∃ (a : Addr) (xs : List V), v = .ref a ∧ SqL K H1 a xs ∧ ∀ q, H1 q = none → Q (.ref q) (upd H1 q (.lst xs.reverse))
section
variable {X : Cx}
theorem pe_listRevL {e : Expr} {te : TE} {p p2 pos pos2 : Pos} (hc : X.calm = true) (hg : Gl X "list") (hm : X.mg "list" = none) (hg2 : Gl X "reversed") (hm2 : X.mg "reversed" = none) (he : PE X e te)
    (hs : starEach [e] X.env = (false, eval e X.env) :: starEach [] X.env := by rfl)
    (hs2 : starEach [.Call (.Name "reversed" p2) [e] [] pos2] X.env = (false, eval (.Call (.Name "reversed" p2) [e] [] pos2) X.env) :: starEach [] X.env := by rfl) :
    PE X (.Call (.Name "list" p) [.Call (.Name "reversed" p2) [e] [] pos2] [] pos) (tLstRevL X.K te) := by
  refine ⟨fun pins s σ H Q I h => ?_⟩
  refine Call_ (ld_blt I hg hm boot_list (PyProof.Rows.callWith_type1 (args_cons (Call_ (ld_blt I hg2 hm2 PyProof.Rows.boot_reversed (PyProof.Rows.callWith_type1 (args_cons (thn (he.run pins s σ H _ I h) fun u s1 ⟨v, H1, I1, r1, q1⟩ => args_nil ?_) hs) hs rfl))) hs2) hs2 rfl))
  obtain ⟨a, xs, ev, hq, q⟩ := q1
  subst ev
  obtain rfl : u = Value.ref a := r1
  obtain ⟨its, rv, pl, hz⟩ := I1.list hq
  refine call_reversed_list pl.isList (args_nil ?_)
  have I2 : Inv X pins σ H1 { s1 with heap := s1.heap.push (revObj a ((its.toArray.size : Int) - 1)) } := I1.kept (t' := s1.toks) fun b o z => Heap.get?_push_of_some _ z
  obtain ⟨f0, f1, f2, f3, f4, f5⟩ := I1.fpOk (H' := H1) (b := s1.heap.objs.size) (Nat.le_refl _) (I1.hok.fresh (Nat.le_refl _))
  have hl := pl.isList
  obtain ⟨ol, hol, _⟩ := id hl
  have hsz : (s1.heap.push (revObj a ((its.toArray.size : Int) - 1))).objs.size = s1.heap.objs.size + 1 := size_push' ..
  refine call_list_rev (s := { s1 with heap := s1.heap.push (revObj a ((its.toArray.size : Int) - 1)) }) (I1.ok.hd hc) (by rw [List.size_toArray, ← rv.length]; exact hz) ⟨_, Heap.get?_push_size _ rfl, rfl, rfl⟩ (hl.push _) (Nat.ne_of_lt (Heap.lt_size hol)) fun h' tk acc c' hk e' hi => ?_
  have I3 : Inv X pins σ H1 { s1 with heap := h', toks := tk } := I2.turned (t' := tk) (fun b o hb z => hk b o hb z) f0 f1 f3 f4 f5
  have kp : ∀ b o, s1.heap.get? b = some o → h'.get? b = some o := fun b o z => hk b o (Nat.ne_of_lt (Heap.lt_size z)) (Heap.get?_push_of_some _ z)
  show EP X pins σ Q (.ref (s1.heap.push (revObj a ((its.toArray.size : Int) - 1))).objs.size) _
  rw [hsz]
  have e2 : h'.get? (s1.heap.objs.size + 1) = some { cls := .type "list", dict := none, data := .seq acc c', slots := #[] } := by
    rw [← hsz]
    exact e'
  refine ⟨.ref (s1.heap.objs.size + 1), upd H1 (s1.heap.objs.size + 1) (.lst xs.reverse), I1.laid (t' := tk) kp (Nat.le_succ _) ⟨by rw [List.length_reverse]; exact hz, acc.toList, c', RT.vals_rev rv hi, ?_⟩, rfl, q _ (I1.hok.fresh (Nat.le_succ _))⟩
  rw [Array.toArray_toList]
  exact e2
end
end Ef
namespace Ef
open PySem PySem.Spec PyProof.Rows L2
/-! ### repr of a list of one value of any sort -/
section
variable {X : Cx} {es : List Expr} {t : TA} {pos : Pos}
def tLstN (t : TA) : TE := fun σ H Q => t σ H fun xs H1 => xs.length ≤ sizeLine ∧ ∀ p, H1 p = none → p ≠ sysModules → Q (.ref p) (upd H1 p (.lst xs))
theorem far_new {pins : List (Addr × Obj)} {σ : L2.St} {H : Hp} {s : Shared} (I : Inv X pins σ H s) : s.heap.objs.size ≠ sysModules := by
  obtain ⟨mc, h1, _⟩ := I.nolimit
  have h2 : cStatics < s.heap.objs.size := h1.lt
  have h3 : (2 : Nat) < s.heap.objs.size := h2
  show ¬ s.heap.objs.size = 1
  omega
theorem pe_lstN (h : PA X es t) : PE X (.List es pos) (tLstN t) := by
  refine ⟨fun pins s σ H Q I hq => ?_⟩
  refine wpAny_List_spliced (thn (h.run pos pins s σ H _ I hq) fun us s1 ⟨xs, H1, I1, r, z, q⟩ => ⟨by rw [← r.length]; exact z, ?_⟩)
  have hf : H1 s1.heap.objs.size = none := I1.hok.fresh (Nat.le_refl _)
  refine ⟨.ref s1.heap.objs.size, upd H1 s1.heap.objs.size (.lst xs), I1.laid (t' := s1.toks) (fun b u e => Heap.get?_push_of_some _ e) (Nat.le_refl _) ?_, rfl, q _ hf (far_new I1)⟩
  exact ⟨z, us, 0, r, Heap.get?_push_size _ rfl⟩
end
/-- data that is not deep, or an empty dict -/
def ItemS (K : PySem.W.Frag) (H : Hp) (v : V) (d : PyData) : Prop := (Dp K H v d ∧ Sh 50 70000 d) ∨ (d = .dict [] ∧ ∃ p, v = .ref p ∧ H p = some (.dK []))
theorem ItemS.mono {K : PySem.W.Frag} {H H' : Hp} {v : V} {d : PyData} (s : Same H H') (h : ItemS K H v d) : ItemS K H' v d := by
  rcases h with ⟨h, h2⟩ | ⟨e, p, e2, h⟩
  · exact .inl ⟨Dp.mono s h, h2⟩
  · exact .inr ⟨e, p, e2, s _ _ h⟩
def rReprL (K : PySem.W.Frag) : List V → Hp → VK → Prop := fun xs H Q => ∃ l v d, xs = [.ref l] ∧ H l = some (.lst [v]) ∧ l ≠ sysModules ∧ ItemS K H v d ∧ Q (.str (PyData.list [d]).shown) H
section
variable {X : Cx} (K : PySem.W.Frag)
theorem call_reprL (gd : X.A.guards = some []) (hu : X.A.units + 66 < cLine) (h : X.K = K := by rfl) : CallR X (.builtin "repr") (rReprL K) := by
  subst h
  intro pins s σ H xs us Q I r h
  obtain ⟨l, v, d, rfl, hl, hne, hI, q⟩ := h
  rcases hI with ⟨hD, hS⟩ | ⟨rfl, p, rfl, hp⟩
  · refine call_reprD gd hu pins s σ H _ us Q I r ⟨.ref l, .list [d], rfl, .lst (SqL.of hl) (.cons hD .nil), ?_, q⟩
    exact (Sh.lst (ShAll.cons hS (ShAll.nil.mono (Nat.zero_le 50) (Nat.zero_le 0)))).mono (by decide) (by decide)
  · obtain ⟨u, rfl, ru⟩ := vals1 r
    obtain rfl : u = Value.ref l := ru
    obtain ⟨_, hsys, vs, kv, o, es, ep, ho, hx, hd, hk, hpr, hn⟩ := dk_of I.hok hp
    have e1 : vs = [] := by
      cases kv
      rfl
    subst e1
    have e2 : es.toList = [] := by
      generalize es.toList = l at hpr ⊢
      cases hpr
      rfl
    have rd : Reads s.heap (.ref p) (.dict []) (p :: [] ++ []) := by
      refine .dict ho hx.1 hd ?_ ?_
      · rw [e2]
        exact .nil
      · rw [e2]
        exact .nil
    obtain ⟨its, rv, ⟨ol, nl, g1, g2, g3, g4⟩, hz⟩ := I.list (SqL.of hl)
    obtain ⟨u, rfl, ru⟩ := vals1 rv
    obtain rfl : u = Value.ref p := ru
    have dep : PyData.depth (.list [.dict []]) ≤ 3 := by decide
    have rdl : Reads s.heap (.ref l) (.list [.dict []]) (l :: ((p :: [] ++ []) ++ [])) := .list g1 g2 (by first | exact g3 | exact g4) (.cons rd .nil)
    refine repr_of_reads' rdl rfl (fun _ hm => ?_) gd (by omega) (fun _ _ e => e) (fun h' u tk hk => ?_) (by decide +kernel)
    · have e3 : sysModules = l ∨ sysModules = p := by simpa using hm
      rcases e3 with e3 | e3
      · exact hne e3.symm
      · rw [← e3] at hsys
        exact absurd hsys (by simp)
    · exact ⟨.str _, H, I.kept hk, ⟨u, rfl⟩, q⟩
end
section
variable {X : Cx} (K : PySem.W.Frag)
theorem cr_allK (hc : X.calm = true := by rfl) (h : X.K = K := by rfl) : CallR X (.builtin "all") (rAll K) := h ▸ cr_all hc
end
end Ef
namespace Ef
open PySem PySem.Spec PyProof.Rows L2
/-! ### data: equal to itself, shown -/
theorem neD_same {K : PySem.W.Frag} {H : Hp} {x y : V} {d : PyData} {Q : VK} (hx : Dp K H x d) (hy : Dp K H y d) (s : Sh 60 80000 d) (q : Q (.bl false) H) : rNeD K x y H Q := by
  refine ⟨d, d, hx, hy, s.shaped (by decide), s.shaped (by decide), ?_⟩
  rw [SeqAt.eqv_refl d s.can]
  exact q
theorem eqD_same {K : PySem.W.Frag} {H : Hp} {x y : V} {d : PyData} {Q : VK} (hx : Dp K H x d) (hy : Dp K H y d) (s : Sh 60 80000 d) (q : Q (.bl true) H) : rEqD K x y H Q := by
  refine ⟨d, d, hx, hy, s.shaped (by decide), s.shaped (by decide), ?_⟩
  rw [SeqAt.eqv_refl d s.can]
  exact q
/-- numbers as data -/
def natD (ms : List Nat) : List PyData := ms.map fun (m : Nat) => PyData.int (m : Int)
theorem sh_nat {ms : List Nat} {b : Nat} (h0 : 0 < b) (h6 : b ≤ 600) (h : ∀ x ∈ ms, x < 2 ^ b) : ShAll 0 ((b + 1) * ms.length) (natD ms) := by
  have e : natD ms = (ms.map fun (m : Nat) => (m : Int)).map PyData.int := by
    unfold natD
    rw [List.map_map]
    rfl
  rw [e]
  have h1 := ShAll.ints h0 h6 (ns := ms.map fun (m : Nat) => (m : Int)) fun x hx => by
    obtain ⟨m, hm, rfl⟩ := List.mem_map.mp hx
    exact h m hm
  rw [List.length_map] at h1
  exact h1
theorem sh_list {ms : List Nat} (hl : ms.length ≤ 60) (h : ∀ x ∈ ms, x < 60) : Sh 1 500 (.tuple (natD ms)) := by
  have h1 := sh_nat (b := 6) (by decide) (by decide) (ms := ms) fun x hx => by
    have := h x hx
    omega
  exact Sh.tup (h1.mono (by decide) (by omega))
end Ef
set_option maxHeartbeats 4000000
namespace Ef
open PySem PySem.Spec PyProof.Rows L2 PySem.NumText TL
/-! ### numbers as they are written in texts -/
def zeroS : Str := "0"
/-- a whole number as it is written: at most forty digits, none in front that is not needed -/
def headS (x : Str) : Str := match x.cps.toList with
  | c :: _ => ⟨#[c]⟩
  | [] => x
def numW (x : Str) : Bool := decide (x.length ≤ 40) && Txt.isascii x && Txt.isdigit x && (decide (x = zeroS) || !decide (headS x = zeroS))
def valW (x : Str) : Nat := digitsVal x.cps.toList
theorem dig_ascii : ∀ c : Nat, c < 128 → Unicode.isDigit c = true → 48 ≤ c ∧ c ≤ 57 := by decide +kernel
theorem dig_back : ∀ c : Nat, 48 ≤ c → c ≤ 57 → Unicode.isDigit c = true := by
  intro c h1 h2
  have key : ∀ d : Fin 10, Unicode.isDigit (48 + d.val) = true := by decide +kernel
  have := key ⟨c - 48, by omega⟩
  rw [show 48 + (c - 48) = c by omega] at this
  exact this
theorem numW_digits {x : Str} (h : numW x = true) : AllDigits x.cps.toList ∧ x.cps.toList ≠ [] ∧ x.length ≤ 40 := by
  unfold numW at h
  rw [Bool.and_eq_true, Bool.and_eq_true, Bool.and_eq_true] at h
  obtain ⟨⟨⟨h1, h2⟩, h3⟩, _⟩ := h
  have h1 := of_decide_eq_true h1
  unfold Txt.isascii at h2
  unfold Txt.isdigit at h3
  rw [Bool.and_eq_true] at h3
  obtain ⟨h3, h4⟩ := h3
  rw [← Array.all_toList, List.all_eq_true] at h2 h4
  refine ⟨fun c hc => dig_ascii c (of_decide_eq_true (h2 c hc)) (h4 c hc), fun e => ?_, h1⟩
  have h3 := of_decide_eq_true h3
  have : x.length = x.cps.toList.length := rfl
  rw [this, e] at h3
  exact absurd h3 (by decide)
theorem numW_int {x : Str} (h : numW x = true) : intText? x = some ((valW x : Nat) : Int) := by
  obtain ⟨h1, h2, h3⟩ := numW_digits h
  exact intText_digits h1 h2 (by omega)
/-- the text of a whole number -/
def natS (n : Nat) : Str := Str.ofString (toString ((n : Nat) : Int))
theorem natS_signs (n : Nat) : (natS n).cps.toList = numL n := tl_num n
theorem natS_val (n : Nat) : valW (natS n) = n := by
  unfold valW
  rw [natS_signs, numL_val]
theorem natS_len {n k : Nat} (hk : 0 < k) (h : n < 10 ^ k) : (natS n).length ≤ k := by
  have : (natS n).length = (natS n).cps.toList.length := rfl
  rw [this, natS_signs]
  exact numL_len hk h
theorem numL_head : ∀ {n : Nat}, n ≠ 0 → (numL n).head? ≠ some 48 := by
  intro n
  induction n using Nat.strongRecOn with
  | _ n ih =>
    intro h
    by_cases c : n < 10
    · rw [numL_lt c]
      intro e
      have := Option.some.inj e
      omega
    · rw [numL_step (by omega)]
      have h2 := ih (n / 10) (by omega) (by omega)
      intro e
      refine h2 ?_
      cases q : numL (n / 10) with
      | nil => exact absurd q (numL_ne _)
      | cons d r =>
        rw [q] at e
        exact e
theorem natS_num {n : Nat} (h : n < 10 ^ 40) : numW (natS n) = true := by
  have hl := natS_len (n := n) (k := 40) (by decide) h
  have hd : AllDigits (natS n).cps.toList := by rw [natS_signs]; exact numL_digits n
  have hne : (natS n).cps.toList ≠ [] := by rw [natS_signs]; exact numL_ne n
  unfold numW
  rw [decide_eq_true hl, Bool.true_and]
  have ha : Txt.isascii (natS n) = true := by
    unfold Txt.isascii
    rw [← Array.all_toList, List.all_eq_true]
    exact fun c hc => decide_eq_true (by have := hd c hc; omega)
  have hg : Txt.isdigit (natS n) = true := by
    unfold Txt.isdigit
    rw [Bool.and_eq_true]
    refine ⟨decide_eq_true ?_, ?_⟩
    · have : (natS n).length = (natS n).cps.toList.length := rfl
      rw [this]
      exact List.length_pos_iff.mpr hne
    · rw [← Array.all_toList, List.all_eq_true]
      exact fun c hc => dig_back c (hd c hc).1 (hd c hc).2
  rw [ha, hg, Bool.true_and, Bool.true_and]
  by_cases c : n = 0
  · subst c
    decide +kernel
  · have key : (natS n).cps.toList.head? ≠ some 48 := by
      rw [natS_signs]
      exact numL_head c
    have : ¬ headS (natS n) = zeroS := fun e => by
      unfold headS at e
      split at e
      · rename_i d r hr
        rw [hr] at key
        have e2 : (⟨#[d]⟩ : Str) = ⟨#[48]⟩ := e
        injection e2 with e2
        have e3 : d = 48 := by simpa using e2
        exact key (by rw [e3]; rfl)
      · rename_i hr
        exact hne hr
    rw [decide_eq_false this, Bool.not_false, Bool.or_true]
/-- a text of numbers with one blank between them -/
def blankS : Str := " "
def lineS : Str := "\n"
theorem joinL_mem {S p : List Nat} : ∀ {parts : List (List Nat)}, p ∈ parts → p.length ≤ (joinL S parts).length
  | [], h => absurd h List.not_mem_nil
  | [q], h => by
    rw [List.mem_singleton.mp h]
    exact Nat.le_refl _
  | q :: q2 :: r, h => by
    show p.length ≤ (q ++ (S ++ joinL S (q2 :: r))).length
    rw [List.length_append, List.length_append]
    rcases List.mem_cons.mp h with rfl | h
    · omega
    · have := joinL_mem (S := S) h
      omega
theorem split_part {x y p : Str} (h : p ∈ Txt.split x y) : p.length ≤ x.length := by
  have e := congrArg tl (StrLaws.join_split x y)
  rw [tl_join] at e
  have h2 := joinL_mem (S := tl y) (List.mem_map.mpr ⟨p, h, rfl⟩ : tl p ∈ (Txt.split x y).map tl)
  rw [e] at h2
  exact h2
theorem blank_mk : blankS = ⟨#[32]⟩ := by decide +kernel
theorem line_mk : lineS = ⟨#[10]⟩ := by decide +kernel
theorem split_some (x y : Str) : 1 ≤ (Txt.split x y).length := by
  unfold Txt.split
  split
  · exact Nat.le_refl _
  · split
    · exact Nat.le_refl _
    · rw [length_partsBetween]
      omega
theorem split_blank (x : Str) : 1 ≤ (Txt.split x blankS).length := split_some _ _
theorem split_line (x : Str) : 1 ≤ (Txt.split x lineS).length := split_some _ _
/-- so many numbers behind a name, in a row -/
def fieldsW (row name : Str) (many : Nat) : Option (List Nat) :=
  if (Txt.split row blankS).head? = some name ∧ (Txt.split row blankS).length = many + 1 ∧ (Txt.split row blankS).tail.all numW = true then some ((Txt.split row blankS).tail.map valW) else none
/-! str of an int or a text -/
def rStrE : List V → Hp → VK → Prop := fun xs H Q => (∃ i : Int, xs = [.int i] ∧ i.natAbs.log2 < 1920 ∧ Q (.str (toString i)) H) ∨ ∃ a : Str, xs = [.str a] ∧ Q (.str a) H
theorem call_strE {X : Cx} : CallR X (.type "str") rStrE := by
  intro pins s σ H xs us Q I r h
  rcases h with h | h
  · exact call_str_int pins s σ H xs us Q I r h
  · exact SkE.call_str_str pins s σ H xs us Q I r h
/-- a word of a row: a text, or a number as it is written -/
def WordV (v : V) (w : Str) : Prop := v = .str w ∨ ∃ k : Nat, v = .int (k : Int) ∧ k < 2 ^ 1000 ∧ w = natS k
theorem WordV.str {v : V} {w : Str} {H : Hp} {Q : VK} (h : WordV v w) (q : Q (.str w) H) : rStrE [v] H Q := by
  rcases h with rfl | ⟨k, rfl, hk, rfl⟩
  · exact .inr ⟨w, rfl, q⟩
  · refine .inl ⟨k, rfl, ?_, q⟩
    rw [Int.natAbs_natCast]
    by_cases c : k = 0
    · rw [c]; decide
    · exact Nat.lt_of_lt_of_le ((Nat.log2_lt c).mpr hk) (by decide)
theorem joinL_len (S : List Nat) : ∀ parts : List (List Nat), (joinL S parts).length ≤ (parts.map List.length).sum + parts.length * S.length
  | [] => Nat.zero_le _
  | [p] => by
    show p.length ≤ p.length + 0 + 1 * S.length
    omega
  | p :: q :: r => by
    have ih := joinL_len S (q :: r)
    show (p ++ (S ++ joinL S (q :: r))).length ≤ p.length + ((q :: r).map List.length).sum + ((q :: r).length + 1) * S.length
    rw [List.length_append, List.length_append, Nat.add_mul]
    omega
theorem join_len (y : Str) (parts : List Str) : (Txt.join y parts).length ≤ (parts.map (·.length)).sum + parts.length * y.length := by
  have h := joinL_len (tl y) (parts.map tl)
  rw [← tl_join, ← join_eq, List.map_map, List.length_map] at h
  exact h
theorem sum_le {α : Type} {f : α → Nat} {b : Nat} : ∀ {l : List α}, (∀ x ∈ l, f x ≤ b) → (l.map f).sum ≤ l.length * b
  | [], _ => Nat.zero_le _
  | x :: r, h => by
    have h1 := h x List.mem_cons_self
    have h2 := sum_le (l := r) fun y hy => h y (List.mem_cons_of_mem _ hy)
    rw [List.map_cons, List.sum_cons, List.length_cons, Nat.add_mul]
    omega
/-! sep.join(xs) inside a comprehension -/
def rJoinK (K : PySem.W.Frag) : V → List V → Hp → VK → Prop := fun x xs H Q => ∃ a p, ∃ ys : List Str, x = .str a ∧ xs = [.ref p] ∧ (SqL K H p (ys.map V.str) ∨ SqT K H p (ys.map V.str)) ∧ (ys.map (·.length)).sum + ys.length * a.length ≤ 16777216 ∧ Q (.str (Txt.join a ys)) H
theorem mt_joinK {X : Cx} (K : PySem.W.Frag) (h : X.K = K := by rfl) : MtR X "str.join" (rJoinK K) := h ▸ mt_join
theorem pe_joinK {X : Cx} (K : PySem.W.Frag) {o e : Expr} {to te : TE} {apos pos : Pos} (ho : PE X o to) (he : PE X e te) (hk : X.K = K := by rfl) (hs : starEach [e] X.env = [(false, eval e X.env)] := by rfl) (hbase : attributeBase o "join" X.env (eval o X.env) = eval o X.env := by rfl) (hline : (apos.endLine == pos.line) = true := by rfl) :
    PE X (.Call (.Attribute o "join" apos) [e] [] pos) (tM1 (rJoinK K) to te) := pe_m1 F.slot_str_join F.type_str_join (mt_joinK K hk) ho he hs hbase hline
end Ef
set_option maxHeartbeats 4000000
namespace Ef
open PySem PySem.Spec PyProof.Rows L2
/-! ### x in l, l.index(x), l.count(x) where items are data -/
def rCntD (K : PySem.W.Frag) : V → List V → Hp → VK → Prop := fun x xs H Q => ∃ (a : Addr) (y : V) (d : PyData) (ds : List PyData), x = V.ref a ∧ xs = [y] ∧ Dp K H (V.ref a) (.list ds) ∧ Dp K H y d ∧
  SeqAt.shaped (.list ds) = true ∧ SeqAt.shaped d = true ∧ Q (.int (ds.countP (fun z => PyData.eqv z d) : Nat)) H
theorem mt_countD {X : Cx} (hu : X.A.units + 65 < cLine) : MtR X "list.count" (rCntD X.K) := by
  intro pins s σ H x xs v us Q I rx rxs h
  obtain ⟨a, y, d, ds, rfl, rfl, hl, hy, sl, sd, q⟩ := h
  cases rx
  cases rxs with
  | cons ry rt =>
    rename_i uy ut
    cases rt
    obtain ⟨bs, r1⟩ := Dp.reads I d y uy hy ry
    have hxs : PyData.canLayAll0 ds = true := SeqAt.canLay_of_shaped sl
    have hroom : X.A.units + 1 + min (PyData.depthAll ds) d.depth < cLine := room_in_shaped sd hu
    cases hl with
    | lst hs ha =>
      obtain ⟨its, rv, ⟨⟨cls, dd, data, sls⟩, n, ho, hc, hdn, hdt⟩, hlen⟩ := I.list hs
      simp only at hc hdt
      subst hc hdt
      obtain ⟨as, h4⟩ := Dp.readsAll I ds _ its ha rv
      have hmap : its.map (SeqAt.readOf s.heap) = ds := SeqAt.readsAll_map ds its as hxs h4
      refine call_meets PySem.F.slot_list_count ⟨_, ho, rfl⟩ PySem.F.entry_list_count (PySem.F.args_list_count_2 _ _)
        (SeqAt.list_countAt a its.toArray n dd sls uy (fun u => PyData.eqv (SeqAt.readOf s.heap u) d)) ⟨ho, SeqAt.items_eqAt (vs := its.toArray) (show ReadsAll s.heap its.toArray.toList ds as from h4) r1 hxs (SeqAt.canLay_of_shaped sd) hroom, ?_⟩
      refine ⟨.int (ds.countP (fun z => PyData.eqv z d) : Nat), H, I.tok _, ⟨s.toks, ?_⟩, q⟩
      show Value.int ((its.toArray.toList.countP (fun u => PyData.eqv (SeqAt.readOf s.heap u) d) : Nat) : Int) s.toks = _
      rw [← hmap, List.countP_map]
      rfl
theorem op_inDK {X : Cx} (K : PySem.W.Frag) (hu : X.A.units + 65 < cLine) (h : X.K = K := by rfl) : OpR X (compareOp .In) (rInD K) := h ▸ op_inD hu
theorem op_notInDK {X : Cx} (K : PySem.W.Frag) (hu : X.A.units + 65 < cLine) (h : X.K = K := by rfl) : OpR X (compareOp .NotIn) (rNotInD K) := h ▸ op_notInD hu
theorem mt_indexDK {X : Cx} (K : PySem.W.Frag) (hu : X.A.units + 65 < cLine) (h : X.K = K := by rfl) : MtR X "list.index" (rIndexD K) := h ▸ mt_indexD hu
theorem mt_countDK {X : Cx} (K : PySem.W.Frag) (hu : X.A.units + 65 < cLine) (h : X.K = K := by rfl) : MtR X "list.count" (rCntD K) := h ▸ mt_countD hu
/-- two lists of numbers, as data -/
theorem eqv_nats : ∀ (a b : List Nat), PyData.eqvAll (natD a) (natD b) = decide (a = b)
  | [], [] => by simp [natD, PyData.eqvAll]
  | [], b :: s => by simp [natD, PyData.eqvAll]
  | a :: r, [] => by simp [natD, PyData.eqvAll]
  | a :: r, b :: s => by
    have ih := eqv_nats r s
    have e : PyData.eqvAll (natD (a :: r)) (natD (b :: s)) = (((a : Int) == (b : Int)) && PyData.eqvAll (natD r) (natD s)) := by
      show PyData.eqvAll (PyData.int (a : Int) :: natD r) (PyData.int (b : Int) :: natD s) = _
      simp only [PyData.eqvAll, PyData.eqv]
    rw [e, ih]
    by_cases h1 : a = b
    · subst h1
      by_cases h2 : r = s
      · subst h2
        simp
      · simp [h2]
    · have h3 : ((a : Int) == (b : Int)) = false := beq_eq_false_iff_ne.mpr fun z => h1 (by omega)
      rw [h3]
      simp [h1]
theorem eqv_natT (a b : List Nat) : PyData.eqv (.tuple (natD a)) (.tuple (natD b)) = decide (a = b) := by
  simp only [PyData.eqv]
  exact eqv_nats a b
end Ef
set_option maxHeartbeats 4000000
namespace Ef
open PySem PySem.Spec PyProof.Rows L2
open PySem.W (dataLe AllAlike Sortable EachIs sorted_data sortLe_total TotalLe dataLt dataLt_tuple dataLt_ints)
/-! ### sorted of a list of data, any number of them -/
abbrev dLe : V × PyData → V × PyData → Bool := dataLe false (fun b : V × PyData => b.2)
def rSortD (K : PySem.W.Frag) : List V → Hp → VK → Prop := fun vs H Q => ∃ (a : Addr) (bs : List (V × PyData)), vs = [V.ref a] ∧ SqL K H a (bs.map (·.1)) ∧ (∀ b ∈ bs, Dp K H b.1 b.2) ∧ AllAlike (bs.map (·.2)) ∧ Sortable (bs.map (·.2)) ∧ (∀ b ∈ bs, b.2.depth ≤ 20) ∧
  ∀ p : Addr, H p = none → Q (.ref p) (upd H p (.lst ((bs.mergeSort dLe).map (·.1))))
theorem each_vals : ∀ {bs : List (V × PyData)} {us : List Value}, Vals (bs.map (·.1)) us → EachIs (fun u (b : V × PyData) => RelV b.1 u) us bs
  | [], _, .nil => .nil
  | _ :: _, _, .cons r t => .cons r (each_vals t)
theorem vals_each : ∀ {bs : List (V × PyData)} {us : List Value}, EachIs (fun u (b : V × PyData) => RelV b.1 u) us bs → Vals (bs.map (·.1)) us
  | [], _, .nil => .nil
  | _ :: _, _, .cons r t => .cons r (vals_each t)
section
variable {X : Cx} {K : PySem.W.Frag}
theorem each_reads {pins : List (Addr × Obj)} {σ : L2.St} {H : Hp} {s : Shared} (I : Inv X pins σ H s) : ∀ {bs : List (V × PyData)} {us : List Value}, (∀ b ∈ bs, Dp X.K H b.1 b.2) → EachIs (fun u (b : V × PyData) => RelV b.1 u) us bs → EachIs (fun u (b : V × PyData) => ∃ as, Reads s.heap u b.2 as) us bs
  | [], _, _, .nil => .nil
  | b :: _, _, h, .cons r t => .cons (Dp.reads I b.2 b.1 _ (h b List.mem_cons_self) r) (each_reads I (fun c hc => h c (List.mem_cons_of_mem _ hc)) t)
theorem cr_sortD (hu : X.A.units + 64 < cLine) (h : X.K = K := by rfl) : CallR X (.builtin "sorted") (rSortD K) := by
  subst h
  intro pins s σ H vs us Q I r hq
  obtain ⟨a, bs, rfl, hs, hd, hal, hk, hdp, q⟩ := hq
  obtain ⟨its, rv, hl, hz⟩ := I.list hs
  obtain ⟨u, rfl, ru⟩ := vals1 r
  obtain rfl : u = Value.ref a := ru
  have ee := each_vals rv
  have hz2 : bs.length ≤ sizeLine := by
    rw [List.length_map] at hz
    exact hz
  refine sorted_data (β := V × PyData) (bs := bs) (enc := fun b : V × PyData => b.2) (R := fun u (b : V × PyData) => RelV b.1 u) hl.isList ee (each_reads I hd ee) hal hk hz2 (fun b hb => by have := hdp b hb; omega) fun out hlen eo => ?_
  obtain ⟨n, hn⟩ := sortedAll_at s.heap its out.toArray
  refine ⟨.ref _, upd H (s.heap.objs.size + 1) (.lst ((bs.mergeSort dLe).map (·.1))), I.laid (t' := s.toks) (fun _ _ z => sortedAll_old z) (Nat.le_succ _) ⟨?_, out, n, vals_each eo, ?_⟩, rfl, q _ (I.hok.fresh (Nat.le_succ _))⟩
  · rw [List.length_map, List.length_mergeSort]
    exact hz2
  · simpa using hn
end
theorem sl_listK {X : Cx} {K : PySem.W.Frag} (h : X.K = K := by rfl) : SlR X (rSlL K) := h ▸ sl_list
def rDictP (K : PySem.W.Frag) : List V → Hp → VK → Prop := fun xs H Q => ∃ (a : Addr) (ps : List Addr) (kvs : List (Key × V)), xs = [.ref a] ∧ SqL K H a (ps.map V.ref) ∧ Paired (fun p kv => SqT K H p [kV kv.1, kv.2]) ps kvs ∧ ∀ p, H p = none → Q (.ref p) (upd H p (.dK (mergeK [] kvs)))
theorem call_dictPK {X : Cx} {K : PySem.W.Frag} (hc : X.calm = true) (h : X.K = K := by rfl) : CallR X (.type "dict") (rDictP K) := by
  subst h
  exact call_dictP hc
/-! the order -/
theorem dLe_ord : TotalLe dLe := sortLe_total _ false _
theorem dLe_trans (a b c : V × PyData) (h1 : dLe a b = true) (h2 : dLe b c = true) : dLe a c = true := dLe_ord.trans a b c h1 h2
theorem dLe_total (a b : V × PyData) : (dLe a b || dLe b a) = true := (Bool.or_eq_true _ _).mpr (dLe_ord.total a b)
theorem dsort_perm (bs : List (V × PyData)) : (bs.mergeSort dLe).Perm bs := List.mergeSort_perm bs dLe
theorem dsort_asc (bs : List (V × PyData)) : (bs.mergeSort dLe).Pairwise fun a b => dLe a b = true := List.pairwise_mergeSort dLe_trans dLe_total bs
theorem dsort_id {bs : List (V × PyData)} (h : bs.Pairwise fun a b => dLe a b = true) : bs.mergeSort dLe = bs := List.mergeSort_of_pairwise h
theorem dLe_lt (a b : V × PyData) : dLe a b = !dataLt b.2 a.2 := rfl
theorem dLe_ints {u v : V} {xs ys : List Int} : dLe (u, .tuple (xs.map .int)) (v, .tuple (ys.map .int)) = !decide (ys < xs) := by
  rw [dLe_lt]
  show (!dataLt (.tuple (ys.map .int)) (.tuple (xs.map .int))) = _
  rw [dataLt_tuple]
  exact congrArg (!·) (dataLt_ints ys xs)
end Ef
namespace Ef
open PySem PySem.Spec PyProof.Rows L2
/-! ### a comprehension within a comprehension -/
theorem lookup_map (c : Str → NameKind → Bool) (x : Str) : ∀ names : List (Str × NameKind), (names.lookup x = some .cell ∨ names.lookup x = some .free) → ((names.map fun (n, k) => if c n k = true then (n, NameKind.cell) else (n, k)).lookup x = some .cell ∨ (names.map fun (n, k) => if c n k = true then (n, NameKind.cell) else (n, k)).lookup x = some .free)
  | [], h => by simp at h
  | (n, k) :: r, h => by
    rw [List.map_cons]
    by_cases e : x == n
    · rw [List.lookup_cons, e] at h
      by_cases cc : c n k = true
      · simp only [cc, if_true]
        rw [List.lookup_cons, e]
        exact .inl rfl
      · simp only [cc, Bool.false_eq_true, if_false]
        rw [List.lookup_cons, e]
        exact h
    · have e2 : (x == n) = false := by simpa using e
      rw [List.lookup_cons, e2] at h
      have ih := lookup_map c x r h
      by_cases cc : c n k = true
      · simp only [cc, if_true]
        rw [List.lookup_cons, e2]
        exact ih
      · simp only [cc, Bool.false_eq_true, if_false]
        rw [List.lookup_cons, e2]
        exact ih
theorem blkOk_in {N : List Str} {sc scope : Scope} {own : List (Str × Nat)} {env : Env} (h : BlkOk N sc scope own) : BlkOk N (relabel sc env) scope own :=
  ⟨h.kind, h.uniq, h.ix, fun y hy e => lookup_map (fun n k => k == NameKind.free && env.scope.kind == .function && env.kindOf n == some .cell) y.1 sc.names (h.free y hy e), h.own⟩
end Ef
set_option maxHeartbeats 4000000
namespace Ef
open PySem PySem.Spec PyProof.Rows L2
/-! ### set(t) of a tuple of ints with its size, len(s) of a set -/
/-- c is the number of different ones among ns -/
def Diff (ns : List Int) (c : Nat) : Prop := ∃ ks : List Int, ks.Nodup ∧ (∀ k, k ∈ ks ↔ k ∈ ns) ∧ ks.length = c
theorem Diff.nodup {ns : List Int} {c : Nat} (h : Diff ns c) (hn : ns.Nodup) : c = ns.length := by
  obtain ⟨ks, h1, h2, rfl⟩ := h
  exact ((List.perm_ext_iff_of_nodup h1 hn).mpr h2).length_eq
theorem sub_len : ∀ {ks ns : List Int}, ks.Nodup → (∀ k ∈ ks, k ∈ ns) → ks.length ≤ ns.length
  | [], _, _, _ => Nat.zero_le _
  | k :: r, ns, h, hs => by
    have hk := hs k List.mem_cons_self
    have h1 := sub_len (ks := r) (ns := ns.erase k) (List.nodup_cons.mp h).2 fun x hx => (List.mem_erase_of_ne (fun e : x = k => (List.nodup_cons.mp h).1 (e ▸ hx))).mpr (hs x (List.mem_cons_of_mem _ hx))
    have h2 := List.length_erase_of_mem hk
    have h3 := List.length_pos_of_mem hk
    show r.length + 1 ≤ ns.length
    omega
theorem sub_perm : ∀ {ks ns : List Int}, ks.Nodup → (∀ k ∈ ks, k ∈ ns) → ns.length ≤ ks.length → ks.Perm ns
  | [], ns, _, _, h => by
    have : ns = [] := List.length_eq_zero_iff.mp (Nat.le_zero.mp h)
    rw [this]
  | k :: r, ns, h, hs, hl => by
    have hk := hs k List.mem_cons_self
    have h2 := List.length_erase_of_mem hk
    have hl2 : ns.length ≤ r.length + 1 := hl
    have h1 := sub_perm (ks := r) (ns := ns.erase k) (List.nodup_cons.mp h).2 (fun x hx => (List.mem_erase_of_ne (fun e : x = k => (List.nodup_cons.mp h).1 (e ▸ hx))).mpr (hs x (List.mem_cons_of_mem _ hx))) (by omega)
    exact (h1.cons k).trans (List.perm_cons_erase hk).symm
theorem Diff.le {ns : List Int} {c : Nat} (h : Diff ns c) : c ≤ ns.length := by
  obtain ⟨ks, h1, h2, rfl⟩ := h
  exact sub_len h1 fun k hk => (h2 k).mp hk
theorem Diff.not {ns : List Int} {c : Nat} (h : Diff ns c) (hn : ¬ ns.Nodup) : c ≠ ns.length := by
  intro e
  obtain ⟨ks, h1, h2, rfl⟩ := h
  have p : ks.Perm ns := sub_perm h1 (fun k hk => (h2 k).mp hk) (by omega)
  exact hn (p.nodup_iff.mp h1)
section
variable {X : Cx} {K : PySem.W.Frag} {w : World}
theorem setR_diff {h : Heap} {a : Addr} {ns : List Int} {c : Nat} (R : SetR w h a (fun j => decide (j ∈ ns)) c) : Diff ns c := by
  obtain ⟨o, es, ep, t, _, _, _, _, nd, mem, _, _, sz, _⟩ := R
  refine ⟨es.toList.map keyOf, nd, fun k => ?_, ?_⟩
  · rw [← mem k]
    exact decide_eq_true_iff
  · rw [List.length_map, Array.length_toList]
    exact sz
def rSetTn (K : PySem.W.Frag) (w : World) : List V → Hp → VK → Prop := fun xs H Q => ∃ (l : Addr) (ns : List Int), xs = [.ref l] ∧ (SqT K H l (ns.map V.int)) ∧ ns.length ≤ 1000 ∧
    ∀ (p : Addr) (c : Nat), H p = none → Diff ns c → Q (.ref p) (upd H p (SetO w p (fun j => decide (j ∈ ns)) c))
theorem cr_setTn (hc : X.calm = true) (h : X.K = K := by rfl) (hw : X.w = w := by rfl) : CallR X (.type "set") (rSetTn K w) := by
  subst h hw
  intro pins s σ H xs us Q I r h
  obtain ⟨l, ns, rfl, hq, hl, q⟩ := h
  obtain ⟨u, rfl, ru⟩ := vals1 r
  obtain rfl : u = Value.ref l := ru
  obtain ⟨its, rv, pt, hz⟩ := I.tuple hq
  refine call_set_tupI ns (I.ok.hd hc) (show s.heap.IsTuple l its.toArray from pt) (ints_of_vals rv) (by unfold scanBound; omega) fun h' tk c R1 hcn k => ?_
  exact ⟨.ref _, _, I.laid (t' := tk) k (Nat.le_refl _) (setO_new R1), rfl, q _ c (I.hok.fresh (Nat.le_refl _)) (setR_diff R1)⟩
def rLenSet (w : World) : List V → Hp → VK → Prop := fun xs H Q => ∃ (p : Addr) (S : Int → Bool) (c : Nat), xs = [.ref p] ∧ H p = some (SetO w p S c) ∧ Q (.int (c : Int)) H
theorem call_lenSet (hw : X.w = w := by rfl) : CallR X (.builtin "len") (rLenSet w) := by
  subst hw
  intro pins s σ H xs us Q I r h
  obtain ⟨p, S, c, rfl, hp, q⟩ := h
  obtain ⟨u, rfl, ru⟩ := vals1 r
  obtain rfl : u = Value.ref p := ru
  obtain ⟨o, es, ep, t, ho, hex, hd, _, _, _, sb, hf, hn, _⟩ := setO_get I hp
  have b : (es.size : Int) < 2 ^ 63 := by
    have : scanBound ≤ 2 ^ 62 := by unfold scanBound; decide
    omega
  exact call_len_set ho hex hd hf b ⟨.int c, H, I.tok _, ⟨_, by rw [hn]⟩, q⟩
end
end Ef
set_option maxHeartbeats 4000000
namespace Ef
open PySem PySem.Spec PyProof.Rows L2
/-! ### a list or a tuple walked through; len(set(xs)) of a list -/
def iEither (K : PySem.W.Frag) (tl : TE) : TI := fun σ H R => iList K tl σ H R ∨ iTup K tl σ H R
theorem pi_either {X : Cx} (K : PySem.W.Frag) {tg l : Expr} {tl : TE} (hl : PE X l tl) (h : X.K = K := by rfl) : PI X tg l (iEither K tl) := by
  subst h
  exact ⟨fun pins s σ H R I h => h.elim ((pi_list hl).run pins s σ H R I) ((pi_tup hl).run pins s σ H R I)⟩
theorem for_either {K : PySem.W.Frag} {a : Addr} {xs : List V} {g : TG} {tb : TS} {D : Ends} {σ : L2.St} {H : Hp} {i : Nat} (hv : σ[i]? = some (some (.ref a))) (hA : SqL K H a xs ∨ SqT K H a xs) (Pv : Nat → L2.St → Hp → Prop) (h0 : Pv 0 σ H) (hl : ∀ i σ H', Pv i σ H' → Same H H')
    (hs : ∀ i x σ H, xs[i]? = some x → Pv i σ H → g x σ H fun σ2 H2 => tb { D with nx := Pv (i + 1), ct := Pv (i + 1), bk := D.nx } σ2 H2) (hd : ∀ σ H, Pv xs.length σ H → D.nx σ H) : tFor (iEither K (tVar i)) g tb D σ H := by
  rcases hA with hA | hA
  · exact .inl ⟨.ref a, hv, a, rfl, ⟨_, hA⟩, for_list Pv h0 (fun i σ H' _ p => (hl i σ H' p).seq hA) hs hd⟩
  · exact .inr ⟨.ref a, hv, a, rfl, ⟨_, hA⟩, for_tup Pv h0 (fun i σ H' _ p => Same.seqT (hl i σ H' p) hA) hs hd⟩
/-- a method of a list, in a comprehension -/
theorem pe_bmK {X : Cx} (K : PySem.W.Frag) {T : String} {name : Str} {id : String} {r : V → List V → Hp → VK → Prop} {o e : Expr} {es : List Expr} {to : TE} {t : TA} {apos cpos : Pos} (pa : PlainAttrs T) (slot : Slot T name id) (hty : typeOf (.builtin id) = pure (.type "method_descriptor")) (hm : MtR X id r) (ho : PE X o to) (ha : PA X (e :: es) t) (h : X.K = K := by rfl)
    (hbase : attributeBase o name X.env (eval o X.env) = eval o X.env := by rfl)
    (hfew : ((backTo cpos (starEach (e :: es) X.env)).all (fun x => !x.1) && (backToKw cpos (keywordEach [] X.env)).all (fun x => x.1.isSome)
      && decide ((e :: es).length + ([] : List Keyword).length + (if ([] : List Keyword).isEmpty then 0 else 1) < 30)) = true := by rfl)
    (hline : (apos.endLine == cpos.line) = true := by rfl) (hs : starEach (e :: es) X.env = (false, eval e X.env) :: starEach es X.env := by rfl) (hplain : (backTo cpos (starEach es X.env)).any (·.1) = false := by rfl) : PE X (.Call (.Attribute o name apos) (e :: es) [] cpos) (tBM K T r to t) := h ▸ pe_bm pa slot hty hm ho ha hbase hfew hline hs hplain
theorem lc_either {K : PySem.W.Frag} {a : Addr} {xs : List V} {g : TG} {tt : TT} {te : TE} {vs : List Nat} {σ : L2.St} {H : Hp} {Q : VK} {i : Nat} (hv : σ[i]? = some (some (.ref a))) (hA : SqL K H a xs ∨ SqT K H a xs) (Pv : Addr → Nat → Hp → Prop) (h0 : ∀ D, H D = none → Pv D 0 (upd H D (.lst []))) (hl : ∀ D k H', Pv D k H' → Same H H')
    (hs : ∀ D, H D = none → ∀ k x H', xs[k]? = some x → Pv D k H' → g x (wipe σ vs) H' fun σ2 H2 => wipe σ2 vs = wipe σ vs ∧ tt σ2 H2 fun b H3 => if b = true then te σ2 H3 fun y H4 => ∃ acc, H4 D = some (.lst acc) ∧ acc.length < sizeLine ∧ Pv D (k + 1) (upd H4 D (.lst (acc ++ [y]))) else Pv D (k + 1) H3)
    (hd : ∀ D, H D = none → ∀ H', Pv D xs.length H' → Q (.ref D) H') : tLc (iEither K (tVar i)) g tt te vs σ H Q := by
  rcases hA with hA | hA
  · exact .inl ⟨.ref a, hv, a, rfl, ⟨_, hA⟩, fun D nD => lc_list (Pv D) (h0 D nD) (fun k H' _ p => (hl D k H' p).seq hA) (hs D nD) (hd D nD)⟩
  · exact .inr ⟨.ref a, hv, a, rfl, ⟨_, hA⟩, fun D nD => lc_tup (Pv D) (h0 D nD) (fun k H' _ p => Same.seqT (hl D k H' p) hA) (hs D nD) (hd D nD)⟩
/-- a dict comprehension over anything that is walked -/
theorem dc_walk {J : It} {n : Nat} {G : Hp → Prop} {Y : Nat → Hp → V → Hp → Prop} (wk : Walk J n G Y) {g : TG} {tt : TT} {tk tv : TE} {vs : List Nat} {σ : L2.St} {H1 : Hp} {D : Addr} {Qd : Hp → Prop} (Pv : Nat → Hp → Prop) (h0 : Pv 0 (upd H1 D (.dK []))) (hG : ∀ k H, k ≤ n → Pv k H → G H)
    (hs : ∀ k x H H', k < n → Pv k H → Y k H x H' → g x (wipe σ vs) H' fun σ2 H2 => wipe σ2 vs = wipe σ vs ∧ tt σ2 H2 fun b H3 =>
      if b = true then tk σ2 H3 fun y H4 => tv σ2 H4 fun z H5 => ∃ kvs k', y = kV k' ∧ H5 D = some (.dK kvs) ∧ kvs.length < sizeLine ∧ Pv (k + 1) (upd H5 D (.dK (putK kvs k' z))) else Pv (k + 1) H3) (hd : ∀ H, Pv n H → Qd H) :
    ∃ W : Nat → Nat → Hp → Prop, (∃ m, W 0 m (upd H1 D (.dK []))) ∧ ∀ k m H, W k m H →
      (J.stop k H ∧ Qd H) ∨ (J.go k H ∧ ∃ Nx : Hp → Prop, (∀ H', Nx H' → ∃ m', m' < m ∧ W (k + 1) m' H') ∧ ∀ x H', J.yld k H x H' → g x (wipe σ vs) H' fun σ2 H2 => wipe σ2 vs = wipe σ vs ∧ tt σ2 H2 fun b H3 =>
        if b = true then tk σ2 H3 fun y H4 => tv σ2 H4 fun z H5 => ∃ kvs k', y = kV k' ∧ H5 D = some (.dK kvs) ∧ kvs.length < sizeLine ∧ Nx (upd H5 D (.dK (putK kvs k' z))) else Nx H3) := by
  refine ⟨fun k m H => (m = n - k ∧ k ≤ n) ∧ Pv k H, ⟨n, ⟨by omega, Nat.zero_le _⟩, h0⟩, fun k m H hw => ?_⟩
  obtain ⟨⟨hm, hk⟩, hp⟩ := hw
  have hg := hG k H hk hp
  rcases Nat.lt_or_eq_of_le hk with hlt | heq
  · exact .inr ⟨wk.goes k H hlt hg, Pv (k + 1), fun H' hp' => ⟨n - (k + 1), by omega, ⟨rfl, hlt⟩, hp'⟩, fun x H' hy => hs k x H H' hlt hp (wk.yields k H x H' hlt hg hy)⟩
  · subst heq
    exact .inl ⟨wk.stops H hg, hd H hp⟩
theorem dc_either {K : PySem.W.Frag} {a : Addr} {xs : List V} {g : TG} {tt : TT} {tk tv : TE} {vs : List Nat} {σ : L2.St} {H : Hp} {Q : VK} {i : Nat} (hv : σ[i]? = some (some (.ref a))) (hA : SqL K H a xs ∨ SqT K H a xs) (Pv : Addr → Nat → Hp → Prop) (h0 : ∀ D, H D = none → Pv D 0 (upd H D (.dK []))) (hl : ∀ D k H', Pv D k H' → Same H H')
    (hs : ∀ D, H D = none → ∀ k x H', xs[k]? = some x → Pv D k H' → g x (wipe σ vs) H' fun σ2 H2 => wipe σ2 vs = wipe σ vs ∧ tt σ2 H2 fun b H3 => if b = true then tk σ2 H3 fun y H4 => tv σ2 H4 fun z H5 => ∃ kvs k', y = kV k' ∧ H5 D = some (.dK kvs) ∧ kvs.length < sizeLine ∧ Pv D (k + 1) (upd H5 D (.dK (putK kvs k' z))) else Pv D (k + 1) H3)
    (hd : ∀ D, H D = none → ∀ H', Pv D xs.length H' → Q (.ref D) H') : tDc (iEither K (tVar i)) g tt tk tv vs σ H Q := by
  rcases hA with hA | hA
  · exact .inl ⟨.ref a, hv, a, rfl, ⟨_, hA⟩, fun D nD => dc_walk walk_list (Pv D) (h0 D nD) (fun k H' _ p => (hl D k H' p).seq hA) (fun k x H2 H' hk hp hy => by obtain ⟨e1, e2⟩ := hy; rw [e1]; exact hs D nD k x H2 e2 hp) (hd D nD)⟩
  · exact .inr ⟨.ref a, hv, a, rfl, ⟨_, hA⟩, fun D nD => dc_tup (Pv D) (h0 D nD) (fun k H' _ p => Same.seqT (hl D k H' p) hA) (hs D nD) (hd D nD)⟩
/-- an item of a list or of a tuple -/
theorem ix_either {X : Cx} (K : PySem.W.Frag) (h : X.K = K := by rfl) : IxR X (fun x y H Q => rIxL K x y H Q ∨ rIxT K x y H Q) := by
  intro value slice pins s σ H x y v u Q I rx ry hq
  rcases hq with hq | hq
  · exact ix_listK K h value slice pins s σ H x y v u Q I rx ry hq
  · exact ix_tupK K h value slice pins s σ H x y v u Q I rx ry hq
def rSetLn (K : PySem.W.Frag) (w : World) : List V → Hp → VK → Prop := fun xs H Q => ∃ (l : Addr) (ns : List Int), xs = [.ref l] ∧ SqL K H l (ns.map V.int) ∧ ns.length ≤ 1000 ∧
    ∀ (p : Addr) (c : Nat), H p = none → Diff ns c → Q (.ref p) (upd H p (SetO w p (fun j => decide (j ∈ ns)) c))
theorem cr_setLn {X : Cx} (K : PySem.W.Frag) (w : World) (hc : X.calm = true) (h : X.K = K := by rfl) (hw : X.w = w := by rfl) : CallR X (.type "set") (rSetLn K w) := by
  subst h hw
  intro pins s σ H xs us Q I r h
  obtain ⟨l, ns, rfl, hq, hl, q⟩ := h
  obtain ⟨u, rfl, ru⟩ := vals1 r
  obtain rfl : u = Value.ref l := ru
  obtain ⟨its, rv, pt, hz⟩ := I.list hq
  refine call_setL ns (I.ok.hd hc) (show s.heap.IsList l its.toArray from pt.isList) (ints_of_vals rv) (by unfold scanBound; omega) fun h' tk c R1 hcn k => ?_
  exact ⟨.ref _, _, I.laid (t' := tk) k (Nat.le_refl _) (setO_new R1), rfl, q _ c (I.hok.fresh (Nat.le_refl _)) (setR_diff R1)⟩
/-- at most one different number -/
theorem Diff.one {ns : List Int} {c : Nat} (h : Diff ns c) : c ≤ 1 ↔ ∀ a ∈ ns, ∀ b ∈ ns, a = b := by
  obtain ⟨ks, h1, h2, rfl⟩ := h
  constructor
  · intro hc a ha b hb
    have ha2 := (h2 a).mpr ha
    have hb2 := (h2 b).mpr hb
    match ks, hc, ha2, hb2 with
    | [], _, ha2, _ => cases ha2
    | [x], _, ha2, hb2 => exact (List.mem_singleton.mp ha2).trans (List.mem_singleton.mp hb2).symm
  · intro h
    match ks, h1, h2 with
    | [], _, _ => exact Nat.zero_le _
    | [x], _, _ => exact Nat.le_refl _
    | x :: y :: r, h1, h2 =>
      exfalso
      obtain ⟨g1, _⟩ := List.nodup_cons.mp h1
      have := h x ((h2 x).mp List.mem_cons_self) y ((h2 y).mp (List.mem_cons_of_mem _ List.mem_cons_self))
      exact g1 (this ▸ List.mem_cons_self)
end Ef
namespace Ef
/-! ### the lists ascend -/
abbrev intL (ms : List Nat) : List Int := ms.map fun (m : Nat) => (m : Int)
theorem lt_cons {a b : Int} {l m : List Int} : a :: l < b :: m ↔ a < b ∨ a = b ∧ l < m := List.cons_lt_cons_iff
/-- m is not before l -/
def LexLe (l m : List Nat) : Prop := ¬ intL m < intL l
theorem LexLe.cons_lt {a b : Nat} {l m : List Nat} (h : a < b) : LexLe (a :: l) (b :: m) := fun z => by
  have z2 : ((b : Int) :: intL m) < ((a : Int) :: intL l) := z
  rcases lt_cons.mp z2 with z | ⟨z, _⟩ <;> omega
theorem LexLe.cons_eq {a : Nat} {l m : List Nat} (h : LexLe l m) : LexLe (a :: l) (a :: m) := fun z => by
  have z2 : ((a : Int) :: intL m) < ((a : Int) :: intL l) := z
  rcases lt_cons.mp z2 with z | ⟨_, z⟩
  · omega
  · exact h z
theorem asc_lt {L : List Nat} (a : Asc L) {i j x y : Nat} (hi : L[i]? = some x) (hj : L[j]? = some y) (h : i < j) : x < y := by
  obtain ⟨a1, a2⟩ := List.getElem?_eq_some_iff.mp hi
  obtain ⟨b1, b2⟩ := List.getElem?_eq_some_iff.mp hj
  rw [← a2, ← b2]
  exact List.pairwise_iff_getElem.mp a i j a1 b1 h
theorem fol_asc {n c : Nat} : ∀ {ss L : List Nat} {r r' : Nat}, FolOk n c ss L r → FolOk n c ss L r' → Asc L → r ≤ r' → LexLe (fol n c ss L r).1 (fol n c ss L r').1
  | [], _, _, _, _, _, _, _ => fun z => by cases z
  | s :: ss, L, r, r', ⟨w0, h1, g1, o1⟩, ⟨_, h2, g2, o2⟩, a, h => by
    rw [fol_cons, fol_cons]
    have hd : r / wd n c s ≤ r' / wd n c s := Nat.div_le_div_right h
    by_cases e : r / wd n c s = r' / wd n c s
    · have m1 := Nat.div_add_mod r (wd n c s)
      have m2 := Nat.div_add_mod r' (wd n c s)
      rw [← e] at o2 m2 ⊢
      have hm : r % wd n c s ≤ r' % wd n c s := by omega
      exact LexLe.cons_eq (fol_asc o1 o2 (asc_erase a _) (by omega))
    · exact LexLe.cons_lt (asc_lt a (getD_of h1) (getD_of h2) (by omega))
theorem path_asc {n d c k k' : Nat} (h : Std n d c) (hk : k ≤ k') (hk' : k' < c) : LexLe (path n d c k).1 (path n d c k').1 :=
  fol_asc (path_ok h (by omega)) (path_ok h hk') (asc_range' n 0) hk
end Ef
namespace Ef
/-! ### levels that are equal, and what follows for the live servers -/
def edgE (s : Nat) (r : List Nat) : List Nat × Nat := (srt (r.take s), r.getD s 0)
def cE (es : List (List Nat × Nat)) (e : List Nat × Nat) : Nat := es.countP fun a => decide (a = e)
theorem cE_app (a b : List (List Nat × Nat)) (e : List Nat × Nat) : cE (a ++ b) e = cE a e + cE b e := List.countP_append
theorem cE_perm {a b : List (List Nat × Nat)} (h : a.Perm b) (e : List Nat × Nat) : cE a e = cE b e := h.countP_eq _
theorem cE_map {α : Type} (f : α → List Nat × Nat) (e : List Nat × Nat) (l : List α) : cE (l.map f) e = l.countP fun a => decide (f a = e) := by
  unfold cE
  rw [List.countP_map]
  rfl
/-- all level numbers of the level are w -/
def Lev (n s w : Nat) (rows : List (List Nat)) : Prop := ∀ e ∈ allE n s, cE (rows.map (edgE s)) e = w
/-- rows of a table -/
def Tab (n d : Nat) (rows : List (List Nat)) : Prop := ∀ r ∈ rows, r.length = d ∧ r.Nodup ∧ ∀ x ∈ r, x < n
theorem srt_eq {a b : List Nat} (h : a.Perm b) : srt a = srt b := srt_of ((srt_perm a).trans h) (srt_le a)
theorem srt_self {a : List Nat} (h : Asc a) : srt a = a := (srt_of (List.Perm.refl a) (h.imp fun z => Nat.le_of_lt z)).symm
theorem perm_of_srt {a b : List Nat} (h : srt a = srt b) : a.Perm b := (srt_perm a).symm.trans (h ▸ srt_perm b)
theorem edgE_mem {n d s : Nat} {rows : List (List Nat)} (G : Tab n d rows) (hs : s < d) : ∀ e ∈ rows.map (edgE s), e ∈ allE n s := fun e he => by
  obtain ⟨r, hr, rfl⟩ := List.mem_map.mp he
  obtain ⟨h1, h2, h3⟩ := G r hr
  have pm := srt_perm (r.take s)
  have hlt : s < r.length := by omega
  have hx : r.getD s 0 = r[s] := by
    rw [List.getD_eq_getElem?_getD, List.getElem?_eq_getElem hlt]
    rfl
  have nd : (r.take s).Nodup := h2.sublist (List.take_sublist _ _)
  refine allE_mem ?_ ?_ (srt_asc nd) fun y hy => ?_
  · rw [hx]
    exact h3 _ (List.getElem_mem _)
  · rw [pm.length_eq, List.length_take]
    omega
  · have hy2 := pm.mem_iff.mp hy
    refine ⟨h3 y (List.mem_of_mem_take hy2), fun e => ?_⟩
    obtain ⟨i, hi⟩ := List.getElem?_of_mem hy2
    rw [List.getElem?_take] at hi
    split at hi
    · rename_i hlt2
      have h4 : r[s]? = some y := by
        rw [List.getElem?_eq_getElem hlt, e, hx]
      have := (List.getElem?_inj (show i < r.length by omega) h2).mp (hi.trans h4.symm)
      omega
    · cases hi
theorem allE_nodup (n s : Nat) : (allE n s).Nodup := by
  unfold allE
  have key : ∀ l : List Nat, l.Nodup → (l.flatMap fun x => (combs (without n x) s).map fun c => (c, x)).Nodup := by
    intro l
    induction l with
    | nil => intro _; exact List.nodup_nil
    | cons x l ih =>
      intro h
      obtain ⟨h1, h2⟩ := List.nodup_cons.mp h
      rw [List.flatMap_cons]
      refine List.nodup_append.mpr ⟨List.Pairwise.map _ (fun a b hab z => hab (congrArg Prod.fst z)) (combsNodup _ _ (asc_nodup (without_asc n x))), ih h2, fun a ha b hb e => ?_⟩
      obtain ⟨c, _, rfl⟩ := List.mem_map.mp ha
      obtain ⟨y, hy, hb⟩ := List.mem_flatMap.mp hb
      obtain ⟨c', _, rfl⟩ := List.mem_map.mp hb
      have : x = y := congrArg Prod.snd e
      exact h1 (this ▸ hy)
  exact key _ List.nodup_range
theorem sum_one' {α : Type} [DecidableEq α] {c : α} : ∀ {cs : List α}, cs.Nodup → c ∈ cs → (cs.map fun d => if c = d then 1 else 0).sum = 1
  | [], _, h => absurd h List.not_mem_nil
  | d :: cs, hn, h => by
    obtain ⟨h1, h2⟩ := List.nodup_cons.mp hn
    rw [List.map_cons, List.sum_cons]
    by_cases e : c = d
    · subst e
      have z : ∀ (l : List α), c ∉ l → (l.map fun d => if c = d then 1 else 0).sum = 0 := by
        intro l
        induction l with
        | nil => intro _; rfl
        | cons a l ih =>
          intro hh
          rw [List.map_cons, List.sum_cons, if_neg (fun z : c = a => hh (by rw [z]; exact List.mem_cons_self)), ih fun z => hh (List.mem_cons_of_mem _ z)]
      rw [if_pos rfl, z cs h1]
    · rw [if_neg e, sum_one' h2 ((List.mem_cons.mp h).resolve_left e)]
theorem sum_add' {α : Type} (f g : α → Nat) : ∀ l : List α, (l.map fun x => f x + g x).sum = (l.map f).sum + (l.map g).sum
  | [] => rfl
  | a :: l => by
    rw [List.map_cons, List.sum_cons, List.map_cons, List.sum_cons, List.map_cons, List.sum_cons, sum_add' f g l]
    omega
theorem sum_zero' {α : Type} {f : α → Nat} : ∀ {l : List α}, (∀ a ∈ l, f a = 0) → (l.map f).sum = 0
  | [], _ => rfl
  | a :: l, h => by rw [List.map_cons, List.sum_cons, h a List.mem_cons_self, sum_zero' fun b hb => h b (List.mem_cons_of_mem _ hb)]
theorem sum_congr' {α : Type} {f g : α → Nat} {l : List α} (h : ∀ a ∈ l, f a = g a) : (l.map f).sum = (l.map g).sum := by rw [List.map_congr_left h]
theorem sum_cE {cs : List (List Nat × Nat)} (hn : cs.Nodup) : ∀ {ks : List (List Nat × Nat)}, (∀ k ∈ ks, k ∈ cs) → (cs.map fun c => cE ks c).sum = ks.length
  | [], _ => sum_zero' fun _ _ => rfl
  | k :: ks, h => by
    have e : (fun c => cE (k :: ks) c) = fun c => cE ks c + if k = c then 1 else 0 := by
      funext c
      unfold cE
      rw [List.countP_cons]
      congr 1
      by_cases z : k = c
      · rw [if_pos z, if_pos (decide_eq_true z)]
      · rw [if_neg z, if_neg (fun y => z (of_decide_eq_true y))]
    rw [e, sum_add', sum_cE hn fun x hx => h x (List.mem_cons_of_mem _ hx), sum_one' hn (h k List.mem_cons_self)]
    rfl
theorem all_tight {α : Type} {f : α → Nat} {w : Nat} : ∀ {l : List α}, (∀ a ∈ l, w ≤ f a) → (l.map f).sum = l.length * w → ∀ a ∈ l, f a = w
  | [], _, _, a, ha => absurd ha List.not_mem_nil
  | b :: l, h1, h2, a, ha => by
    have hb := h1 b List.mem_cons_self
    have ge : ∀ l : List α, (∀ a ∈ l, w ≤ f a) → l.length * w ≤ (l.map f).sum := by
      intro l
      induction l with
      | nil => intro _; simp
      | cons c l ih =>
        intro h
        rw [List.map_cons, List.sum_cons, List.length_cons, Nat.succ_mul]
        have := ih fun x hx => h x (List.mem_cons_of_mem _ hx)
        have := h c List.mem_cons_self
        omega
    have hl := ge l fun x hx => h1 x (List.mem_cons_of_mem _ hx)
    rw [List.map_cons, List.sum_cons, List.length_cons, Nat.succ_mul] at h2
    rcases List.mem_cons.mp ha with rfl | ha
    · omega
    · exact all_tight (fun x hx => h1 x (List.mem_cons_of_mem _ hx)) (by omega) a ha
/-- the level's number is what it must be -/
theorem Lev.eq {n d s w : Nat} {rows : List (List Nat)} (G : Tab n d rows) (hs : s < d) (h : Lev n s w rows) : n * C (n - 1) s * w = rows.length := by
  have h1 := sum_cE (allE_nodup n s) (edgE_mem G hs)
  rw [List.length_map, sum_congr' (g := fun _ => w) fun e he => h e he] at h1
  rw [← h1, ← allE_len, List.map_const', List.sum_replicate_nat]
/-! the standard tables -/
theorem path_edge {n c d k s : Nat} (hs : s < d) : edgE s (path n d c k).1 = (srt (path n s c k).1, (folL n c (List.range' 0 s) (List.range' 0 n) k).getD ((path n s c k).2 / wd n c s) 0) := by
  unfold edgE path
  have h1 : d = s + (d - s) := by omega
  have e1 := fol_take n c k s (d - s)
  have e2 := fol_take n c k (s + 1) (d - (s + 1))
  rw [← h1] at e1
  rw [show s + 1 + (d - (s + 1)) = d by omega, range'_end, fol_snoc] at e2
  rw [e1]
  congr 1
  have l := fol_len n c (List.range' 0 s) (List.range' 0 n) k
  rw [List.length_range'] at l
  have e3 : (fol n c (List.range' 0 d) (List.range' 0 n) k).1[s]? = some ((folL n c (List.range' 0 s) (List.range' 0 n) k).getD ((fol n c (List.range' 0 s) (List.range' 0 n) k).2 / wd n c s) 0) := by
    have e4 : ((fol n c (List.range' 0 d) (List.range' 0 n) k).1.take (s + 1))[s]? = (fol n c (List.range' 0 d) (List.range' 0 n) k).1[s]? := by
      rw [List.getElem?_take, if_pos (by omega)]
    rw [← e4, e2]
    show (_ ++ [_])[s]? = _
    rw [List.getElem?_append_right (by omega), l, Nat.sub_self]
    rfl
  rw [List.getD_eq_getElem?_getD, e3]
  rfl
theorem std_lev {n d c : Nat} (st : Std n d c) {s : Nat} (hs : s < d) : Lev n s (wd n c s) ((List.range c).map fun k => (path n d c k).1) := by
  have dv := st.dvd s hs
  have w0 := wd_pos dv st.c0
  have dn := st.dn
  have G : Tab n d ((List.range c).map fun k => (path n d c k).1) := fun r hr => by
    obtain ⟨k, hk, rfl⟩ := List.mem_map.mp hr
    exact ⟨path_len n d c k, path_nodup st (List.mem_range.mp hk), path_lt st (List.mem_range.mp hk)⟩
  refine all_tight (f := fun e => cE (((List.range c).map fun k => (path n d c k).1).map (edgE s)) e) (fun e he => ?_) ?_
  · -- at least so many
    obtain ⟨x, hx, he⟩ := List.mem_flatMap.mp he
    obtain ⟨S, hS, rfl⟩ := List.mem_map.mp he
    obtain ⟨g1, g2⟩ := combs_good _ _ _ hS
    have ascS : Asc S := (without_asc n x).sublist g2
    have memS : ∀ y ∈ S, y < n ∧ y ≠ x := fun y hy => by
      have := List.mem_filter.mp (g2.subset hy)
      exact ⟨List.mem_range.mp this.1, by simpa using this.2⟩
    have hxn := List.mem_range.mp hx
    -- the servers outside
    have hL0 : Compl n S ((List.range' 0 n).filter fun y => !decide (y ∈ S)) := ⟨ascS, (asc_range' n 0).filter _, fun y hy => (memS y hy).1, fun y => by
      rw [List.mem_filter, mem_range0]
      simp⟩
    have hxL : x ∈ (List.range' 0 n).filter fun y => !decide (y ∈ S) := (hL0.mem x).mpr ⟨hxn, fun z => (memS x z).2 rfl⟩
    obtain ⟨i, hi⟩ := List.getElem?_of_mem hxL
    have lenL : ((List.range' 0 n).filter fun y => !decide (y ∈ S)).length = n - s := by
      have p : (S ++ (List.range' 0 n).filter fun y => !decide (y ∈ S)).Perm (List.range' 0 n) := by
        refine (List.perm_ext_iff_of_nodup ?_ (asc_nodup (asc_range' n 0))).mpr fun y => ?_
        · refine List.nodup_append.mpr ⟨asc_nodup ascS, (asc_nodup (asc_range' n 0)).filter _, fun a ha b hb e => ?_⟩
          subst e
          exact ((hL0.mem a).mp hb).2 ha
        · rw [List.mem_append, hL0.mem, mem_range0]
          constructor
          · rintro (h | h)
            · exact (memS y h).1
            · exact h.1
          · intro h
            by_cases c : y ∈ S
            · exact .inl c
            · exact .inr ⟨h, c⟩
      have := p.length_eq
      rw [List.length_append, List.length_range', g1] at this
      omega
    have hi2 : i < n - s := by
      rw [← lenL]
      exact (List.getElem?_eq_some_iff.mp hi).1
    have wo : c / C n s = wd n c s * (n - s) := by
      have e := wd_out dv (show s < n by omega)
      have p := C_pos n s (by omega)
      conv => lhs; rw [← e]
      exact Nat.mul_div_cancel _ p
    rw [List.map_map, cE_map, List.countP_eq_length_filter]
    have hd : ∀ k, k < s → n * C (n - 1) k ∣ c := fun k hk => st.dvd k (by omega)
    have hpl : ∀ r, r < wd n c s → Place n c s S (wd n c s * i + r) := fun r hr => ⟨ascS, fun y hy => (memS y hy).1, g1, by
      rw [wo]
      have : wd n c s * (i + 1) ≤ wd n c s * (n - s) := Nat.mul_le_mul_left _ (by omega)
      rw [Nat.mul_add, Nat.mul_one] at this
      omega⟩
    have hlen : ((List.range (wd n c s)).map fun r => (fol n c (List.range' 0 s).reverse S (wd n c s * i + r)).2).length = wd n c s := by
      rw [List.length_map, List.length_range]
    rw [← hlen]
    refine subG_len ?_ fun k hk => ?_
    · rw [List.nodup_iff_pairwise_ne]
      refine List.pairwise_map.mpr ?_
      refine List.Pairwise.imp_of_mem (R := fun a b => a ≠ b) (fun {a b} ha hb hab e => hab ?_) (List.nodup_iff_pairwise_ne.mp List.nodup_range)
      have h1 := (back_fwd st.c0 s S _ (by omega) hd (hpl a (List.mem_range.mp ha))).2.2.1
      have h2 := (back_fwd st.c0 s S _ (by omega) hd (hpl b (List.mem_range.mp hb))).2.2.1
      rw [e] at h1
      rw [h1] at h2
      omega
    · obtain ⟨r, hr, rfl⟩ := List.mem_map.mp hk
      have hr2 := List.mem_range.mp hr
      obtain ⟨b1, b2, b3, b4⟩ := back_fwd st.c0 s S _ (by omega) hd (hpl r hr2)
      refine List.mem_filter.mpr ⟨List.mem_range.mpr b1, decide_eq_true ?_⟩
      show edgE s (path n d c _).1 = _
      rw [path_edge hs]
      unfold path
      rw [b3]
      have ed : (wd n c s * i + r) / wd n c s = i := by
        rw [Nat.mul_add_div w0, Nat.div_eq_of_lt hr2, Nat.add_zero]
      rw [ed, ← b4.free, List.getD_eq_getElem?_getD, hi]
      congr 1
      exact (srt_eq b2).trans (srt_self ascS)
  · rw [sum_cE (allE_nodup n s) (edgE_mem G hs), List.length_map, List.length_map, List.length_range, allE_len, Nat.mul_comm]
    exact (wd_eq dv).symm
end Ef
namespace Ef
/-! ### equal levels share the lists evenly among the live servers -/
def lvL (L r : List Nat) : List Nat := r.filter fun x => decide (x ∈ L)
def ddL (L r : List Nat) : List Nat := r.filter fun x => !decide (x ∈ L)
theorem lvL_app (L a b : List Nat) : lvL L (a ++ b) = lvL L a ++ lvL L b := List.filter_append ..
theorem lvL_perm {L a b : List Nat} (h : a.Perm b) : (lvL L a).Perm (lvL L b) := h.filter _
theorem ddL_perm {L a b : List Nat} (h : a.Perm b) : (ddL L a).Perm (ddL L b) := h.filter _
theorem lv_dd (L : List Nat) : ∀ r : List Nat, (lvL L r ++ ddL L r).Perm r
  | [] => List.Perm.refl _
  | x :: r => by
    unfold lvL ddL
    by_cases c : x ∈ L
    · rw [List.filter_cons_of_pos (by simpa using c), List.filter_cons_of_neg (by simpa using c)]
      exact (lv_dd L r).cons x
    · rw [List.filter_cons_of_neg (by simpa using c), List.filter_cons_of_pos (by simpa using c)]
      exact List.perm_middle.trans ((lv_dd L r).cons x)
/-- where the live server with this number stands -/
theorem at_live (L : List Nat) : ∀ (r : List Nat) (q : Nat), q + 1 ≤ (lvL L r).length → ∃ s x, r[s]? = some x ∧ x ∈ L ∧ (lvL L (r.take s)).length = q ∧ (lvL L r).take (q + 1) = lvL L (r.take s) ++ [x]
  | [], q, h => by
    have : (lvL L []).length = 0 := rfl
    omega
  | y :: r, q, h => by
    by_cases c : y ∈ L
    · have e : lvL L (y :: r) = y :: lvL L r := List.filter_cons_of_pos (by simpa using c)
      cases q with
      | zero =>
        refine ⟨0, y, rfl, c, rfl, ?_⟩
        rw [e]
        rfl
      | succ q =>
        rw [e, List.length_cons] at h
        obtain ⟨s, x, h1, h2, h3, h4⟩ := at_live L r q (by omega)
        have e2 : lvL L (y :: r.take s) = y :: lvL L (r.take s) := List.filter_cons_of_pos (by simpa using c)
        refine ⟨s + 1, x, h1, h2, ?_, ?_⟩
        · rw [List.take_succ_cons, e2, List.length_cons, h3]
        · rw [List.take_succ_cons, e2, e, List.take_succ_cons, h4]
          rfl
    · have e : lvL L (y :: r) = lvL L r := List.filter_cons_of_neg (by simpa using c)
      rw [e] at h
      obtain ⟨s, x, h1, h2, h3, h4⟩ := at_live L r q h
      have e2 : lvL L (y :: r.take s) = lvL L (r.take s) := List.filter_cons_of_neg (by simpa using c)
      refine ⟨s + 1, x, h1, h2, ?_, ?_⟩
      · rw [List.take_succ_cons, e2, h3]
      · rw [List.take_succ_cons, e2, e, h4]
theorem take_one {r : List Nat} {s x : Nat} (h : r[s]? = some x) : r.take (s + 1) = r.take s ++ [x] := by
  rw [List.take_add_one, h]
  rfl
theorem live_uniq {L r : List Nat} {q s s' x x' : Nat} (h1 : r[s]? = some x) (h2 : x ∈ L) (h3 : (lvL L (r.take s)).length = q) (k1 : r[s']? = some x') (k2 : x' ∈ L) (k3 : (lvL L (r.take s')).length = q) : s = s' := by
  have key : ∀ {a b y : Nat}, r[a]? = some y → y ∈ L → (lvL L (r.take a)).length = q → (lvL L (r.take b)).length = q → ¬ a < b := by
    intro a b y g1 g2 g3 g4 hlt
    have e : r.take b = r.take (a + 1) ++ (r.take b).drop (a + 1) := by
      have := List.take_append_drop (a + 1) (r.take b)
      rw [List.take_take, Nat.min_eq_left (by omega)] at this
      exact this.symm
    rw [e, take_one g1, lvL_app, lvL_app, List.length_append, List.length_append] at g4
    have : (lvL L [y]).length = 1 := by
      unfold lvL
      rw [List.filter_cons_of_pos (by simpa using g2)]
      rfl
    omega
  have a := key h1 h2 h3 k3
  have b := key k1 k2 k3 h3
  omega
/-- all sublists -/
def subsA : List Nat → List (List Nat)
  | [] => [[]]
  | x :: r => (subsA r).map (x :: ·) ++ subsA r
theorem subsA_mem : ∀ {l c : List Nat}, c.Sublist l → c ∈ subsA l
  | [], c, h => by
    rw [List.sublist_nil.mp h]
    exact List.mem_singleton.mpr rfl
  | x :: r, c, h => by
    cases h with
    | cons _ h => exact List.mem_append_right _ (subsA_mem h)
    | cons_cons _ h => exact List.mem_append_left _ (List.mem_map.mpr ⟨_, subsA_mem h, rfl⟩)
theorem subsA_good : ∀ {l c : List Nat}, c ∈ subsA l → c.Sublist l
  | [], c, h => by
    rw [List.mem_singleton.mp h]
    exact List.Sublist.refl _
  | x :: r, c, h => by
    rcases List.mem_append.mp h with h | h
    · obtain ⟨d, hd, rfl⟩ := List.mem_map.mp h
      exact (subsA_good hd).cons_cons x
    · exact (subsA_good h).cons x
theorem subsA_nodup : ∀ {l : List Nat}, l.Nodup → (subsA l).Nodup
  | [], _ => List.nodup_cons.mpr ⟨List.not_mem_nil, List.nodup_nil⟩
  | x :: r, h => by
    obtain ⟨h1, h2⟩ := List.nodup_cons.mp h
    refine List.nodup_append.mpr ⟨List.Pairwise.map _ (fun a b hab z => hab (List.cons.inj z).2) (subsA_nodup h2), subsA_nodup h2, fun a ha b hb e => ?_⟩
    obtain ⟨c, _, rfl⟩ := List.mem_map.mp ha
    have := subsA_good hb
    rw [← e] at this
    exact h1 (this.subset List.mem_cons_self)
/-- a row and a pair: the row begins with T but x, and D, and goes on to x -/
def mtB (T : List Nat) (q : Nat) (p : List Nat × Nat) (r : List Nat) : Bool := decide (edgE (q + p.1.length) r = (srt (T.erase p.2 ++ p.1), p.2))
theorem lv_all {L a : List Nat} (h : ∀ x ∈ a, x ∈ L) : lvL L a = a := List.filter_eq_self.mpr fun x hx => by simpa using h x hx
theorem lv_none {L a : List Nat} (h : ∀ x ∈ a, x ∉ L) : lvL L a = [] := List.filter_eq_nil_iff.mpr fun x hx => by simpa using h x hx
theorem dd_all {L a : List Nat} (h : ∀ x ∈ a, x ∉ L) : ddL L a = a := List.filter_eq_self.mpr fun x hx => by simpa using h x hx
theorem dd_none {L a : List Nat} (h : ∀ x ∈ a, x ∈ L) : ddL L a = [] := List.filter_eq_nil_iff.mpr fun x hx => by simpa using h x hx
theorem ddL_app (L a b : List Nat) : ddL L (a ++ b) = ddL L a ++ ddL L b := List.filter_append ..
theorem mt_iff {L T D r : List Nat} {q x : Nat} (hT : Asc T) (hTl : T.length = q + 1) (hTL : ∀ y ∈ T, y ∈ L) (hx : x ∈ T) (hD : Asc D) (hDL : ∀ y ∈ D, y ∉ L) (hs : q + D.length < r.length) :
    mtB T q (D, x) r = true ↔ ∃ s, r[s]? = some x ∧ (lvL L (r.take s)).length = q ∧ srt (lvL L (r.take s) ++ [x]) = T ∧ srt (ddL L (r.take s)) = D := by
  have te : (T.erase x).Perm (T.erase x) := List.Perm.refl _
  have tp : (T.erase x ++ [x]).Perm T := (List.perm_append_singleton x _).trans (List.perm_cons_erase hx).symm
  have tl : (T.erase x).length = q := by
    rw [List.length_erase_of_mem hx]
    omega
  have eL : ∀ y ∈ T.erase x, y ∈ L := fun y hy => hTL y (List.mem_of_mem_erase hy)
  unfold mtB
  rw [decide_eq_true_iff]
  constructor
  · intro h
    have h1 : srt (r.take (q + D.length)) = srt (T.erase x ++ D) := congrArg Prod.fst h
    have h2 : r.getD (q + D.length) 0 = x := congrArg Prod.snd h
    have pm := perm_of_srt h1
    have hxs : r[q + D.length]? = some x := by
      rw [List.getD_eq_getElem?_getD, List.getElem?_eq_getElem hs] at h2
      rw [List.getElem?_eq_getElem hs]
      exact congrArg some h2
    have pl : (lvL L (r.take (q + D.length))).Perm (T.erase x) := by
      have := lvL_perm (L := L) pm
      rw [lvL_app, lv_all eL, lv_none hDL, List.append_nil] at this
      exact this
    have pd : (ddL L (r.take (q + D.length))).Perm D := by
      have := ddL_perm (L := L) pm
      rw [ddL_app, dd_none eL, dd_all hDL, List.nil_append] at this
      exact this
    exact ⟨q + D.length, hxs, by rw [pl.length_eq, tl], (srt_eq ((pl.append_right [x]).trans tp)).trans (srt_self hT), (srt_eq pd).trans (srt_self hD)⟩
  · rintro ⟨s, h1, h2, h3, h4⟩
    have hsl : s < r.length := (List.getElem?_eq_some_iff.mp h1).1
    have pl : (lvL L (r.take s)).Perm (T.erase x) := by
      have p1 : (lvL L (r.take s) ++ [x]).Perm T := (srt_perm _).symm.trans (h3 ▸ List.Perm.refl _)
      have p2 := p1.trans tp.symm
      exact (List.perm_append_right_iff _).mp p2
    have pd : (ddL L (r.take s)).Perm D := (srt_perm _).symm.trans (h4 ▸ List.Perm.refl _)
    have pr : (r.take s).Perm (T.erase x ++ D) := (lv_dd L _).symm.trans (pl.append pd)
    have es : s = q + D.length := by
      have := pr.length_eq
      rw [List.length_take, List.length_append, tl] at this
      omega
    subst es
    unfold edgE
    show (srt (r.take (q + D.length)), r.getD (q + D.length) 0) = _
    rw [srt_eq pr, List.getD_eq_getElem?_getD, h1]
    rfl
/-- the pairs of T -/
def prL (dead T : List Nat) : List (List Nat × Nat) := (subsA dead).flatMap fun D => T.map fun x => (D, x)
theorem prL_nodup {dead T : List Nat} (hd : dead.Nodup) (hT : T.Nodup) : (prL dead T).Nodup := by
  unfold prL
  have key : ∀ l : List (List Nat), l.Nodup → (l.flatMap fun D => T.map fun x => (D, x)).Nodup := by
    intro l
    induction l with
    | nil => intro _; exact List.nodup_nil
    | cons D l ih =>
      intro h
      obtain ⟨h1, h2⟩ := List.nodup_cons.mp h
      rw [List.flatMap_cons]
      refine List.nodup_append.mpr ⟨List.Pairwise.map _ (fun a b hab z => hab (congrArg Prod.snd z)) hT, ih h2, fun a ha b hb e => ?_⟩
      obtain ⟨c, _, rfl⟩ := List.mem_map.mp ha
      obtain ⟨D', hD', hb⟩ := List.mem_flatMap.mp hb
      obtain ⟨c', _, rfl⟩ := List.mem_map.mp hb
      have ed : D = D' := congrArg Prod.fst e
      exact h1 (by rw [ed]; exact hD')
  exact key _ (subsA_nodup hd)
theorem countP_one {α : Type} {p : α → Bool} {a : α} : ∀ {l : List α}, l.Nodup → a ∈ l → (∀ b ∈ l, (p b = true ↔ b = a)) → l.countP p = 1
  | [], _, h, _ => absurd h List.not_mem_nil
  | b :: l, hn, h, hp => by
    obtain ⟨h1, h2⟩ := List.nodup_cons.mp hn
    rw [List.countP_cons]
    by_cases e : b = a
    · subst e
      have z : l.countP p = 0 := List.countP_eq_zero.mpr fun c hc hpc => h1 (((hp c (List.mem_cons_of_mem _ hc)).mp hpc) ▸ hc)
      rw [z, if_pos ((hp b List.mem_cons_self).mpr rfl)]
    · rw [if_neg (fun z => e ((hp b List.mem_cons_self).mp z)), countP_one h2 ((List.mem_cons.mp h).resolve_left fun z => e z.symm) fun c hc => hp c (List.mem_cons_of_mem _ hc)]
theorem swap_sum {α β : Type} (m : α → β → Bool) (rows : List β) : ∀ l : List α, (l.map fun a => rows.countP (m a)).sum = (rows.map fun r => l.countP fun a => m a r).sum
  | [] => (sum_zero' fun _ _ => rfl).symm
  | a :: l => by
    rw [List.map_cons, List.sum_cons, swap_sum m rows l]
    have e : (rows.map fun r => (a :: l).countP fun a => m a r) = rows.map fun r => (l.countP fun a => m a r) + if m a r = true then 1 else 0 := List.map_congr_left fun r _ => List.countP_cons ..
    rw [e, sum_add', Nat.add_comm]
    congr 1
    induction rows with
    | nil => rfl
    | cons r rows ih =>
      rw [List.countP_cons, List.map_cons, List.sum_cons, ih (List.map_congr_left fun r _ => List.countP_cons ..)]
      omega
theorem sum_ind {β : Type} (p : β → Bool) : ∀ rows : List β, (rows.map fun r => if p r = true then 1 else 0).sum = rows.countP p
  | [] => rfl
  | r :: rows => by
    rw [List.map_cons, List.sum_cons, sum_ind p rows, List.countP_cons, Nat.add_comm]
/-- how many rows have this set of first live servers -/
def heldN (L : List Nat) (q : Nat) (rows : List (List Nat)) (T : List Nat) : Nat := rows.countP fun r => decide (srt ((lvL L r).take q) = T)
theorem held_pairs {n d q : Nat} {L dead T : List Nat} {rows : List (List Nat)} (G : Tab n d rows) (hT : Asc T) (hTl : T.length = q + 1) (hTL : ∀ y ∈ T, y ∈ L) (hdead : Asc dead) (hmem : ∀ y, y ∈ dead ↔ y < n ∧ y ∉ L)
    (hd : q + dead.length < d) (hlive : ∀ r ∈ rows, q + 1 ≤ (lvL L r).length) :
    heldN L (q + 1) rows T = ((prL dead T).map fun p => cE (rows.map (edgE (q + p.1.length))) (srt (T.erase p.2 ++ p.1), p.2)).sum := by
  have e1 : ((prL dead T).map fun p => cE (rows.map (edgE (q + p.1.length))) (srt (T.erase p.2 ++ p.1), p.2)) = (prL dead T).map fun p => rows.countP (mtB T q p) := List.map_congr_left fun p _ => cE_map _ _ _
  rw [e1, swap_sum]
  unfold heldN
  rw [← sum_ind]
  refine sum_congr' fun r hr => ?_
  obtain ⟨g1, g2, g3⟩ := G r hr
  obtain ⟨s, x, a1, a2, a3, a4⟩ := at_live L r q (hlive r hr)
  have ndT : T.Nodup := asc_nodup hT
  -- what a pair that fits is
  have fit : ∀ p ∈ prL dead T, (mtB T q p r = true ↔ srt ((lvL L r).take (q + 1)) = T ∧ p = (srt (ddL L (r.take s)), x)) := fun p hp => by
    obtain ⟨D, hD, hp⟩ := List.mem_flatMap.mp hp
    obtain ⟨y, hy, rfl⟩ := List.mem_map.mp hp
    have sD := subsA_good hD
    have ascD : Asc D := hdead.sublist sD
    have hDL : ∀ z ∈ D, z ∉ L := fun z hz => ((hmem z).mp (sD.subset hz)).2
    have hDl := sD.length_le
    rw [mt_iff hT hTl hTL hy ascD hDL (by omega), a4]
    constructor
    · rintro ⟨s', b1, b2, b3, b4⟩
      obtain rfl := live_uniq a1 a2 a3 b1 (hTL y hy) b2
      rw [a1] at b1
      obtain rfl := Option.some.inj b1
      exact ⟨b3, by rw [b4]⟩
    · rintro ⟨b1, b2⟩
      have c1 : D = srt (ddL L (r.take s)) := congrArg Prod.fst b2
      have c2 : y = x := congrArg Prod.snd b2
      subst c2
      exact ⟨s, a1, a3, b1, c1.symm⟩
  by_cases c : srt ((lvL L r).take (q + 1)) = T
  · rw [if_pos (decide_eq_true c)]
    refine (countP_one (prL_nodup (asc_nodup hdead) ndT) (a := (srt (ddL L (r.take s)), x)) ?_ fun p hp => ?_).symm
    · have hxT : x ∈ T := by
        rw [← c, a4]
        exact (srt_perm _).mem_iff.mpr (List.mem_append_right _ (List.mem_singleton.mpr rfl))
      have nd : (ddL L (r.take s)).Nodup := (g2.sublist (List.take_sublist _ _)).filter _
      have sub : (srt (ddL L (r.take s))).Sublist dead := ascSub (srt_asc nd) hdead fun y hy => by
        have h1 := List.mem_filter.mp ((srt_perm _).mem_iff.mp hy)
        exact (hmem y).mpr ⟨g3 y (List.mem_of_mem_take h1.1), by simpa using h1.2⟩
      exact List.mem_flatMap.mpr ⟨_, subsA_mem sub, List.mem_map.mpr ⟨x, hxT, rfl⟩⟩
    · rw [fit p hp]
      exact ⟨fun h => h.2, fun h => ⟨c, h⟩⟩
  · rw [if_neg (fun z => c (of_decide_eq_true z))]
    exact (List.countP_eq_zero.mpr fun p hp h => c ((fit p hp).mp h).1).symm
theorem sum_const {α : Type} (k : Nat) : ∀ l : List α, (l.map fun _ => k).sum = l.length * k
  | [] => by simp
  | a :: l => by rw [List.map_cons, List.sum_cons, sum_const k l, List.length_cons, Nat.succ_mul, Nat.add_comm]
/-- by equal levels every set of live servers holds as many lists -/
theorem held_even {n d q : Nat} {L dead T : List Nat} {rows : List (List Nat)} {w : Nat → Nat} (G : Tab n d rows) (hT : Asc T) (hTl : T.length = q + 1) (hTL : ∀ y ∈ T, y ∈ L) (hLn : ∀ y ∈ L, y < n) (hdead : Asc dead) (hmem : ∀ y, y ∈ dead ↔ y < n ∧ y ∉ L)
    (hd : q + dead.length < d) (hlive : ∀ r ∈ rows, q + 1 ≤ (lvL L r).length) (lev : ∀ s, s ≤ q + dead.length → Lev n s (w s) rows) :
    heldN L (q + 1) rows T = ((subsA dead).map fun D => (q + 1) * w (q + D.length)).sum := by
  rw [held_pairs G hT hTl hTL hdead hmem hd hlive]
  have e1 : ((prL dead T).map fun p => cE (rows.map (edgE (q + p.1.length))) (srt (T.erase p.2 ++ p.1), p.2)) = (prL dead T).map fun p => w (q + p.1.length) := List.map_congr_left fun p hp => by
    obtain ⟨D, hD, hp⟩ := List.mem_flatMap.mp hp
    obtain ⟨y, hy, rfl⟩ := List.mem_map.mp hp
    have sD := subsA_good hD
    have hDl := sD.length_le
    have pm := srt_perm (T.erase y ++ D)
    have ndT := asc_nodup hT
    have hyE : y ∉ T.erase y := fun z => (List.Nodup.mem_erase_iff ndT).mp z |>.1 rfl
    have nd : (T.erase y ++ D).Nodup := List.nodup_append.mpr ⟨ndT.sublist (List.erase_sublist), asc_nodup (hdead.sublist sD), fun a ha b hb e => by
      subst e
      exact ((hmem a).mp (sD.subset hb)).2 (hTL a (List.mem_of_mem_erase ha))⟩
    refine lev (q + D.length) (by omega) _ (allE_mem (hLn y (hTL y hy)) ?_ (srt_asc nd) fun z hz => ?_)
    · rw [pm.length_eq, List.length_append, List.length_erase_of_mem hy]
      omega
    · rcases List.mem_append.mp (pm.mem_iff.mp hz) with hz | hz
      · exact ⟨hLn z (hTL z (List.mem_of_mem_erase hz)), fun e => hyE (by rw [show y = z from e.symm]; rw [show y = z from e.symm] at hz; exact hz)⟩
      · have := (hmem z).mp (sD.subset hz)
        exact ⟨this.1, fun e => this.2 (by rw [show z = y from e]; exact hTL y hy)⟩
  rw [e1]
  unfold prL
  have key : ∀ l : List (List Nat), ((l.flatMap fun D => T.map fun x => (D, x)).map fun p => w (q + p.1.length)).sum = (l.map fun D => (q + 1) * w (q + D.length)).sum := by
    intro l
    induction l with
    | nil => rfl
    | cons D l ih =>
      rw [List.flatMap_cons, List.map_append, List.sum_append, List.map_cons, List.sum_cons, ih, List.map_map]
      congr 1
      show (T.map fun _ => w (q + D.length)).sum = _
      rw [sum_const, hTl]
  exact key _
end Ef
namespace Ef
/-! ### the shares of sets and of servers -/
theorem combs_one {cs : List (List Nat)} {k : List Nat} (hn : cs.Nodup) (h : k ∈ cs) : cs.countP (fun T => decide (k = T)) = 1 :=
  countP_one hn h fun b _ => by
    rw [decide_eq_true_iff]
    exact ⟨fun e => e.symm, fun e => e.symm⟩
/-- the set of the first live servers is one of the sets -/
theorem first_mem {n d q : Nat} {L : List Nat} {rows : List (List Nat)} (G : Tab n d rows) (aL : Asc L) (hlive : ∀ r ∈ rows, q ≤ (lvL L r).length) : ∀ r ∈ rows, srt ((lvL L r).take q) ∈ combs L q := fun r hr => by
  obtain ⟨_, g2, _⟩ := G r hr
  have nd : ((lvL L r).take q).Nodup := (g2.filter _).sublist (List.take_sublist _ _)
  have pm := srt_perm ((lvL L r).take q)
  have hl : (srt ((lvL L r).take q)).length = q := by
    rw [pm.length_eq, List.length_take]
    have := hlive r hr
    omega
  have := combs_mem L _ (ascSub (srt_asc nd) aL fun y hy => by
    have h1 := List.mem_filter.mp (List.mem_of_mem_take (pm.mem_iff.mp hy))
    exact of_decide_eq_true h1.2)
  rw [hl] at this
  exact this
theorem held_total {n d q : Nat} {L : List Nat} {rows : List (List Nat)} (G : Tab n d rows) (aL : Asc L) (hlive : ∀ r ∈ rows, q ≤ (lvL L r).length) : ((combs L q).map fun T => heldN L q rows T).sum = rows.length := by
  have e : ((combs L q).map fun T => heldN L q rows T) = (combs L q).map fun T => rows.countP ((fun T r => decide (srt ((lvL L r).take q) = T)) T) := rfl
  rw [e, swap_sum, sum_congr' (g := fun _ => 1) fun r hr => combs_one (combsNodup L q (asc_nodup aL)) (first_mem G aL hlive r hr), sum_const, Nat.mul_one]
/-- what there is to know of a live set and a factor -/
structure Live (n d q : Nat) (L : List Nat) (rows : List (List Nat)) : Prop where
  tab : Tab n d rows
  asc : Asc L
  lt : ∀ y ∈ L, y < n
  q1 : 1 ≤ q
  qL : q ≤ L.length
  fit : q + (n - L.length) ≤ d
  lev : ∀ s, s < q + (n - L.length) → ∃ w, Lev n s w rows
def deadL (n : Nat) (L : List Nat) : List Nat := (List.range' 0 n).filter fun y => !decide (y ∈ L)
theorem dead_mem {n : Nat} {L : List Nat} (y : Nat) : y ∈ deadL n L ↔ y < n ∧ y ∉ L := by
  unfold deadL
  rw [List.mem_filter, mem_range0]
  simp
theorem dead_asc (n : Nat) (L : List Nat) : Asc (deadL n L) := (asc_range' n 0).filter _
theorem live_dead {n : Nat} {L : List Nat} (aL : Asc L) (hL : ∀ y ∈ L, y < n) : L.length + (deadL n L).length = n := by
  have p : (L ++ deadL n L).Perm (List.range' 0 n) := by
    refine (List.perm_ext_iff_of_nodup ?_ (asc_nodup (asc_range' n 0))).mpr fun y => ?_
    · refine List.nodup_append.mpr ⟨asc_nodup aL, asc_nodup (dead_asc n L), fun a ha b hb e => ?_⟩
      subst e
      exact ((dead_mem a).mp hb).2 ha
    · rw [List.mem_append, dead_mem, mem_range0]
      constructor
      · rintro (h | h)
        · exact hL y h
        · exact h.1
      · intro h
        by_cases c : y ∈ L
        · exact .inl c
        · exact .inr ⟨h, c⟩
  have := p.length_eq
  rw [List.length_append, List.length_range'] at this
  exact this
/-- every list has enough live servers -/
theorem enough {n d : Nat} {L : List Nat} {rows : List (List Nat)} (G : Tab n d rows) (aL : Asc L) (hL : ∀ y ∈ L, y < n) {q : Nat} (h : q + (n - L.length) ≤ d) : ∀ r ∈ rows, q ≤ (lvL L r).length := fun r hr => by
  obtain ⟨g1, g2, g3⟩ := G r hr
  have p := (lv_dd L r).length_eq
  rw [List.length_append, g1] at p
  have h2 : (ddL L r).length ≤ (deadL n L).length := subG_len (g2.filter _) fun y hy => by
    have h1 := List.mem_filter.mp hy
    exact (dead_mem y).mpr ⟨g3 y h1.1, by simpa using h1.2⟩
  have := live_dead aL hL
  omega
theorem Live.enough {n d q : Nat} {L : List Nat} {rows : List (List Nat)} (h : Live n d q L rows) : ∀ r ∈ rows, q ≤ (lvL L r).length := Ef.enough h.tab h.asc h.lt h.fit
theorem Live.const {n d q : Nat} {L : List Nat} {rows : List (List Nat)} (h : Live n d q L rows) : ∃ F, ∀ T ∈ combs L q, heldN L q rows T = F := by
  obtain ⟨p, rfl⟩ : ∃ p, q = p + 1 := ⟨q - 1, by have := h.q1; omega⟩
  have ld := live_dead h.asc h.lt
  have hf := h.fit
  have hq := h.qL
  let w : Nat → Nat := fun s => if hs : s < p + 1 + (n - L.length) then (h.lev s hs).choose else 0
  refine ⟨((subsA (deadL n L)).map fun D => (p + 1) * w (p + D.length)).sum, fun T hT => ?_⟩
  obtain ⟨g1, g2⟩ := combs_good L (p + 1) T hT
  refine held_even h.tab (h.asc.sublist g2) g1 (fun y hy => g2.subset hy) h.lt (dead_asc n L) dead_mem (by omega) h.enough fun s hs => ?_
  have hs2 : s < p + 1 + (n - L.length) := by omega
  have e : w s = (h.lev s hs2).choose := dif_pos hs2
  rw [e]
  exact (h.lev s hs2).choose_spec
/-- every set's share -/
theorem Live.held {n d q : Nat} {L : List Nat} {rows : List (List Nat)} (h : Live n d q L rows) : ∀ T ∈ combs L q, heldN L q rows T * C L.length q = rows.length := by
  obtain ⟨F, hF⟩ := h.const
  have t := held_total h.tab h.asc h.enough
  rw [sum_congr' (g := fun _ => F) hF, sum_const, combsLen] at t
  intro T hT
  rw [hF T hT, Nat.mul_comm]
  exact t
/-- how many lists have a server among the first live ones -/
def ldN (L : List Nat) (q : Nat) (rows : List (List Nat)) (y : Nat) : Nat := rows.countP fun r => decide (y ∈ (lvL L r).take q)
theorem combs_with : ∀ (l : List Nat) (k y : Nat), l.Nodup → y ∈ l → (combs l (k + 1)).countP (fun T => decide (y ∈ T)) = C (l.length - 1) k
  | [], k, y, _, h => absurd h List.not_mem_nil
  | x :: r, k, y, hn, h => by
    obtain ⟨h1, h2⟩ := List.nodup_cons.mp hn
    show ((combs r k).map (x :: ·) ++ combs r (k + 1)).countP _ = C (r.length + 1 - 1) k
    rw [List.countP_append, List.countP_map, Nat.add_sub_cancel]
    by_cases e : y = x
    · subst e
      have a1 : (combs r k).countP ((fun T => decide (y ∈ T)) ∘ fun T => y :: T) = (combs r k).length := List.countP_eq_length.mpr fun T _ => by simp
      have a2 : (combs r (k + 1)).countP (fun T => decide (y ∈ T)) = 0 := List.countP_eq_zero.mpr fun T hT z => h1 ((combs_good r (k + 1) T hT).2.subset (of_decide_eq_true z))
      rw [a1, a2, combsLen]
      rfl
    · have hy : y ∈ r := (List.mem_cons.mp h).resolve_left e
      have rp := List.length_pos_of_mem hy
      have a1 : (combs r k).countP ((fun T => decide (y ∈ T)) ∘ fun T => x :: T) = (combs r k).countP fun T => decide (y ∈ T) := List.countP_congr fun T _ => by simp [e]
      rw [a1, combs_with r k y h2 hy]
      cases k with
      | zero =>
        rw [combs_zero]
        show 0 + C (r.length - 1) 0 = C r.length 0
        rw [C_zero, C_zero]
      | succ k =>
        rw [combs_with r k y h2 hy]
        obtain ⟨m, em⟩ : ∃ m, r.length = m + 1 := ⟨r.length - 1, by omega⟩
        rw [em]
        rfl
theorem Live.load {n d q : Nat} {L : List Nat} {rows : List (List Nat)} (h : Live n d q L rows) : ∀ y ∈ L, ldN L q rows y * L.length = rows.length * q := fun y hy => by
  obtain ⟨p, rfl⟩ : ∃ p, q = p + 1 := ⟨q - 1, by have := h.q1; omega⟩
  obtain ⟨F, hF⟩ := h.const
  have hq := h.qL
  have t := held_total h.tab h.asc h.enough
  rw [sum_congr' (g := fun _ => F) hF, sum_const, combsLen] at t
  -- the sets with this server
  have e1 : ldN L (p + 1) rows y = (((combs L (p + 1)).filter fun T => decide (y ∈ T)).map fun T => heldN L (p + 1) rows T).sum := by
    have e2 : (((combs L (p + 1)).filter fun T => decide (y ∈ T)).map fun T => heldN L (p + 1) rows T) = ((combs L (p + 1)).filter fun T => decide (y ∈ T)).map fun T => rows.countP ((fun T r => decide (srt ((lvL L r).take (p + 1)) = T)) T) := rfl
    rw [e2, swap_sum]
    unfold ldN
    rw [← sum_ind]
    refine sum_congr' fun r hr => ?_
    have hm := first_mem h.tab h.asc h.enough r hr
    have nd := (combsNodup L (p + 1) (asc_nodup h.asc)).filter fun T => decide (y ∈ T)
    have pm := srt_perm ((lvL L r).take (p + 1))
    by_cases c : y ∈ (lvL L r).take (p + 1)
    · rw [if_pos (decide_eq_true c)]
      exact (combs_one nd (List.mem_filter.mpr ⟨hm, decide_eq_true (pm.mem_iff.mpr c)⟩)).symm
    · rw [if_neg (fun z => c (of_decide_eq_true z))]
      refine (List.countP_eq_zero.mpr fun T hT z => c ?_).symm
      have hT2 := of_decide_eq_true (List.mem_filter.mp hT).2
      rw [← of_decide_eq_true z] at hT2
      exact pm.mem_iff.mp hT2
  have e3 : ((combs L (p + 1)).filter fun T => decide (y ∈ T)).length = C (L.length - 1) p := by
    rw [← List.countP_eq_length_filter]
    exact combs_with L p y (asc_nodup h.asc) hy
  rw [e1, sum_congr' (g := fun _ => F) fun T hT => hF T (List.mem_filter.mp hT).1, sum_const, e3, ← t]
  have e4 := edge_alt2 (n := L.length) (i := p) (by omega)
  rw [Nat.mul_right_comm, Nat.mul_comm (C (L.length - 1) p) L.length, ← e4, Nat.mul_right_comm]
/-! what the levels do not tell: the order of the rows, the names of the servers -/
theorem Lev.perm {n s w : Nat} {rows rows' : List (List Nat)} (p : rows'.Perm rows) (h : Lev n s w rows) : Lev n s w rows' := fun e he => (cE_perm (p.map _) e).trans (h e he)
theorem Tab.perm {n d : Nat} {rows rows' : List (List Nat)} (p : rows'.Perm rows) (h : Tab n d rows) : Tab n d rows' := fun r hr => h r (p.mem_iff.mp hr)
/-- servers renamed -/
structure Names (n : Nat) (f g : Nat → Nat) : Prop where
  fn : ∀ x, x < n → f x < n
  gn : ∀ x, x < n → g x < n
  gf : ∀ x, x < n → g (f x) = x
  fg : ∀ x, x < n → f (g x) = x
theorem names_of {n : Nat} {ns : List Nat} (p : ns.Perm (List.range' 0 n)) : Names n (fun x => ns.getD x 0) (fun y => ns.idxOf y) := by
  have hl : ns.length = n := by
    rw [p.length_eq, List.length_range']
  have nd : ns.Nodup := p.nodup_iff.mpr (asc_nodup (asc_range' n 0))
  have at_ : ∀ x, x < n → ns[x]? = some (ns.getD x 0) := fun x hx => getD_of (by omega)
  have mem : ∀ y, y < n → y ∈ ns := fun y hy => p.mem_iff.mpr (mem_range0.mpr hy)
  refine ⟨fun x hx => mem_range0.mp (p.mem_iff.mp (List.mem_of_getElem? (at_ x hx))), fun x hx => ?_, fun x hx => ?_, fun x hx => ?_⟩
  · have := List.idxOf_lt_length_of_mem (mem x hx)
    omega
  · have h1 := at_ x hx
    have h2 := idx_at (List.mem_of_getElem? h1)
    exact nodup_inj nd h2 h1
  · show ns.getD (ns.idxOf x) 0 = x
    rw [List.getD_eq_getElem?_getD, idx_at (mem x hx)]
    rfl
theorem Names.inj {n : Nat} {f g : Nat → Nat} (N : Names n f g) {a b : Nat} (ha : a < n) (hb : b < n) (e : f a = f b) : a = b := by
  rw [← N.gf a ha, ← N.gf b hb, e]
theorem Names.tab {n d : Nat} {f g : Nat → Nat} {rows : List (List Nat)} (N : Names n f g) (h : Tab n d rows) : Tab n d (rows.map fun r => r.map f) := fun r hr => by
  obtain ⟨r0, hr0, rfl⟩ := List.mem_map.mp hr
  obtain ⟨h1, h2, h3⟩ := h r0 hr0
  refine ⟨by rw [List.length_map]; exact h1, ?_, fun x hx => ?_⟩
  · refine List.pairwise_map.mpr (List.Pairwise.imp_of_mem (fun {a b} ha hb hab e => hab (N.inj (h3 a ha) (h3 b hb) e)) h2)
  · obtain ⟨y, hy, rfl⟩ := List.mem_map.mp hx
    exact N.fn y (h3 y hy)
theorem map_back {n : Nat} {f g : Nat → Nat} {l : List Nat} (hl : ∀ x ∈ l, x < n) (h : ∀ x, x < n → g (f x) = x) : (l.map f).map g = l := by
  rw [List.map_map]
  conv => rhs; rw [← List.map_id l]
  exact List.map_congr_left fun x hx => h x (hl x hx)
theorem Names.lev {n d s w : Nat} {f g : Nat → Nat} {rows : List (List Nat)} (N : Names n f g) (G : Tab n d rows) (hs : s < d) (h : Lev n s w rows) : Lev n s w (rows.map fun r => r.map f) := fun e he => by
  obtain ⟨x, hx, he⟩ := List.mem_flatMap.mp he
  obtain ⟨S, hS, rfl⟩ := List.mem_map.mp he
  obtain ⟨g1, g2⟩ := combs_good _ _ _ hS
  have hxn := List.mem_range.mp hx
  have memS : ∀ y ∈ S, y < n ∧ y ≠ x := fun y hy => by
    have := List.mem_filter.mp (g2.subset hy)
    exact ⟨List.mem_range.mp this.1, by simpa using this.2⟩
  have ascS : Asc S := (without_asc n x).sublist g2
  have hin : (srt (S.map g), g x) ∈ allE n s := by
    have pm := srt_perm (S.map g)
    have nd : (S.map g).Nodup := List.pairwise_map.mpr (List.Pairwise.imp_of_mem (fun {a b} ha hb hab e => hab (by rw [← N.fg a (memS a ha).1, ← N.fg b (memS b hb).1, e])) (asc_nodup ascS))
    refine allE_mem (N.gn x hxn) (by rw [pm.length_eq, List.length_map, g1]) (srt_asc nd) fun y hy => ?_
    obtain ⟨z, hz, rfl⟩ := List.mem_map.mp (pm.mem_iff.mp hy)
    exact ⟨N.gn z (memS z hz).1, fun e => (memS z hz).2 (by rw [← N.fg z (memS z hz).1, ← N.fg x hxn, e])⟩
  rw [← h _ hin, List.map_map, cE_map, cE_map]
  refine List.countP_congr fun r hr => ?_
  obtain ⟨h1, h2, h3⟩ := G r hr
  have hlt : s < r.length := by omega
  rw [decide_eq_true_iff, decide_eq_true_iff]
  have ex : (r.map f).getD s 0 = f (r.getD s 0) := by
    rw [List.getD_eq_getElem?_getD, List.getD_eq_getElem?_getD, List.getElem?_map, List.getElem?_eq_getElem hlt]
    rfl
  have hrs : r.getD s 0 < n := by
    rw [List.getD_eq_getElem?_getD, List.getElem?_eq_getElem hlt]
    exact h3 _ (List.getElem_mem _)
  have ht : ∀ y ∈ r.take s, y < n := fun y hy => h3 y (List.mem_of_mem_take hy)
  show edgE s (r.map f) = (S, x) ↔ edgE s r = (srt (S.map g), g x)
  unfold edgE
  rw [ex, ← List.map_take]
  constructor
  · intro e
    have e1 : srt ((r.take s).map f) = S := congrArg Prod.fst e
    have e2 : f (r.getD s 0) = x := congrArg Prod.snd e
    have p1 : ((r.take s).map f).Perm S := (srt_perm _).symm.trans (e1 ▸ List.Perm.refl _)
    have p2 := p1.map g
    rw [map_back ht N.gf] at p2
    rw [srt_eq p2, ← e2, N.gf _ hrs]
  · intro e
    have e1 : srt (r.take s) = srt (S.map g) := congrArg Prod.fst e
    have e2 : r.getD s 0 = g x := congrArg Prod.snd e
    have p2 := (perm_of_srt e1).map f
    rw [map_back (fun y hy => (memS y hy).1) N.fg] at p2
    rw [srt_eq p2, srt_self ascS, e2, N.fg x hxn]
end Ef
set_option maxHeartbeats 4000000
namespace Ef
open PySem PySem.Spec PyProof.Rows L2 PySem.NumText
/-! ### int(text) of more than 640 signs; a text many times over -/
theorem digits_wp {M : Model} {A : Around} {E : Value → Shared → Prop} {s : Shared} {Q : Nat → Shared → Prop} (hn : s.heap.NoDigits) (h : Q 4300 s) : wpAny M A Builtin.intMaxStrDigits Q E s := by
  obtain ⟨mc, hns, hnone⟩ := hn
  unfold Builtin.intMaxStrDigits
  refine wpAny_bind (wpAny_nsGet hns ?_)
  rw [hnone]
  exact wpAny_pure h
theorem wp_textL {M : Model} {A : Around} {E : Value → Shared → Prop} {s : Shared} {Q : Value → Shared → Prop} {v : Value} {text : List Nat} {n : Int}
    (hs : ¬ (text.takeWhile (· != 0)).length ≤ 640) (hn : s.heap.NoDigits) (hr : (int_private% "readNumeral") 4300 10 (text.takeWhile (· != 0)) = (int_private% "Numeral.value") n)
    (ha : ((text.takeWhile (· != 0)).length == text.length) = true) (h : Q (.int n s.toks) { s with toks := s.toks + 1 }) :
    wpAny M A ((int_private% "intFromText") v text 10) Q E s := by
  obtain ⟨hp, g, d, tk, os⟩ := s
  repeat (any_goals (first
    | assumption
    | (with_reducible refine wpAny_ite_false (decide_eq_false hs) ?_)
    | (with_reducible refine digits_wp hn ?_)
    | (with_reducible refine wpAny_ite_true (decide_eq_true ha) ?_)
    | wp_step))
  rw [hr]
  dsimp only
  refine wpAny_ite_true (decide_eq_true ha) ?_
  repeat (any_goals (first
    | assumption
    | wp_step))
structure HidL (p : Prop) : Prop where
  out : p
theorem meets_textL {x : Str} {u : Tok} {n : Int} (hl : x.length ≤ 4300) (hb : ¬ (numSeenOf x).length ≤ 640) (hn : PySem.intText? x = some n) :
    Meets (Builtin.«int.__new__» ⟨[.type "int", .str x u], []⟩) (fun _ R s => s.heap.NoDigits ∧ R (.ok (.ret (.int n s.toks))) { s with toks := s.toks + 1 }) := by
  intro prog w A R s ⟨hd, h⟩
  obtain ⟨hp, g, d, tk, os⟩ := s
  have f1 := F.conv_sub_int
  have f2 := F.madeHere_int
  have f3 := PySem.W.KIN.str_int
  have f4 := PySem.W.KIN.str_idx
  have f5 := PySem.W.KIN.str_trunc
  have f6 : typeOf (.str x u) = pure (.type "str") := rfl
  have hr : (int_private% "readNumeral") 4300 10 (numSeenOf x) = (int_private% "Numeral.value") n ∧ ((numSeenOf x).length == (numTextOf x).length) = true := by
    rcases read4300 x (by rw [sizeLine_eq]; omega) with ⟨m, h1, h2, h3⟩ | ⟨h1, _⟩
    · rw [hn] at h1
      injection h1 with h1
      subst h1
      exact ⟨h3, h2⟩
    · rw [hn] at h1
      cases h1
  have hk := HidL.mk (And.intro hb (And.intro hd hr))
  clear hb hr hl hn hd
  repeat (any_goals (first
    | assumption
    | ((with_reducible show wpAny _ _ ((int_private% "intFromText") _ _ _) _ _ _); refine wp_textL hk.out.1 hk.out.2.1 hk.out.2.2.1 hk.out.2.2.2 ?_)
    | wp_step))
  all_goals first | exact h | skip
  done
theorem ns_none {K : PySem.W.Frag} {h : Heap} {ns : Addr} {mg : Str → Option Value} {n : Str} (X : K.In h) (G : h.Ns ns mg) (e : PySem.W.nsIn K ns n = some none) : mg n = none := by
  obtain ⟨o, es, ep, ho, hd, _, hf⟩ := G
  unfold PySem.W.nsIn at e
  cases q : K.lookup ns with
  | none =>
    rw [q] at e
    cases e
  | some o' =>
    have := X _ _ q
    rw [ho] at this
    obtain rfl := Option.some.inj this
    rw [q] at e
    obtain ⟨oc, od, dat, sl⟩ := o
    dsimp only at hd
    subst hd
    dsimp only at e
    split at e
    · cases e
    · rename_i he
      rw [← hf]
      unfold nsFind findBy
      rw [← Array.find?_toList, he]
      rfl
section
variable {X : Cx}
def rIntL : List V → Hp → VK → Prop := fun xs H Q => ∃ a n, xs = [V.str a] ∧ PySem.intText? a = some n ∧ ¬ (numSeenOf a).length ≤ 640 ∧ a.length ≤ 4300 ∧ Q (.int n) H
theorem cr_intL {K : PySem.W.Frag} (hk : PySem.W.nsIn K cStatics "sys.int_max_str_digits" = some none) (h : X.K = K := by rfl) : CallR X (.type "int") rIntL := by
  subst h
  intro pins s σ H xs us Q I rs h
  obtain ⟨a, n, rfl, hn, hb, hl, q⟩ := h
  cases rs with
  | cons r1 rs =>
    cases rs
    obtain ⟨t, rfl⟩ := r1
    obtain ⟨mc, hns, _⟩ := I.nolimit
    exact call_int_1 (meets_textL hl hb hn) ⟨⟨mc, hns, ns_none I.kIn hns hk⟩, rfl, ⟨.int n, H, I.tok _, ⟨_, rfl⟩, q⟩⟩
/-- a text many times over -/
def rRepS : R2 := fun x y H Q => ∃ (a : Str) (n : Int), x = V.str a ∧ y = V.int n ∧ 2 ≤ n ∧ n ≤ 100000 ∧ 1 ≤ a.length ∧ a.length ≤ 10 ∧ (⟨(List.replicate n.toNat a.cps).foldl (· ++ ·) #[]⟩ : Str).length ≤ sizeLine ∧ Q (.str ⟨(List.replicate n.toNat a.cps).foldl (· ++ ·) #[]⟩) H
theorem op_repS : OpR X (binaryOp .Mult) rRepS := by
  intro pins s σ H x y v u Q I rx ry h
  obtain ⟨a, n, rfl, rfl, h1, h2, h3, h4, h5, q⟩ := h
  obtain ⟨t, rfl⟩ := rx
  obtain ⟨t', rfl⟩ := ry
  have hm : a.length * n.toNat ≤ 10 * 100000 := Nat.mul_le_mul h4 (by omega)
  have c1 : (n == 1 || a.length == 0) = false := by
    rw [Bool.or_eq_false_iff]
    exact ⟨beq_false_of_ne (by omega), beq_false_of_ne (by omega)⟩
  refine P.mul_str (by rw [decide_eq_false (by omega), decide_eq_false (by omega)]; rfl) (fun _ _ => ?_) (fun _ _ => ?_) ?_
  · have : (2 ^ 63 - 1 : Int) / n ≥ 1000 := by
      refine (Int.le_ediv_iff_mul_le (by omega)).mpr ?_
      omega
    omega
  · unfold Builtin.Str.tooLong
    refine decide_eq_false ?_
    rw [sizeLine_eq]
    omega
  · rw [if_neg (by omega), c1]
    exact ⟨h5, ⟨.str _, H, I.tok _, ⟨_, rfl⟩, q⟩⟩
end
/-- '1' and 900 zeros -/
def zeros900 : Str := ⟨(List.replicate (900 : Int).toNat (Str.ofString "0").cps).foldl (· ++ ·) #[]⟩
theorem fold_rep : ∀ (k : Nat) (acc : Array Nat), ((List.replicate k #[48]).foldl (· ++ ·) acc).toList = acc.toList ++ List.replicate k 48
  | 0, acc => by simp
  | k + 1, acc => by
    rw [List.replicate_succ, List.foldl_cons, fold_rep k, Array.toList_append, List.append_assoc]
    rfl
theorem zero_cps : (Str.ofString "0").cps = #[48] := by decide +kernel
theorem one_cps : (Str.ofString "1").cps = #[49] := by decide +kernel
theorem zeros_cps : zeros900.cps.toList = List.replicate 900 48 := by
  show ((List.replicate (900 : Int).toNat (Str.ofString "0").cps).foldl (· ++ ·) #[]).toList = _
  rw [zero_cps, fold_rep]
  rfl
theorem zeros_len : zeros900.length = 900 := by
  show zeros900.cps.size = 900
  rw [← Array.length_toList, zeros_cps, List.length_replicate]
theorem big_cps : (Str.ofString "1" ++ zeros900).cps.toList = 49 :: List.replicate 900 48 := by
  show ((Str.ofString "1").cps ++ zeros900.cps).toList = _
  rw [Array.toList_append, zeros_cps, one_cps]
  rfl
theorem big_len : (Str.ofString "1" ++ zeros900).length = 901 := by
  show (Str.ofString "1" ++ zeros900).cps.size = 901
  rw [← Array.length_toList, big_cps, List.length_cons, List.length_replicate]
theorem big_digits : AllDigits (Str.ofString "1" ++ zeros900).cps.toList := by
  rw [big_cps]
  intro c hc
  rcases List.mem_cons.mp hc with rfl | hc
  · decide
  · rw [List.eq_of_mem_replicate hc]
    decide
theorem val_rep : ∀ (k a : Nat), (List.replicate k 48).foldl (fun acc c => acc * 10 + (c - 48)) a = a * 10 ^ k
  | 0, a => by simp
  | k + 1, a => by
    rw [List.replicate_succ, List.foldl_cons, val_rep k, Nat.pow_succ]
    show (a * 10 + 0) * 10 ^ k = _
    rw [Nat.add_zero, Nat.mul_assoc, Nat.mul_comm 10]
theorem pow_cast (k : Nat) : ((10 ^ k : Nat) : Int) = (10 : Int) ^ k := Int.natCast_pow 10 k
theorem big_text : PySem.intText? (Str.ofString "1" ++ zeros900) = some (10 ^ 900) := by
  rw [intText_digits big_digits (by rw [big_cps]; exact List.cons_ne_nil _ _) (by rw [big_len]; decide), big_cps]
  have e : ∀ k, digitsVal (49 :: List.replicate k 48) = 10 ^ k := fun k => by
    show (List.replicate k 48).foldl (fun acc c => acc * 10 + (c - 48)) 1 = _
    rw [val_rep, Nat.one_mul]
  have f : ∀ k, some ((digitsVal (49 :: List.replicate k 48) : Nat) : Int) = some ((10 : Int) ^ k) := fun k => by rw [e, pow_cast]
  exact f 900
theorem big_seen : ¬ (numSeenOf (Str.ofString "1" ++ zeros900)).length ≤ 640 := by
  rw [(numText_signs fun c hc => .inr (big_digits c hc)).2, Array.length_toList]
  show ¬ (Str.ofString "1" ++ zeros900).length ≤ 640
  rw [big_len]
  decide
end Ef
namespace Ef
open PySem PySem.Spec PyProof.Rows L2 LamX
/-! ### a law that makes lambdas: its end -/
/-- the code object of the def at f -/
def CodeOf (K : PySem.W.Frag) (f c : Addr) : Prop := ∃ (o : Obj) (fd : FuncData), K.lookup f = some o ∧ o.data = .func fd ∧ fd.code = .ref c
theorem codeOf_tab {K : PySem.W.Frag} {x : Str} {f c P : Addr} (h1 : PySem.W.nsIn K mainGlobals x = some (some (.ref f))) (h2 : PySem.W.tabIn K x = some (c, P)) : CodeOf K f c := by
  unfold PySem.W.tabIn at h2
  rw [h1] at h2
  dsimp only at h2
  split at h2
  · rename_i fd osl e
    split at h2
    · rename_i c2 ec
      split at h2
      · split at h2
        · obtain ⟨rfl, _⟩ := Prod.mk.inj (Option.some.inj h2)
          exact ⟨_, fd, e, rfl, ec⟩
        · cases h2
      · cases h2
    · cases h2
  · cases h2
section
variable {P : Program} {w : World} {K : PySem.W.Frag} {mg : Str → Option Value} {base : Heap}
theorem Fun_ok0C {x qual : Str} {st : Stmt} {f c : Addr} {fd : FuncData} {N ps : List Str} {k : Nat} {sp : Sp} (F : Fun K x qual st f fd) (co : CodeOf K f c) (S : FnScope N ps (defScope st)) (len : ∀ vs H Q E, sp vs H Q E → vs.length = ps.length)
    (bod : ∀ (A : Around) (outer : List Env) (s : Shared) (H : Hp) (vs : List V) (Q : VK) (E : XK), A.guards = some [] → Room k (A.deeper (envOfC qual (defScope st) s.heap.objs.size f (.ref c))) → sp vs H Q E →
      ∃ t, PSs (cxOf CX0 P w K mg base N qual (defScope st) f (.ref c) A outer s H E).nox (defBody st) t ∧ t { nx := fun _ H' => Q .non H', rt := Q } (start N vs) H) :
    FnG P w K mg base CX0 (k + 1) f fd ps sp := by
  obtain ⟨oc, od, kV, doc, pm, an, cdv, ct, osl, rfl, lk, hcd⟩ := F.ex
  obtain ⟨o, fd2, e1, e2, e3⟩ := co
  have ecd : cdv = .ref c := by
    rw [lk] at e1
    obtain rfl := Option.some.inj e1
    cases e2
    exact e3
  subst ecd
  refine ⟨len, fun A gd outer s H args us vs Q E room e0 bnd rel wish => ?_⟩
  refine run_ofS (N := N) (ps := ps) lk hcd S room e0 bnd rel (len _ _ _ _ wish) fun hr => ?_
  obtain ⟨t, pt, rd⟩ := bod A outer s H vs Q E gd hr wish
  exact ⟨t, pt.nox, rd⟩
end
def tabHp (K : PySem.W.Frag) (a : Addr) (vs : List Value) (ns : List Int) (ts : List Addr) : Hp := fun b => if b ∈ ts then some (.tbl #[]) else scriptHp K a vs ns b
section
variable {K : PySem.W.Frag} {a : Addr} {vs : List Value} {ns : List Int} {ts : List Addr}
theorem tabHp_in {b : Addr} (h : b ∈ ts) : tabHp K a vs ns ts b = some (.tbl #[]) := if_pos h
theorem tabHp_out {b : Addr} (h : b ∉ ts) : tabHp K a vs ns ts b = scriptHp K a vs ns b := if_neg h
theorem tabHp_some {b : Addr} {u : HO} (h : tabHp K a vs ns ts b = some u) : (b ∈ ts ∧ u = .tbl #[]) ∨ (b ∉ ts ∧ b = a ∧ K.lookup a = none ∧ u = .frz (scriptObj vs) (.lst (ns.map V.int))) := by
  by_cases c : b ∈ ts
  · rw [tabHp_in c] at h
    exact .inl ⟨c, (Option.some.inj h).symm⟩
  · rw [tabHp_out c] at h
    exact .inr ⟨c, scriptHp_some h⟩
theorem tabHp_none {b : Addr} {o : Obj} {h : Heap} (ht : ∀ p ∈ ts, h.get? p = some (PySem.W.tabObj #[])) (ha : h.get? a = some (scriptObj vs)) (e : h.get? b = some o) (hd : ∀ its n, o.data ≠ .seq its n) (hf : o.data ≠ .fields #[]) : tabHp K a vs ns ts b = none := by
  have nb : b ∉ ts := fun z => by
    have e2 := ht b z
    rw [e] at e2
    obtain rfl := Option.some.inj e2
    exact hf rfl
  rw [tabHp_out nb]
  exact scriptHp_none ha e hd
end
/-- what is asked of a law with tables: cs tells the defs that make lambdas, their code objects and tables -/
def LawT (q : Program) (l : PySem.W.OpenLaw) (w : World) (K : PySem.W.Frag) (k n : Nat) (x : Str) (mg : Str → Option Value) (fa : Addr) : Prop :=
  ∃ (fd : FuncData) (cs : List (Str × Addr × Addr)) (sp : Sp), (∀ p ∈ cs, PySem.W.tabIn K p.1 = some p.2 ∧ K.lookup p.2.2 = none ∧ ((recsOf q).find? fun e => e.name == p.1).isSome = true) ∧
    (∀ (s : Shared) (u : Value), BindsTo s fd ⟨[u], []⟩ [(x, u)]) ∧
    (∀ (H : Hp) (a : Addr) (ns : List Int), ns.length ≤ n → (∀ p ∈ cs, H p.2.2 = some (.tbl #[])) → SqL K H a (ns.map V.int) → sp [.ref a] H (fun v _ => v = .bl true) fun _ _ _ => False) ∧
    ∀ base : Heap, K.In base → base.Ns mainGlobals mg → (∀ p ∈ cs, TabB base mg p.2.1 p.2.2) → FnG l.prog w K mg base CX0 k fa fd [x] sp
theorem lawGT {l : PySem.W.OpenLaw} {n k : Nat} {q : Program} {loose : List Str} {XP : (Str → Option Value) → Heap → Prop} {YP : World → Heap → Prop} {d : DefRec} {K : Params → PySem.W.Frag} {x : Str}
    (hn : l.most = some n) (hn2 : n ≤ sizeLine) (hdf : d.params.defaults = []) (room : Room k callerA)
    (hY : ∀ (w : World) (h : Heap), YP w h → (K w.params).In h)
    (F : ∀ (w : World) (mg : Str → Option Value) (fa : Addr) (h : Heap), (K w.params).In h → h.Ns mainGlobals mg → mg d.name = some (.ref fa) → LawT q l w (K w.params) k n x mg fa) :
    PySem.W.WalkO q loose XP YP l.row.toRowW d [] (fun f vs => PySem.call f vs) := by
  refine Att.attach_call hn hdf fun w s₀ s₁ mg mb fa o pm cd doc a vs ns G Y ho hd hcd hmg hobj hints hlen hgen => ?_
  have kin := hY w _ Y
  obtain ⟨fd, cs, sp, tbs, bnd, hsp, FF⟩ := F w mg fa _ kin G.T.g hmg
  have ha : s₁.heap.get? a = some (scriptObj vs) := hobj
  have short : ns.length ≤ sizeLine := Nat.le_trans hlen hn2
  have tabs : ∀ p ∈ cs, PySem.W.CodeHd s₁.heap p.2.1 p.2.2 ∧ s₁.heap.get? p.2.2 = some (PySem.W.tabObj #[]) := fun p hp => by
    obtain ⟨t1, t2, t3⟩ := tbs p hp
    obtain ⟨dr, hdr⟩ := Option.isSome_iff_exists.mp t3
    exact PySem.W.tab_of G.T kin hdr t1
  have ht : ∀ b ∈ cs.map (fun p => p.2.2), s₁.heap.get? b = some (PySem.W.tabObj #[]) := fun b hb => by
    obtain ⟨p, hp, rfl⟩ := List.mem_map.mp hb
    exact (tabs p hp).2
  have mem : ∀ p ∈ cs, p.2.2 ∈ cs.map (fun p => p.2.2) := fun p hp => List.mem_map.mpr ⟨p, hp, rfl⟩
  have na : a ∉ cs.map (fun p => p.2.2) := fun z => by
    have e := ht a z
    rw [ha] at e
    have e2 := congrArg Obj.data (Option.some.inj e)
    cases e2
  generalize hH : tabHp (K w.params) a vs ns (cs.map fun p => p.2.2) = H
  have some' : ∀ {b : Addr} {u : HO}, H b = some u → (b ∈ cs.map (fun p => p.2.2) ∧ u = .tbl #[]) ∨ (b ∉ cs.map (fun p => p.2.2) ∧ b = a ∧ (K w.params).lookup a = none ∧ u = .frz (scriptObj vs) (.lst (ns.map V.int))) := fun z => by
    rw [← hH] at z
    exact tabHp_some z
  have none' : ∀ {b : Addr} {o : Obj}, s₁.heap.get? b = some o → (∀ its n, o.data ≠ .seq its n) → o.data ≠ .fields #[] → H b = none := fun e h1 h2 => by
    rw [← hH]
    exact tabHp_none ht ha e h1 h2
  have keep0 : ∀ {b : Addr} {o : Obj}, s₁.heap.get? b = some o → H b = none → (hidT s₁.heap H).get? b = some o := fun e z => hidT_get e z
  have nsK : ∀ {b : Addr} {m : Str → Option Value}, s₁.heap.Ns b m → (hidT s₁.heap H).Ns b m := by
    rintro b m ⟨o, es, ep, e, dd, r⟩
    refine ⟨o, es, ep, keep0 e (none' e (fun its n z => ?_) fun z => ?_), dd, r⟩ <;> · rw [dd] at z; cases z
  have kinB : (K w.params).In (hidT s₁.heap H) := fun b o e => keep0 (kin b o e) (by
    cases z : H b with
    | none => rfl
    | some u =>
      rcases some' z with ⟨z1, _⟩ | ⟨_, rfl, z2, _⟩
      · obtain ⟨p, hp, rfl⟩ := List.mem_map.mp z1
        rw [(tbs p hp).2.1] at e
        cases e
      · rw [z2] at e
        cases e)
  have hM : Mod (K w.params) mg (hidT s₁.heap H) := by
    obtain ⟨mc, h1, h2⟩ := G.T.nolimit
    exact ⟨kinB, nsK G.T.g, ⟨mb, nsK G.T.b, G.T.builtins⟩, ⟨mc, nsK h1, h2⟩⟩
  have hok : HOk l.prog w H s₁.heap := fun b u z => by
    rcases some' z with ⟨z1, rfl⟩ | ⟨_, rfl, _, rfl⟩
    · exact ht b z1
    · exact ⟨ha, by rw [List.length_map]; exact short, vs, _, vals_ints hints, ha⟩
  have hS : SqL (K w.params) H a (ns.map V.int) := by
    cases hk : (K w.params).lookup a with
    | none =>
      refine .inl (.inr ⟨scriptObj vs, ?_⟩)
      rw [← hH, tabHp_out na]
      exact if_pos ⟨rfl, hk⟩
    | some o =>
      have e := kin a o hk
      rw [ha] at e
      obtain rfl := Option.some.inj e
      exact .inr ⟨_, vs.toArray, _, hk, rfl, rfl, rfl, by rw [List.size_toArray, hints.length]; exact short, by simpa using vals_ints hints⟩
  have hT : ∀ p ∈ cs, H p.2.2 = some (.tbl #[]) := fun p hp => by
    rw [← hH]
    exact tabHp_in (mem p hp)
  have TB : ∀ p ∈ cs, TabB (hidT s₁.heap H) mg p.2.1 p.2.2 := fun p hp => by
    obtain ⟨c1, c2⟩ := tabs p hp
    refine ⟨?_, ?_, fun z => ?_⟩
    · obtain ⟨o, us, file, tf, flags, tg, inF, text, tt, e1, r1, r2, r3, rr⟩ := c1
      refine ⟨o, us, file, tf, flags, tg, inF, text, tt, keep0 e1 (none' e1 (fun its n z => ?_) fun z => ?_), r1, r2, r3, rr⟩
      · rw [r2] at z
        cases z
      · rw [r2] at z
        cases z
        simp at r3
    · obtain ⟨bm, ob, b1, b2, b3, b4, b5, b6⟩ := G.T.bmain
      refine ⟨bm, ob, b1, b2, fun z => ?_, fun z => ?_, keep0 b3 (none' b3 (fun its n z => ?_) fun z => ?_), b4, b5, b6⟩
      · obtain ⟨o, es, ep, e, dd, _⟩ := G.T.g
        rw [z, e] at b3
        cases b3
        rw [dd] at b6
        cases b6
      · rw [z, c2] at b3
        cases b3
        cases b6
      · rw [b6] at z
        cases z
      · rw [b6] at z
        cases z
    · obtain ⟨o, es, ep, e, dd, _⟩ := G.T.g
      rw [z, c2] at e
      cases e
      cases dd
  have e0 : Env0 l.prog w (K w.params) mg (hidT s₁.heap H) callerA [] s₁ H :=
    ⟨rfl, hM, fun b o e => of_hidT e, Nat.le_of_eq (hidT_size _ _), trivial, fun b z => absurd (show b ∈ ([] : List Addr) from z) (by simp), hok, .of_eq hgen⟩
  refine codeAny_mono ((FF _ kinB (nsK G.T.g) TB).run callerA rfl [] s₁ _ ⟨[.ref a], []⟩ [.ref a] [.ref a] _ _ room e0 (bnd s₁ (.ref a)) (.cons rfl .nil) (hsp _ a ns hlen hT hS)) fun r s' got => ?_
  cases r with
  | error e => exact got.elim
  | ok fl =>
    cases fl with
    | next => exact got.elim
    | brk => exact got.elim
    | cont => exact got.elim
    | ret u =>
      obtain ⟨v, H', os, bare, un, hok', rv, z⟩ := got
      obtain rfl : v = .bl true := z
      obtain rfl : u = Value.bool true := rv
      have grown : ∀ p ∈ cs, ∃ more : Array Value, s'.heap.get? p.2.2 = some (PySem.W.tabObj more) := fun p hp => by
        obtain ⟨more, z⟩ := un.tbls p.2.2 #[] (hT p hp)
        exact ⟨_, hok' p.2.2 _ z⟩
      have old : ∀ b o, b ∉ cs.map (fun p => p.2.2) → s₁.heap.get? b = some o → s'.heap.get? b = some o := fun b o nb e => by
        cases z : H b with
        | none => exact un.keep b o e z (fun y => absurd (show b ∈ ([] : List Addr) from y) (by simp)) (by simp)
        | some u =>
          rcases some' z with ⟨z1, _⟩ | ⟨_, rfl, _, rfl⟩
          · exact absurd z1 nb
          · obtain ⟨e2, _⟩ := hok' b _ (un.frzs b _ _ z)
            rw [ha] at e
            obtain rfl := Option.some.inj e
            exact e2
      refine ⟨rfl, ⟨fun b o e => ?_, fun b o e => ?_⟩, os, bare⟩
      · by_cases c : b ∈ cs.map (fun p => p.2.2)
        · obtain ⟨p, hp, rfl⟩ := List.mem_map.mp c
          obtain ⟨more, hm⟩ := grown p hp
          obtain ⟨c1, c2⟩ := tabs p hp
          rw [c2] at e
          obtain rfl := Option.some.inj e
          exact .inr (.inl ⟨(c1.tab c2).isCodeTable, rfl, #[], more, rfl, by rw [Array.empty_append]; exact hm⟩)
        · exact .inl (old b o c e)
      · by_cases c : b ∈ cs.map (fun p => p.2.2)
        · obtain ⟨p, hp, rfl⟩ := List.mem_map.mp c
          obtain ⟨more, hm⟩ := grown p hp
          exact ⟨_, hm⟩
        · exact ⟨o, old b o c e⟩
/-! ### the rules -/
section
variable {X : Cx}
theorem pe_lam {T : List (Addr × Str)} {TT : (XK → Hp → VK → Prop) → Hp → VK → Prop} {x a : Str} {g c P : Addr} {k : Nat} {st : Stmt} {fd : FuncData} {Ng : List Str} {params : Arguments} {body : Expr} {scope : Scope} {t : XK → TE} {p lpos pos : Pos}
    (F : Fun X.K x x st g fd) (hg : Gl X x) (hm : X.mg x = some (.ref g)) (hb : L2.Binds X.K fd [a] []) (Sg : FnScope Ng [a] (defScope st)) (hNg : Ng[0]? = some a) (hva : Vis (defScope st) a)
    (hG : ∀ cdg, GivesTo X Ng x (defScope st) g cdg (defBody st) a (X.env.qual ++ "<lambda>") TT)
    (TB : TabB X.base X.mg c P) (hcode : X.env.code = .ref c) (hmT : (P, X.env.qual ++ "<lambda>") ∈ T) (hu : ∀ p ∈ T, p.1 = P → p.2 = X.env.qual ++ "<lambda>") (hr : Room (k + 2) X.A) (L : LamS X.env.scope scope)
    (hbody : ∀ (A : Around) (outer : List Env) (s : Shared) (H : Hp) (E : XK) (f c' : Addr), Room k (A.deeper (lamEnv X scope s.heap.objs.size f c')) → PE (lamCx X A outer s H E scope f c') body (t E))
    (hdef : defaultsOf params X.env = ([], []) := by rfl)
    (hbind : ∀ (q : Str) (cl : List (Str × Addr)) (pm cv ctv : Value), bindArgs (PySem.W.kla_fn "<lambda>" q params body scope cl pm cv ctv) ⟨[], []⟩ = pure [] := by intros; rfl)
    (hdb : (x == ("__debug__" : Str)) = false := by decide) (hd : (a == ("__debug__" : Str)) = false := by decide) (hcd : (a == ("__classdict__" : Str)) = false := by decide) :
    PE X (.Call (.Name x p) [.Lambda params body scope lpos] [] pos) (tLam T TT t) := by
  obtain ⟨oc, od, kV, doc, pm, an, cdv, ct, osl, rfl, lk, hcg⟩ := F.ex
  exact pe_lamcall hg hm F.kp lk hcg hb Sg hNg hva (hG cdv) TB hcode hmT hu hr L hdef hbind hbody hdb hd hcd
theorem takes_len {W : WX} (t : Takes X W) : Takes X (fun c d σ H => σ.length = X.N.length → W c d σ H) := fun u s' ⟨a, B, sI, pins, σ, H, cls, d, e, I, nb, up, sky, na, os, ag, w⟩ =>
  t u s' ⟨a, B, sI, pins, σ, H, cls, d, e, I, nb, up, sky, na, os, ag, w I.len⟩
/-- the call of what was handed in -/
def tAct (n : Nat) (W : WX) (f c' : Addr) (q : Str) (tl : XK → Hp → VK → Prop) : TE := fun σ H Q => ∃ E : XK, (∀ cls d σ' H', E cls d H' → σ'.length = n → W cls d σ' H') ∧ σ[0]? = some (some (.ref f)) ∧ H c' = some (CodeO c' q) ∧ tl E H Q
theorem pe_actE {f c' : Addr} {q : Str} {tl : XK → Hp → VK → Prop} {e : Expr} {W : WX} (n : Nat) (tk : Takes X W)
    (act : ∀ E : XK, ∀ W' : WX, Takes X W' → (∀ cls d σ' H', E cls d H' → W' cls d σ' H') → PE X e (fun σZ HZ Q => σZ[0]? = some (some (.ref f)) ∧ HZ c' = some (CodeO c' q) ∧ tl E HZ Q))
    (hn : X.N.length = n := by rfl) : PE X e (tAct n W f c' q tl) := by
  subst hn
  refine ⟨fun pins s σ H Q I h => ?_⟩
  obtain ⟨E, h1, h2, h3, h4⟩ := h
  exact (act E _ (takes_len tk) h1).run pins s σ H Q I ⟨h2, h3, h4⟩
theorem len5 {σ : L2.St} (h : σ.length = 5) : ∃ a b c d e, σ = [a, b, c, d, e] := by
  match σ, h with
  | [a, b, c, d, e], _ => exact ⟨a, b, c, d, e, rfl⟩
end
theorem hu1 {P : Addr} {q : Str} : ∀ p ∈ [(P, q)], p.1 = P → p.2 = q := fun p hp _ => by
  cases hp with
  | head => rfl
  | tail _ h => cases h
theorem hu2a {P P2 : Addr} {q q2 : Str} (ne : P ≠ P2) : ∀ p ∈ [(P, q), (P2, q2)], p.1 = P → p.2 = q := fun p hp e => by
  cases hp with
  | head => rfl
  | tail _ h =>
    cases h with
    | head => exact absurd e.symm ne
    | tail _ h => cases h
theorem hu2b {P P2 : Addr} {q q2 : Str} (ne : P ≠ P2) : ∀ p ∈ [(P, q), (P2, q2)], p.1 = P2 → p.2 = q2 := fun p hp e => by
  cases hp with
  | head => exact absurd e ne
  | tail _ h =>
    cases h with
    | head => rfl
    | tail _ h => cases h
/-! ### what is kept while tables grow -/
theorem tabs_same {T : List (Addr × Str)} {H H' : Hp} (t : Tabs T H) (s : Same H H') : Tabs T H' := t.ext s
theorem tabs_but {T : List (Addr × Str)} {H H' : Hp} {p : Addr} {xs : List V} (t : Tabs T H) (hp : H p = some (.lst xs)) (s : But p H H') : Tabs T H' := fun q hq => by
  obtain ⟨ps, h1, h2, h3⟩ := t q hq
  refine ⟨ps, s _ _ (fun z => ?_) h1, h2, fun pos cv hc => ?_⟩
  · rw [z, hp] at h1
    cases h1
  · obtain ⟨c, e1, e2⟩ := h3 pos cv hc
    refine ⟨c, e1, s _ _ (fun z => ?_) e2⟩
    rw [z, hp] at e2
    unfold CodeO at e2
    cases e2
theorem extN_same {H H' : Hp} (s : Same H H') : ExtN H H' := fun b o e _ => s b o e
def ButN (p : Addr) (H H' : Hp) : Prop := ∀ b o, b ≠ p → H b = some o → (∀ ps, o ≠ .tbl ps) → H' b = some o
theorem ButN.refl (p : Addr) (H : Hp) : ButN p H H := fun _ _ _ e _ => e
theorem ButN.of {p : Addr} {H H' : Hp} (s : But p H H') : ButN p H H' := fun b o n e _ => s b o n e
theorem ButN.ext {p : Addr} {H H' : Hp} (s : ExtN H H') : ButN p H H' := fun b o _ e n => s b o e n
theorem ButN.trans {p : Addr} {H H1 H2 : Hp} (s : ButN p H H1) (t : ButN p H1 H2) : ButN p H H2 := fun b o n e z => t b o n (s b o n e z) z
theorem ButN.same {p : Addr} {H H1 H2 : Hp} (s : ButN p H H1) (t : Same H1 H2) : ButN p H H2 := fun b o n e z => t b o (s b o n e z)
theorem ButN.tup {p t : Addr} {H H' : Hp} {xs : List V} (s : ButN p H H') (n : t ≠ p) (h : H t = some (.tup xs)) : H' t = some (.tup xs) := s _ _ n h (fun _ z => by cases z)
theorem ButN.lst {p t : Addr} {H H' : Hp} {xs : List V} (s : ButN p H H') (n : t ≠ p) (h : H t = some (.lst xs)) : H' t = some (.lst xs) := s _ _ n h (fun _ z => by cases z)
theorem extN_tup {t : Addr} {H H' : Hp} {xs : List V} (s : ExtN H H') (h : H t = some (.tup xs)) : H' t = some (.tup xs) := s _ _ h (fun _ z => by cases z)
theorem extN_lst {t : Addr} {H H' : Hp} {xs : List V} (s : ExtN H H') (h : H t = some (.lst xs)) : H' t = some (.lst xs) := s _ _ h (fun _ z => by cases z)
theorem SqL_butN {K : PySem.W.Frag} {H H' : Hp} {a p : Addr} {xs : List V} (h : SqL K H a xs) (np : H p = none) (s : ButN p H H') : SqL K H' a xs := by
  rcases h with (h | ⟨o, h⟩) | h
  · exact .inl (.inl (s _ _ (ne_of_none h np) h (fun _ z => by cases z)))
  · exact .inl (.inr ⟨o, s _ _ (ne_of_none h np) h (fun _ z => by cases z)⟩)
  · exact .inr h
theorem SqL_extN {K : PySem.W.Frag} {H H' : Hp} {a : Addr} {xs : List V} (h : SqL K H a xs) (s : ExtN H H') : SqL K H' a xs := by
  rcases h with (h | ⟨o, h⟩) | h
  · exact .inl (.inl (s _ _ h (fun _ z => by cases z)))
  · exact .inl (.inr ⟨o, s _ _ h (fun _ z => by cases z)⟩)
  · exact .inr h
theorem SqT_extN {K : PySem.W.Frag} {H H' : Hp} {a : Addr} {xs : List V} (h : SqT K H a xs) (s : ExtN H H') : SqT K H' a xs := by
  rcases h with (h | ⟨o, h⟩) | h
  · exact .inl (.inl (s _ _ h (fun _ z => by cases z)))
  · exact .inl (.inr ⟨o, s _ _ h (fun _ z => by cases z)⟩)
  · exact .inr h
end Ef
namespace Ef
open PySem PySem.Spec PyProof.Rows L2
/-! ### data with empty dicts in it, shown -/
mutual
inductive Dz (K : PySem.W.Frag) (H : Hp) : V → PyData → Prop
  | non : Dz K H .non .none
  | bl (b : Bool) : Dz K H (.bl b) (.bool b)
  | int (i : Int) : Dz K H (.int i) (.int i)
  | str (x : Str) : Dz K H (.str x) (.str x)
  | dic {p : Addr} : H p = some (.dK []) → Dz K H (.ref p) (.dict [])
  | tup {a : Addr} {xs : List V} {ds : List PyData} : SqT K H a xs → DzAll K H xs ds → Dz K H (.ref a) (.tuple ds)
  | lst {a : Addr} {xs : List V} {ds : List PyData} : SqL K H a xs → a ≠ sysModules → DzAll K H xs ds → Dz K H (.ref a) (.list ds)
inductive DzAll (K : PySem.W.Frag) (H : Hp) : List V → List PyData → Prop
  | nil : DzAll K H [] []
  | cons {v : V} {vs : List V} {d : PyData} {ds : List PyData} : Dz K H v d → DzAll K H vs ds → DzAll K H (v :: vs) (d :: ds)
end
section
variable {K : PySem.W.Frag} {H H' : Hp}
mutual
theorem Dz.mono (e : ∀ b o, H b = some o → (∀ ps, o ≠ .tbl ps) → H' b = some o) : ∀ {v : V} {d : PyData}, Dz K H v d → Dz K H' v d
  | _, _, .non => .non
  | _, _, .bl b => .bl b
  | _, _, .int i => .int i
  | _, _, .str x => .str x
  | _, _, .dic h => .dic (e _ _ h (fun _ z => by cases z))
  | _, _, .tup h a => .tup (by
      rcases h with (h | ⟨o, h⟩) | h
      · exact .inl (.inl (e _ _ h (fun _ z => by cases z)))
      · exact .inl (.inr ⟨o, e _ _ h (fun _ z => by cases z)⟩)
      · exact .inr h) (DzAll.mono e a)
  | _, _, .lst h n a => .lst (by
      rcases h with (h | ⟨o, h⟩) | h
      · exact .inl (.inl (e _ _ h (fun _ z => by cases z)))
      · exact .inl (.inr ⟨o, e _ _ h (fun _ z => by cases z)⟩)
      · exact .inr h) n (DzAll.mono e a)
theorem DzAll.mono (e : ∀ b o, H b = some o → (∀ ps, o ≠ .tbl ps) → H' b = some o) : ∀ {vs : List V} {ds : List PyData}, DzAll K H vs ds → DzAll K H' vs ds
  | _, _, .nil => .nil
  | _, _, .cons a b => .cons (Dz.mono e a) (DzAll.mono e b)
end
end
section
variable {X : Cx} {pins : List (Addr × Obj)} {σ : L2.St} {H : Hp} {s : Shared}
theorem dz_app {a : Addr} {xs ys : List Addr} (h1 : a ∉ xs) (h2 : a ∉ ys) : a ∉ xs ++ ys := fun z => (List.mem_append.mp z).elim h1 h2
mutual
theorem Dz.reads (I : Inv X pins σ H s) : ∀ (d : PyData) (v : V) (u : Value), Dz X.K H v d → RelV v u → ∃ as, Reads s.heap u d as ∧ sysModules ∉ as
  | .none, _, _, h, r => by
    cases h
    cases r
    exact ⟨_, Reads.none, List.not_mem_nil⟩
  | .bool b, _, _, h, r => by
    cases h
    cases r
    exact ⟨_, Reads.bool b, List.not_mem_nil⟩
  | .int i, _, _, h, r => by
    cases h
    obtain ⟨t, rfl⟩ := r
    exact ⟨_, Reads.int i t, List.not_mem_nil⟩
  | .str x, _, _, h, r => by
    cases h
    obtain ⟨t, rfl⟩ := r
    exact ⟨_, Reads.str x t, List.not_mem_nil⟩
  | .list ds, _, _, h, r => by
    cases h with
    | lst hs n ha =>
      cases r
      obtain ⟨its, rv, ⟨o, nn, ho, hc, _, hd⟩, _⟩ := I.list hs
      obtain ⟨as, hr, hn⟩ := Dz.readsAll I ds _ its ha rv
      refine ⟨_, Reads.list ho hc hd hr, fun z => ?_⟩
      rcases List.mem_cons.mp z with e | e
      · exact n e.symm
      · exact hn e
  | .tuple ds, _, _, h, r => by
    cases h with
    | tup hs ha =>
      cases r
      obtain ⟨its, rv, ⟨o, ho, hc, n, hd⟩, _⟩ := I.tuple hs
      obtain ⟨as, hr, hn⟩ := Dz.readsAll I ds _ its ha rv
      exact ⟨_, Reads.tuple ho hc hd hr, hn⟩
  | .dict kvs, _, _, h, r => by
    cases h with
    | dic hp =>
      rename_i p
      cases r
      obtain ⟨_, hsys, vs, kv, o, es, ep, ho, hx, hd, hk, hpr, hn⟩ := dk_of I.hok hp
      have e1 : vs = [] := by
        cases kv
        rfl
      subst e1
      have e2 : es.toList = [] := by
        generalize es.toList = l at hpr ⊢
        cases hpr
        rfl
      have rd : Reads s.heap (.ref p) (.dict []) (p :: [] ++ []) := by
        refine .dict ho hx.1 hd ?_ ?_
        · rw [e2]
          exact .nil
        · rw [e2]
          exact .nil
      refine ⟨_, rd, fun z => ?_⟩
      have e3 : sysModules = p := by simpa using z
      rw [← e3] at hsys
      exact absurd hsys (by simp)
theorem Dz.readsAll (I : Inv X pins σ H s) : ∀ (ds : List PyData) (vs : List V) (us : List Value), DzAll X.K H vs ds → Vals vs us → ∃ as, ReadsAll s.heap us ds as ∧ sysModules ∉ as
  | [], _, _, h, r => by
    cases h
    cases r
    exact ⟨_, ReadsAll.nil, List.not_mem_nil⟩
  | d :: ds, _, _, h, r => by
    cases h with
    | cons h1 h2 =>
      cases r with
      | cons r1 r2 =>
        obtain ⟨as, q1, n1⟩ := Dz.reads I d _ _ h1 r1
        obtain ⟨bs, q2, n2⟩ := Dz.readsAll I ds _ _ h2 r2
        exact ⟨_, ReadsAll.cons q1 q2, dz_app n1 n2⟩
end
end
/-- what may be shown: plain data, or data with empty dicts in it -/
def ShowV (K : PySem.W.Frag) (H : Hp) (v : V) (d : PyData) : Prop := (Dp K H v d ∧ Sh 60 80000 d) ∨ ∃ a, v = .ref a ∧ Dz K H v d ∧ d.showable = true ∧ d.depth ≤ 60 ∧ d.shown.length ≤ sizeLine
def rReprZ (K : PySem.W.Frag) : List V → Hp → VK → Prop := fun xs H Q => ∃ v d, xs = [v] ∧ ShowV K H v d ∧ Q (.str d.shown) H
section
variable {X : Cx} (K : PySem.W.Frag)
theorem call_reprZ (gd : X.A.guards = some []) (hu : X.A.units + 66 < cLine) (h : X.K = K := by rfl) : CallR X (.builtin "repr") (rReprZ K) := by
  subst h
  intro pins s σ H xs us Q I r h
  obtain ⟨v, d, rfl, hv, q⟩ := h
  rcases hv with ⟨hD, hS⟩ | ⟨a, rfl, hz, hsh, hdp, hsz⟩
  · exact call_reprD gd hu pins s σ H _ us Q I r ⟨v, d, rfl, hD, hS, q⟩
  · obtain ⟨u, rfl, ru⟩ := vals1 r
    obtain ⟨as, rd, hn⟩ := Dz.reads I d _ _ hz ru
    obtain rfl : u = Value.ref a := ru
    refine repr_of_reads' rd hsh (fun _ => hn) gd (by omega) (fun _ _ e => e) (fun h' u tk hk => ?_) hsz
    exact ⟨.str _, H, I.kept hk, ⟨u, rfl⟩, q⟩
end
/-! ### a list times an int, its address told -/
def rRepN : R2 := fun x y H Q => ∃ l k xs, x = .ref l ∧ y = .int k ∧ H l = some (.lst xs) ∧ 0 ≤ k ∧ k < 2 ^ 63 ∧ xs.length * k.toNat ≤ sizeLine ∧ ∀ p, H p = none → p ≠ sysModules → Q (.ref p) (upd H p (.lst (List.replicate k.toNat xs).flatten))
section
variable {X : Cx}
theorem rep_fold (its : List Value) : ∀ m : Nat, List.foldl (fun a b => a ++ b) #[] (List.replicate m its.toArray) = (List.replicate m its).flatten.toArray := fun m => by
  have z := foldl_rep its m []
  rwa [List.nil_append] at z
theorem op_repN : OpR X (binaryOp .Mult) rRepN := by
  rintro pins s σ H _ _ v u Q I rx ry ⟨l, k, xs, rfl, rfl, hl, k0, k1, size, q⟩
  obtain rfl : v = Value.ref l := rx
  obtain ⟨tk, rfl⟩ := ry
  obtain ⟨lx, its, n, rel, len, get⟩ := I.lstM hl
  have fits : its.toArray.size * k.toNat ≤ sizeLine := by
    rw [List.size_toArray, ← len]
    exact size
  have line : (sizeLine : Nat) ≤ (2 ^ 63 - 1) / 8 := by decide
  have a1 : ¬ (!Builtin.List.listFitsIndex k) = true := by
    rw [fitsIndex_both (by omega) k1]
    decide
  have a2 : ¬ its.toArray.size * k.toNat > (2 ^ 63 - 1) / 8 := Nat.not_lt.mpr (Nat.le_trans fits line)
  have a3 : ¬ Builtin.List.listTooLong (its.toArray.size * k.toNat) = true := by
    rw [notLongL fits]
    decide
  have whole : List.foldl (fun a b => a ++ b) #[] (List.replicate (if its.toArray.isEmpty = true then 0 else k.toNat) its.toArray) = (List.replicate k.toNat its).flatten.toArray := by
    rw [rep_fold]
    cases its <;> simp
  refine wpAny_binaryOp_repeat_ref (T := "list") (U := "int") (by decide) ⟨_, get, rfl⟩ (fun s' => typeIs_int s' k tk) noFill_list_mul F.fills_int_mul F.slot_int_rmul repeat_list F.slot_int_index.lookup (call_meets F.slot_int_rmul (typeIs_int s k tk) F.entry_int_rmul (F.args_int_rmul_2 _ _) (int___rmul___int_list k tk l its.toArray n) ⟨get, rfl, ⟨_, get, rfl⟩, ?_⟩)
  refine call_meets F.slot_list_mul ⟨_, get, rfl⟩ F.entry_list_mul (F.args_list_mul_2 _ _) (AutoListH.list___mul___list_int_3 l its.toArray n k tk a1 a2 a3) ⟨get, ?_⟩
  rw [whole]
  refine ⟨.ref _, _, I.lnew (t' := s.toks) (rel.rep k.toNat) ?_, rfl, q _ I.fresh (far_new I)⟩
  rw [PyProof.Rows.lm_len_rep_flat, Nat.mul_comm]
  exact size
end
end Ef
set_option maxHeartbeats 4000000
namespace Ef
open PySem PySem.Spec PyProof.Rows L2
/-! ### len(x), x an instance with fields whose class answers it by a def of its own -/
section
variable {prog : Program} {w : World} {A : Around} {E : Value → Shared → Prop} {s : Shared} {K : PySem.W.Frag} {x C g : Addr} {ox : Obj} {odd : Option Obj}
theorem lenOwn_run {Q : Value → Shared → Prop} (X : K.In s.heap) (I : PySem.W.InstAt s.heap x ox C odd) (hs : PySem.W.findIn K (.ref C) "__len__" = some (some (.ref g))) (hf : PySem.W.isFn K (.ref g) = true)
    (h : wpAny (model prog w) A.in1 (call (.ref g) [.ref x]) (fun r s₁ => ∃ (n : Nat) (u : Tok), r = Value.int n u ∧ (n : Int) < 2 ^ 63 ∧ Q (.int n s₁.toks) { s₁ with toks := s₁.toks + 1 }) E s) : wpAny (model prog w) A (call (.builtin "len") [.ref x]) Q E s := by
  refine Calls.call_function_entry kind_len plain_len entry_len (args_len1 _) ?_
  unfold Builtin.«len»
  refine wpAny_bind (m := oneArg "len" _) (wpAny_pure ?_)
  refine wpAny_bind (m := callSpecial? (.ref x) (PySem.Str.ofString "__len__")) (PySem.W.special_fn X I hs (beq_iff_eq.mp hf) (wpAny_mono h (fun r s' hr => ?_) fun _ _ y => y))
  obtain ⟨n, u, rfl, hn, q⟩ := hr
  refine wpAny_bind (wpAny_holding (wpAny_pure ?_))
  refine wpAny_bind (wpAny_letGo ?_)
  show wpAny _ _ (if ((n : Nat) : Int) < 0 then _ else _) _ _ _
  rw [if_neg (by omega)]
  show wpAny _ _ (if ((n : Nat) : Int) ≥ 2 ^ 63 then _ else _) _ _ _
  rw [if_neg (by omega)]
  exact wpAny_bind (wpAny_mkInt (wpAny_pure ⟨_, rfl, q⟩))
end
section
variable {X : Cx} {CX : CXT} {C g : Addr} {fd : FuncData} {sp : Sp} {n : Nat} {E : XK}
def rLenOwn (C : Addr) (sp : Sp) (E : XK) : List V → Hp → VK → Prop := fun xs H Q => ∃ (a dx : Addr) (fs : List (Str × V)), xs = [V.ref a] ∧ H a = some (.ins C dx fs) ∧ sp [.ref a] H (fun z H' => ∃ m : Nat, z = .int m ∧ (m : Int) < 2 ^ 63 ∧ Q (.int m) H') E
theorem call_lenOwn (hm : Meth X.K C "__len__" g) (F : FnOk X.prog X.w X.K X.mg X.base CX n g fd ["self"] sp) (hb : Binds X.K fd ["self"] []) (hr : Room (n + 1) X.A) (hx : Passes CX X E) : CallR X (.builtin "len") (rLenOwn C sp E) := by
  intro pins s σ H xs us Q I r h
  obtain ⟨a, dx, fs, rfl, ha, q⟩ := h
  obtain ⟨u, rfl, ru⟩ := r.one
  cases (show u = Value.ref a from ru)
  obtain ⟨mA, O, _, _, _, _⟩ := ins_get I.hok ha
  obtain ⟨od, ho, _⟩ := lookIn_ns O.ns
  refine lenOwn_run I.kIn (ox := PySem.W.instObj C dx) (odd := some od) ⟨O.obj, rfl, rfl, ho⟩ hm.at_ hm.fn (wpAny_call (codeAny_mono (F.run X.A.in1 X.stack s H ⟨[.ref a], []⟩ [.ref a] [.ref a] _ E hr.in1 I.env0.in1 (hb s [.ref a] I.kIn rfl) (.cons rfl .nil) q) fun r s' hq => ?_))
  cases r with
  | error e => exact hx _ σ H s e s' I hq
  | ok fl =>
    cases fl with
    | ret u =>
      obtain ⟨z, H', I', rz, m, rfl, hm', qz⟩ := I.after hq
      obtain ⟨t, e⟩ := (show ∃ t, u = Value.int m t from rz)
      cases e
      exact ⟨m, t, rfl, hm', .int m, H', I'.tok _, ⟨_, rfl⟩, qz⟩
    | next => exact False.elim hq
    | brk => exact False.elim hq
    | cont => exact False.elim hq
end
end Ef
set_option maxHeartbeats 4000000
namespace Ef
open PySem PySem.Spec PyProof.Rows L2
section
variable {X : Cx} {C : Addr} {bmB : List Value} {B newId initId : String}
/-! ### X(), an own exception class without an __init__ of its own, made with nothing -/
theorem pmk_own0 {x : Str} {p pos : Pos} (F : ExcBaseFacts B newId initId bmB) (q : PySem.W.excIn X.K C bmB newId = true) (gC : X.mg x = some (.ref C)) (kC : PySem.W.keepIn X.K (.ref C) = true) (r : Raises X (.ref C)) (hg : Gl X x)
    (hdb : (x == ("__debug__" : Str)) = false := by decide) : PMk X (.Call (.Name x p) [] [] pos) (fun _ H Q => Q (.ref C) none H) := by
  intro pins s σ H Q I h
  refine wpAny_Call_Name_kw (ld_glob I hg gC ?_ hdb)
  have I1 := I.tok (s.toks + 1)
  refine PySem.W.callWith_K0 I.kIn kC ?_
  show wpAny _ _ (call (.ref C) []) _ _ _
  obtain ⟨bm, N, nm, qn, bs, hdct, sn, sub, ab, col, dd, k0, k1, k2, k3, k5, mN, hC, hN, hni, T⟩ := exc_obj I.kIn q
  refine wpAny_call_exc_subT F T hC hN hni (fun h' e hm => ?_) (Nat.zero_le _)
  exact mk_of I hm r h (I.hok.gone hm.new)
end
/-! ### isinstance(x, c), x an exception that was kept and has no dict -/
def rIsX0 (K : PySem.W.Frag) : List V → Hp → VK → Prop := fun xs H Q => ∃ (a D : Addr) (c : V) (u : Value) (b : Bool), xs = [.ref a, c] ∧ H a = some (exk a (.ref D) none) ∧ ExcC K D ∧ ClsV c u ∧ PySem.W.kitOne K (.ref D) u = some b ∧ Q (.bl b) H
theorem call_isX0 {X : Cx} : CallR X (.builtin "isinstance") (rIsX0 X.K) := by
  intro pins s σ H xs us Q I r h
  obtain ⟨a, D, c, u, b, rfl, ea, T, k, e, q⟩ := h
  obtain ⟨u1, u2, rfl, r1, r2⟩ := vals2 r
  obtain rfl := k.eq r2
  obtain rfl : u1 = Value.ref a := r1
  obtain ⟨oe, vs, h1, h2, h3, h4⟩ := exk_at I.hok ea
  have J : PySem.W.InstAt s.heap a oe D none := ⟨h1, h2, by unfold PySem.W.notCls; rw [h4] <;> rfl, by rw [h3]; trivial⟩
  exact PySem.W.kia_one (PySem.W.handS_kitx_exc T.hg T.hk T.hs T.hd T.ha T.hn T.ht T.hm) I.kIn J e (fun z => nomatch z) fun tk => ⟨.bl b, H, I.tok tk, rfl, q⟩
end Ef
set_option maxHeartbeats 4000000
namespace Ef
open PySem PySem.Spec PyProof.Rows L2
/-! ### methods and constructors whose arguments are all given by name -/
/-- self, then what is given by name in the order of the parameters -/
def permM {α : Type} (perm : List Nat) (us ws : List α) : List α := us ++ perm.filterMap (fun i => ws[i]?)
theorem permM_rel {perm : List Nat} {vs zs : List V} {us ws : List Value} (r : Vals vs us) (rz : Vals zs ws) : Vals (permM perm vs zs) (permM perm us ws) := r.append (paired_pick rz perm)
theorem Fun_kbm {K : PySem.W.Frag} {x qual : Str} {st : Stmt} {f : Addr} {fd : FuncData} {ps ks : List Str} (perm : List Nat) (F : Fun K x qual st f fd)
    (h : ∀ (kV doc pm : Value) (an : Option Addr) (cdv ct : Value) (u : Value) (ws : List Value), ws.length = ks.length → bindArgs (PySem.W.fnOf x qual (defArgs st) (defBody st) (defScope st) .none kV doc pm an cdv ct) ⟨[u], ks.zip ws⟩ = pure (ps.zip (u :: perm.filterMap (fun i => ws[i]?)))) :
    KBn K fd ps 1 ks (permM perm) (permM perm) := by
  obtain ⟨oc, od, kV, doc, pm, an, cdv, ct, osl, rfl, lk, hcd⟩ := F.ex
  refine ⟨fun s us ws _ l1 l2 => ?_, fun r rz => permM_rel r rz⟩
  obtain ⟨u, rfl⟩ : ∃ u, us = [u] := by
    match us, l1 with
    | [u], _ => exact ⟨u, rfl⟩
  exact .of_eq (h kV doc pm an cdv ct u ws l2)
def tMethK (C : Addr) (m : Str) (sp : Sp) (gV : List V → List V → List V) (n : Nat) (E : XK) (ta : TE) (tk : TA) : TE := fun σ H Q => ta σ H fun x H1 => ∃ a dx fs, x = .ref a ∧ H1 a = some (.ins C dx fs) ∧ fs.lookup m = none ∧ tk σ H1 fun zs H2 => zs.length = n ∧ sp (gV [.ref a] zs) H2 Q E
section
variable {X : Cx} {CX : CXT} {k : Nat} {f C : Addr} {fd : FuncData} {ps ks : List Str} {sp : Sp} {E : XK} {m : Str} {pos apos : Pos} {o : Expr} {kws : List Keyword} {ta : TE} {tk : TA} {g : List Value → List Value → List Value} {gV : List V → List V → List V}
/-- o.m(k = v, ..) -/
theorem pe_methK {pl : Sem Bool} (he : PE X o ta) (c : Cls X.K C) (hm : Meth X.K C m f) (F : FnOk X.prog X.w X.K X.mg X.base CX k f fd ps sp) (hr : Room k X.A) (hb : KBn X.K fd ps 1 ks g gV) (hx : Passes CX X E) (hkw : PK X kws tk)
    (a1 : (backToKw pos (keywordEach kws X.env)).all (fun z => z.1.isSome) = true := by rfl)
    (a2 : (backToKw pos (keywordEach kws X.env)).filterMap (fun z => z.1) = ks := by rfl)
    (a4 : ((backTo pos (starEach [] X.env)).any (fun z => z.1) || (backToKw pos (keywordEach kws X.env)).any (fun z => z.1.isNone)) = false := by rfl)
    (ht : eval (.Call (.Attribute o m apos) [] kws pos) X.env = (do
      let ov ← eval o X.env
      standAt apos.atName
      let (f, first) ← holding [ov] (getMethod ov m pl)
      callWith pos f first (backTo pos (starEach [] X.env)) (backToKw pos (keywordEach kws X.env))) := by rfl) :
    PE X (.Call (.Attribute o m apos) [] kws pos) (tMethK C m sp gV ks.length E ta tk) := by
  refine ⟨fun pins s σ H Q I h => ?_⟩
  refine PySem.W.methodCall_KW (pl := pl) (thn (he.run pins s σ H _ I h) fun u s1 z => ?_) ht
  obtain ⟨x, H1, I1, rx, a, dx, fs, ex, ea, l, q⟩ := z
  subst ex
  obtain rfl : u = Value.ref a := rx
  refine getmeth_ok I1 ea c hm l ?_
  refine PySem.W.callWith_KW0 (first := [.ref a]) (h₀ := X.base) I.ok.mod.kin hm.kp a1 ?_ a4
  refine thn (hkw.run pos pins s1 σ H1 _ I1 q) fun ws s2 z => ?_
  obtain ⟨zs, H2, I2, rz, l2, q2⟩ := z
  refine ⟨I2.kIn, ?_⟩
  rw [a2]
  have r2 := hb.rel (us := [Value.ref a]) (vs := [V.ref a]) (.cons rfl .nil) rz
  refine wpAny_call (codeAny_mono (F.run X.A X.stack s2 H2 ⟨[.ref a], ks.zip ws⟩ (g [.ref a] ws) (gV [.ref a] zs) Q E hr I2.env0 (hb.to s2 [.ref a] ws I2.kIn rfl (rz.length.symm.trans l2)) r2 q2) fun r s' hq => ?_)
  cases r with
  | error e => exact hx pins σ H2 s2 e s' I2 hq
  | ok fl =>
    cases fl with
    | ret u => exact I2.after hq
    | next => exact False.elim hq
    | brk => exact False.elim hq
    | cont => exact False.elim hq
end
end Ef
set_option maxHeartbeats 4000000
namespace Ef
open PySem PySem.Spec PyProof.Rows L2
/-! ### a method called within a try: what it lets out is told of the slots as they stand -/
def tMethS (C : Addr) (m : Str) (sp : Sp) (E : L2.St → XK) (ta : TE) (t : TA) : TE := fun σ H Q => ta σ H fun x H1 => ∃ a dx fs, x = .ref a ∧ H1 a = some (.ins C dx fs) ∧ fs.lookup m = none ∧ t σ H1 fun vs H2 => sp (x :: vs) H2 Q (E σ)
section
variable {X : Cx} {CX : CXT} {k : Nat} {f C : Addr} {fd : FuncData} {ps : List Str} {sp : Sp} {E : L2.St → XK} {m : Str} {pos apos : Pos} {o e : Expr} {es : List Expr} {ta : TE} {t : TA}
theorem pe_methS {pl : Sem Bool} (he : PE X o ta) (c : Cls X.K C) (hm : Meth X.K C m f) (F : FnOk X.prog X.w X.K X.mg X.base CX k f fd ps sp) (hr : Room k X.A) (hb : L2.Binds X.K fd ps []) (hx : ∀ σ, PassesAt CX X σ (E σ)) (ha : PA X (e :: es) t)
    (a1 : starEach (e :: es) X.env = (false, eval e X.env) :: starEach es X.env := by rfl) (a2 : (backTo pos (starEach es X.env)).any (·.1) = false := by rfl)
    (a3 : eval (.Call (.Attribute o m apos) (e :: es) [] pos) X.env = (do
      let ov ← eval o X.env
      standAt apos.atName
      let (f, first) ← holding [ov] (getMethod ov m pl)
      callWith pos f first (backTo pos (starEach (e :: es) X.env)) (backToKw pos (keywordEach [] X.env))) := by rfl) :
    PE X (.Call (.Attribute o m apos) (e :: es) [] pos) (tMethS C m sp E ta t) := by
  refine ⟨fun pins s σ H Q I wish => ?_⟩
  refine PySem.W.methodCall_KW (pl := pl) (thn (he.run pins s σ H _ I wish) fun u s1 got => ?_) a3
  obtain ⟨x, H1, I1, rx, a, dx, fs, ex, ea, l, q⟩ := got
  subst ex
  obtain rfl : u = Value.ref a := rx
  refine getmeth_ok I1 ea c hm l ?_
  have W := ha.run pos pins s1 σ H1 _ I1 q
  exact PySem.W.callWith_K (first := [.ref a]) (h₀ := X.base) I.ok.mod.kin hm.kp (thn W fun us s2 got => by
    obtain ⟨vs, H2, I2, r, q2⟩ := got
    exact ⟨I2.kIn, run_fnS (us := .ref a :: us) (vs := .ref a :: vs) F hr hb (hx σ) I2 (.cons rfl r) q2⟩) a1 a2
end
/-! ### isinstance of a kept exception, or of a value of a known type -/
def rIsA (K : PySem.W.Frag) : List V → Hp → VK → Prop := fun xs H Q => rIsX K xs H Q ∨ rIsX0 K xs H Q ∨ rIsi K xs H Q
theorem call_isA {X : Cx} : CallR X (.builtin "isinstance") (rIsA X.K) := by
  intro pins s σ H xs us Q I r wish
  rcases wish with h | h | h
  · exact call_isX pins s σ H xs us Q I r h
  · exact call_isX0 pins s σ H xs us Q I r h
  · exact call_isi pins s σ H xs us Q I r h
end Ef
set_option maxHeartbeats 4000000
namespace Ef
open PySem PySem.Spec PyProof.Rows L2
/-! ### d.get(x), d a dict with texts as keys that is written at the top of a module -/
/-- what x holds in the dict at d: a value, or None -/
def GetKD (K : PySem.W.Frag) (d : Addr) (z : Str) (v : V) : Prop := ∃ r : Option Value, PySem.W.nsIn K d z = some r ∧ RelV v (r.getD .none)
def tGetKD (d : Addr) (K : PySem.W.Frag) (ta : TA) : TE := fun σ H Q => ta σ H fun ys H2 => ∃ (z : Str) (v : V), ys = [.str z] ∧ GetKD K d z v ∧ Q v H2
section
variable {X : Cx} {x : Str} {e : Expr} {ta : TA} {p apos cpos : Pos} {d : Addr} {es : Array DictEntry} {n : Nat}
theorem pe_getKD (D : KDict X.K X.w d es n) (hg : Gl X x) (hm : X.mg x = some (.ref d)) (ha : PA X [e] ta) (hdb : (x == ("__debug__" : Str)) = false := by decide)
    (hbase : attributeBase (.Name x p) "get" X.env (eval (.Name x p) X.env) = eval (.Name x p) X.env := by rfl)
    (hfew : ((backTo cpos (starEach [e] X.env)).all (fun x => !x.1) && (backToKw cpos (keywordEach [] X.env)).all (fun x => x.1.isSome)
      && decide ([e].length + ([] : List Keyword).length + (if ([] : List Keyword).isEmpty then 0 else 1) < 30)) = true := by rfl)
    (hline : (apos.endLine == cpos.line) = true := by rfl) (hs : starEach [e] X.env = (false, eval e X.env) :: starEach [] X.env := by rfl) (hplain : (backTo cpos (starEach [] X.env)).any (·.1) = false := by rfl) :
    PE X (.Call (.Attribute (.Name x p) "get" apos) [e] [] cpos) (tGetKD d X.K ta) := by
  refine ⟨fun pins s σ H Q I h => ?_⟩
  refine wpAny_Call_method_late hbase hfew hline rfl (ld_glob I hg hm ?_ hdb)
  have ob := I.kIn _ _ D.at_
  refine ⟨"dict", "dict.get", PySem.F.plainAttrs_dict, PySem.F.slot_dict_get, PySem.F.type_dict_get, ⟨_, ob, rfl⟩, fun b q => ?_, ?_⟩
  · cases q
    exact ⟨_, ob, rfl⟩
  have hA := ha.run cpos pins s σ H _ I h
  rw [hs] at hA ⊢
  refine Calls.callWith_builtin (by show (false || (backTo cpos (starEach [] X.env)).any (·.1)) = false; rw [hplain] <;> rfl) (Calls.evalArgs_plain ?_)
  refine thn hA fun us s2 z => ?_
  obtain ⟨vs, H2, I2, r2, k, v, rfl, ⟨r, hr, rv⟩, q⟩ := z
  obtain ⟨u, rfl, ru⟩ := r2.one
  obtain ⟨t, rfl⟩ := (show ∃ t, u = Value.str k t from ru)
  have mo := PySem.W.mapOf_K (prog := X.prog) (w := X.w) I2.kIn D.at_ D.lit
  refine call_meetsIn PySem.F.slot_dict_get mo.typeIs PySem.F.entry_dict_get (PySem.F.args_dict_get_2 _ _) (meets_dict_get (PySem.strKind X.prog X.w) d (PySem.strKind_is X.prog X.w k t) D.low) ⟨_, mo, ?_⟩
  rw [PySem.W.find_K D.at_ hr]
  exact ⟨v, H2, I2.tok _, rv, q⟩
end
end Ef
namespace Ef
open PySem PySem.Spec PyProof.Rows L2
def topS (i : Nat) : Stmt := PySem.Challenge.pw_evenfailover_k54_desk_beside_a_cluster.main.body.getD i (.Pass ⟨0, 0, 0, 0⟩)
abbrev sPlain : Stmt := topS 13
abbrev NPlain : List Str := ["thing"]
theorem scPlain : FnScope ["thing"] ["thing"] (defScope sPlain) := ⟨rfl, rfl, rfl, by decide +kernel, rfl, by decide +kernel, by decide +kernel⟩
abbrev sParts : Stmt := topS 14
abbrev NParts : List Str := ["n", "depth"]
theorem scParts : FnScope ["n", "depth"] ["n", "depth"] (defScope sParts) := ⟨rfl, rfl, rfl, by decide +kernel, rfl, by decide +kernel, by decide +kernel⟩
abbrev sPoss : Stmt := topS 15
abbrev NPoss : List Str := ["n", "depth", "count", "part"]
theorem scPoss : FnScope ["n", "depth", "count", "part"] ["n", "depth", "count"] (defScope sPoss) := ⟨rfl, rfl, rfl, by decide +kernel, rfl, by decide +kernel, by decide +kernel⟩
abbrev sReachOf : Stmt := topS 16
abbrev NReachOf : List Str := ["n", "failures", "factor"]
theorem scReachOf : FnScope ["n", "failures", "factor"] ["n", "failures", "factor"] (defScope sReachOf) := ⟨rfl, rfl, rfl, by decide +kernel, rfl, by decide +kernel, by decide +kernel⟩
abbrev sChkP : Stmt := topS 17
abbrev NChkP : List Str := ["n", "depth", "count"]
theorem scChkP : FnScope ["n", "depth", "count"] ["n", "depth", "count"] (defScope sChkP) := ⟨rfl, rfl, rfl, by decide +kernel, rfl, by decide +kernel, by decide +kernel⟩
abbrev sChkN : Stmt := topS 18
abbrev NChkN : List Str := ["value", "many"]
theorem scChkN : FnScope ["value", "many"] ["value", "many"] (defScope sChkN) := ⟨rfl, rfl, rfl, by decide +kernel, rfl, by decide +kernel, by decide +kernel⟩
abbrev sShared : Stmt := topS 20
abbrev NShared : List Str := ["total", "parts"]
theorem scShared : FnScope ["total", "parts"] ["total", "parts"] (defScope sShared) := ⟨rfl, rfl, rfl, by decide +kernel, rfl, by decide +kernel, by decide +kernel⟩
abbrev sHbSrv : Stmt := topS 21
abbrev NHbSrv : List Str := ["n", "count", "alive", "factor"]
theorem scHbSrv : FnScope ["n", "count", "alive", "factor"] ["n", "count", "alive", "factor"] (defScope sHbSrv) := ⟨rfl, rfl, rfl, by decide +kernel, rfl, by decide +kernel, by decide +kernel⟩
abbrev sWid : Stmt := topS 23
abbrev NWid : List Str := ["n", "depth", "count", "widths", "edges", "size"]
theorem scWid : FnScope ["n", "depth", "count", "widths", "edges", "size"] ["n", "depth", "count"] (defScope sWid) := ⟨rfl, rfl, rfl, by decide +kernel, rfl, by decide +kernel, by decide +kernel⟩
abbrev sFollow : Stmt := topS 24
abbrev NFollow : List Str := ["widths", "servers", "rest", "left", "taken", "width", "index", "server"]
theorem scFollow : FnScope ["widths", "servers", "rest", "left", "taken", "width", "index", "server"] ["widths", "servers", "rest"] (defScope sFollow) := ⟨rfl, rfl, rfl, by decide +kernel, rfl, by decide +kernel, by decide +kernel⟩
abbrev sPath : Stmt := topS 25
abbrev NPath : List Str := ["n", "depth", "count", "number"]
theorem scPath : FnScope ["n", "depth", "count", "number"] ["n", "depth", "count", "number"] (defScope sPath) := ⟨rfl, rfl, rfl, by decide +kernel, rfl, by decide +kernel, by decide +kernel⟩
abbrev sSet : Stmt := topS 27
abbrev NSet : List Str := ["n", "thing", "least", "server"]
theorem scSet : FnScope ["n", "thing", "least", "server"] ["n", "thing"] (defScope sSet) := ⟨rfl, rfl, rfl, by decide +kernel, rfl, by decide +kernel, by decide +kernel⟩
abbrev sOut : Stmt := topS 28
abbrev NOut : List Str := ["n", "members", "taken", "others", "server"]
theorem scOut : FnScope ["n", "members", "taken", "others", "server"] ["n", "members"] (defScope sOut) := ⟨rfl, rfl, rfl, by decide +kernel, rfl, by decide +kernel, by decide +kernel⟩
abbrev sJoined : Stmt := topS 29
abbrev NJoined : List Str := ["members", "server"]
theorem scJoined : FnScope ["members", "server"] ["members", "server"] (defScope sJoined) := ⟨rfl, rfl, rfl, by decide +kernel, rfl, by decide +kernel, by decide +kernel⟩
abbrev sHold : Stmt := topS 31
abbrev NHold : List Str := ["order", "live", "factor", "wanted", "found", "server"]
theorem scHold : FnScope ["order", "live", "factor", "wanted", "found", "server"] ["order", "live", "factor"] (defScope sHold) := ⟨rfl, rfl, rfl, by decide +kernel, rfl, by decide +kernel, by decide +kernel⟩
abbrev sSucc : Stmt := topS 33
abbrev NSucc : List Str := ["order", "live", "factor", "failed", "found"]
theorem scSucc : FnScope ["order", "live", "factor", "failed", "found"] ["order", "live", "factor", "failed"] (defScope sSucc) := ⟨rfl, rfl, rfl, by decide +kernel, rfl, by decide +kernel, by decide +kernel⟩
abbrev sChkF : Stmt := topS 38
abbrev NChkF : List Str := ["field", "value", "least", "most"]
theorem scChkF : FnScope ["field", "value", "least", "most"] ["field", "value", "least", "most"] (defScope sChkF) := ⟨rfl, rfl, rfl, by decide +kernel, rfl, by decide +kernel, by decide +kernel⟩
abbrev sShowR : Stmt := topS 42
abbrev NShowR : List Str := ["things", "thing"]
theorem scShowR : FnScope ["things", "thing"] ["things"] (defScope sShowR) := ⟨rfl, rfl, rfl, by decide +kernel, rfl, by decide +kernel, by decide +kernel⟩
abbrev sShowC : Stmt := topS 43
abbrev NShowC : List Str := ["cluster", "dead", "fields"]
theorem scShowC : FnScope ["cluster", "dead", "fields"] ["cluster"] (defScope sShowC) := ⟨rfl, rfl, rfl, by decide +kernel, rfl, by decide +kernel, by decide +kernel⟩
abbrev sNumW : Stmt := topS 44
abbrev NNumW : List Str := ["word"]
theorem scNumW : FnScope ["word"] ["word"] (defScope sNumW) := ⟨rfl, rfl, rfl, by decide +kernel, rfl, by decide +kernel, by decide +kernel⟩
abbrev sReadN : Stmt := topS 45
abbrev NReadN : List Str := ["words", "word"]
theorem scReadN : FnScope ["words", "word"] ["words"] (defScope sReadN) := ⟨rfl, rfl, rfl, by decide +kernel, rfl, by decide +kernel, by decide +kernel⟩
abbrev sReadF : Stmt := topS 46
abbrev NReadF : List Str := ["row", "name", "many", "words"]
theorem scReadF : FnScope ["row", "name", "many", "words"] ["row", "name", "many"] (defScope sReadF) := ⟨rfl, rfl, rfl, by decide +kernel, rfl, by decide +kernel, by decide +kernel⟩
abbrev sRowsOf : Stmt := topS 47
abbrev NRowsOf : List Str := ["text"]
theorem scRowsOf : FnScope ["text"] ["text"] (defScope sRowsOf) := ⟨rfl, rfl, rfl, by decide +kernel, rfl, by decide +kernel, by decide +kernel⟩
abbrev sReadH : Stmt := topS 48
abbrev NReadH : List Str := ["row", "fields", "n", "failures", "factor", "count"]
theorem scReadH : FnScope ["row", "fields", "n", "failures", "factor", "count"] ["row"] (defScope sReadH) := ⟨rfl, rfl, rfl, by decide +kernel, rfl, by decide +kernel, by decide +kernel⟩
abbrev sReadD : Stmt := topS 49
abbrev NReadD : List Str := ["cluster", "row", "words", "dead"]
theorem scReadD : FnScope ["cluster", "row", "words", "dead"] ["cluster", "row"] (defScope sReadD) := ⟨rfl, rfl, rfl, by decide +kernel, rfl, by decide +kernel, by decide +kernel⟩
abbrev sReadC : Stmt := topS 50
abbrev NReadC : List Str := ["text", "rows", "cluster", "dead"]
theorem scReadC : FnScope ["text", "rows", "cluster", "dead"] ["text"] (defScope sReadC) := ⟨rfl, rfl, rfl, by decide +kernel, rfl, by decide +kernel, by decide +kernel⟩
abbrev sReadL : Stmt := topS 53
abbrev NReadL : List Str := ["line", "words", "numbers"]
theorem scReadL : FnScope ["line", "words", "numbers"] ["line"] (defScope sReadL) := ⟨rfl, rfl, rfl, by decide +kernel, rfl, by decide +kernel, by decide +kernel⟩
abbrev sAnsAl : Stmt := topS 54
abbrev NAnsAl : List Str := ["cluster", "word"]
theorem scAnsAl : FnScope ["cluster", "word"] ["cluster", "word"] (defScope sAnsAl) := ⟨rfl, rfl, rfl, by decide +kernel, rfl, by decide +kernel, by decide +kernel⟩
abbrev sAnsOne : Stmt := topS 55
abbrev NAnsOne : List Str := ["cluster", "word", "number"]
theorem scAnsOne : FnScope ["cluster", "word", "number"] ["cluster", "word", "number"] (defScope sAnsOne) := ⟨rfl, rfl, rfl, by decide +kernel, rfl, by decide +kernel, by decide +kernel⟩
abbrev sAnsSucc : Stmt := topS 56
abbrev NAnsSucc : List Str := ["cluster", "shard", "server", "found"]
theorem scAnsSucc : FnScope ["cluster", "shard", "server", "found"] ["cluster", "shard", "server"] (defScope sAnsSucc) := ⟨rfl, rfl, rfl, by decide +kernel, rfl, by decide +kernel, by decide +kernel⟩
abbrev sStream : Stmt := topS 59
abbrev NStream : List Str := ["_law_script", "_law_k", "_law_cell", "_law_own"]
theorem scStream : FnScope ["_law_script", "_law_k", "_law_cell", "_law_own"] ["_law_script", "_law_k"] (defScope sStream) := ⟨rfl, rfl, rfl, by decide +kernel, rfl, by decide +kernel, by decide +kernel⟩
abbrev sDraw : Stmt := topS 60
abbrev NDraw : List Str := ["_law_stream_here", "_law_below", "_law_digit"]
theorem scDraw : FnScope ["_law_stream_here", "_law_below", "_law_digit"] ["_law_stream_here", "_law_below"] (defScope sDraw) := ⟨rfl, rfl, rfl, by decide +kernel, rfl, by decide +kernel, by decide +kernel⟩
abbrev sPick : Stmt := topS 61
abbrev NPick : List Str := ["_law_stream_here", "_law_items"]
theorem scPick : FnScope ["_law_stream_here", "_law_items"] ["_law_stream_here", "_law_items"] (defScope sPick) := ⟨rfl, rfl, rfl, by decide +kernel, rfl, by decide +kernel, by decide +kernel⟩
abbrev sComb : Stmt := topS 62
abbrev NComb : List Str := ["_law_n", "_law_k", "_law_found", "_law_step"]
theorem scComb : FnScope ["_law_n", "_law_k", "_law_found", "_law_step"] ["_law_n", "_law_k"] (defScope sComb) := ⟨rfl, rfl, rfl, by decide +kernel, rfl, by decide +kernel, by decide +kernel⟩
abbrev sOrderS : Stmt := topS 63
abbrev NOrderS : List Str := ["_law_n", "_law_depth", "_law_total", "_law_number", "_law_members", "_law_rest", "_law_found", "_law_size", "_law_width", "_law_others", "_law_one", "_law_chosen"]
theorem scOrderS : FnScope ["_law_n", "_law_depth", "_law_total", "_law_number", "_law_members", "_law_rest", "_law_found", "_law_size", "_law_width", "_law_others", "_law_one", "_law_chosen"] ["_law_n", "_law_depth", "_law_total", "_law_number"] (defScope sOrderS) := ⟨rfl, rfl, rfl, by decide +kernel, rfl, by decide +kernel, by decide +kernel⟩
abbrev sGcdS : Stmt := topS 64
abbrev NGcdS : List Str := ["_law_a", "_law_b"]
theorem scGcdS : FnScope ["_law_a", "_law_b"] ["_law_a", "_law_b"] (defScope sGcdS) := ⟨rfl, rfl, rfl, by decide +kernel, rfl, by decide +kernel, by decide +kernel⟩
abbrev sLeastS : Stmt := topS 65
abbrev NLeastS : List Str := ["_law_n", "_law_depth", "_law_found", "_law_size", "_law_part"]
theorem scLeastS : FnScope ["_law_n", "_law_depth", "_law_found", "_law_size", "_law_part"] ["_law_n", "_law_depth"] (defScope sLeastS) := ⟨rfl, rfl, rfl, by decide +kernel, rfl, by decide +kernel, by decide +kernel⟩
abbrev sSizesS : Stmt := topS 66
abbrev NSizesS : List Str := ["_law_stream_here", "_law_most", "_law_n", "_law_down", "_law_copies_of", "_law_depth"]
theorem scSizesS : FnScope ["_law_stream_here", "_law_most", "_law_n", "_law_down", "_law_copies_of", "_law_depth"] ["_law_stream_here", "_law_most"] (defScope sSizesS) := ⟨rfl, rfl, rfl, by decide +kernel, rfl, by decide +kernel, by decide +kernel⟩
abbrev sLOut54 : Stmt := topS 67
abbrev NLOut54 : List Str := ["_law_ask", "_law_caught", "_law_value", "error", "_law_found"]
theorem scLOut54 : FnScope ["_law_ask", "_law_caught", "_law_value", "error", "_law_found"] ["_law_ask"] (defScope sLOut54) := ⟨rfl, rfl, rfl, by decide +kernel, rfl, by decide +kernel, by decide +kernel⟩
abbrev sWords54 : Stmt := topS 68
abbrev NWords54 : List Str := ["_law_things", "_law_thing"]
theorem scWords54 : FnScope ["_law_things", "_law_thing"] ["_law_things"] (defScope sWords54) := ⟨rfl, rfl, rfl, by decide +kernel, rfl, by decide +kernel, by decide +kernel⟩
abbrev sList54 : Stmt := topS 69
abbrev NList54 : List Str := ["_law_sizes_here", "_law_number", "_law_n", "_law_down", "_law_copies_of", "_law_total"]
theorem scList54 : FnScope ["_law_sizes_here", "_law_number", "_law_n", "_law_down", "_law_copies_of", "_law_total"] ["_law_sizes_here", "_law_number"] (defScope sList54) := ⟨rfl, rfl, rfl, by decide +kernel, rfl, by decide +kernel, by decide +kernel⟩
abbrev sLine54 : Stmt := topS 70
abbrev NLine54 : List Str := ["_law_stream_here", "_law_sizes_here", "_law_n", "_law_down", "_law_copies_of", "_law_total", "_law_shard", "_law_server", "_law_some"]
theorem scLine54 : FnScope ["_law_stream_here", "_law_sizes_here", "_law_n", "_law_down", "_law_copies_of", "_law_total", "_law_shard", "_law_server", "_law_some"] ["_law_stream_here", "_law_sizes_here"] (defScope sLine54) := ⟨rfl, rfl, rfl, by decide +kernel, rfl, by decide +kernel, by decide +kernel⟩
abbrev sAnsw54 : Stmt := topS 71
abbrev NAnsw54 : List Str := ["_law_cluster", "_law_line_here", "_law_word", "_law_numbers", "_law_server"]
theorem scAnsw54 : FnScope ["_law_cluster", "_law_line_here", "_law_word", "_law_numbers", "_law_server"] ["_law_cluster", "_law_line_here"] (defScope sAnsw54) := ⟨rfl, rfl, rfl, by decide +kernel, rfl, by decide +kernel, by decide +kernel⟩
abbrev sRight54 : Stmt := topS 72
abbrev NRight54 : List Str := ["_law_stream_here", "_law_sizes_here", "_law_turns", "_law_n", "_law_down", "_law_copies_of", "_law_total", "_law_cluster", "_law_desk", "_law_turn", "_law_line_here", "_law_due", "_law_told"]
theorem scRight54 : FnScope ["_law_stream_here", "_law_sizes_here", "_law_turns", "_law_n", "_law_down", "_law_copies_of", "_law_total", "_law_cluster", "_law_desk", "_law_turn", "_law_line_here", "_law_due", "_law_told"] ["_law_stream_here", "_law_sizes_here", "_law_turns"] (defScope sRight54) := ⟨rfl, rfl, rfl, by decide +kernel, rfl, by decide +kernel, by decide +kernel⟩
abbrev sLaw : Stmt := topS 73
abbrev NLaw : List Str := ["_law_script", "_law_k", "_law_stream_here"]
theorem scLaw : FnScope ["_law_script", "_law_k", "_law_stream_here"] ["_law_script"] (defScope sLaw) := ⟨rfl, rfl, rfl, by decide +kernel, rfl, by decide +kernel, by decide +kernel⟩
abbrev sCluInit : Stmt := inClass (topS 39) 0
abbrev NCluInit : List Str := ["self", "n", "failures", "factor", "count"]
theorem scCluInit : FnScope ["self", "n", "failures", "factor", "count"] ["self", "n", "failures", "factor", "count"] (defScope sCluInit) := ⟨rfl, rfl, rfl, by decide +kernel, rfl, by decide +kernel, by decide +kernel⟩
abbrev sCluLive : Stmt := inClass (topS 39) 1
abbrev NCluLive : List Str := ["self"]
theorem scCluLive : FnScope ["self"] ["self"] (defScope sCluLive) := ⟨rfl, rfl, rfl, by decide +kernel, rfl, by decide +kernel, by decide +kernel⟩
abbrev sCluListOf : Stmt := inClass (topS 39) 2
abbrev NCluListOf : List Str := ["self", "shard", "depth", "order", "rest"]
theorem scCluListOf : FnScope ["self", "shard", "depth", "order", "rest"] ["self", "shard"] (defScope sCluListOf) := ⟨rfl, rfl, rfl, by decide +kernel, rfl, by decide +kernel, by decide +kernel⟩
abbrev sCluOwners : Stmt := inClass (topS 39) 3
abbrev NCluOwners : List Str := ["self", "shard"]
theorem scCluOwners : FnScope ["self", "shard"] ["self", "shard"] (defScope sCluOwners) := ⟨rfl, rfl, rfl, by decide +kernel, rfl, by decide +kernel, by decide +kernel⟩
abbrev sCluLoad : Stmt := inClass (topS 39) 4
abbrev NCluLoad : List Str := ["self", "server", "alive"]
theorem scCluLoad : FnScope ["self", "server", "alive"] ["self", "server"] (defScope sCluLoad) := ⟨rfl, rfl, rfl, by decide +kernel, rfl, by decide +kernel, by decide +kernel⟩
abbrev sCluSuccessor : Stmt := inClass (topS 39) 5
abbrev NCluSuccessor : List Str := ["self", "shard", "server", "order"]
theorem scCluSuccessor : FnScope ["self", "shard", "server", "order"] ["self", "shard", "server"] (defScope sCluSuccessor) := ⟨rfl, rfl, rfl, by decide +kernel, rfl, by decide +kernel, by decide +kernel⟩
abbrev sCluFail : Stmt := inClass (topS 39) 6
abbrev NCluFail : List Str := ["self", "server", "copied"]
theorem scCluFail : FnScope ["self", "server", "copied"] ["self", "server"] (defScope sCluFail) := ⟨rfl, rfl, rfl, by decide +kernel, rfl, by decide +kernel, by decide +kernel⟩
abbrev sCluRecover : Stmt := inClass (topS 39) 7
abbrev NCluRecover : List Str := ["self", "server", "copied"]
theorem scCluRecover : FnScope ["self", "server", "copied"] ["self", "server"] (defScope sCluRecover) := ⟨rfl, rfl, rfl, by decide +kernel, rfl, by decide +kernel, by decide +kernel⟩
abbrev sCluCopied : Stmt := inClass (topS 39) 8
abbrev NCluCopied : List Str := ["self"]
theorem scCluCopied : FnScope ["self"] ["self"] (defScope sCluCopied) := ⟨rfl, rfl, rfl, by decide +kernel, rfl, by decide +kernel, by decide +kernel⟩
abbrev sCluChanges : Stmt := inClass (topS 39) 9
abbrev NCluChanges : List Str := ["self"]
theorem scCluChanges : FnScope ["self"] ["self"] (defScope sCluChanges) := ⟨rfl, rfl, rfl, by decide +kernel, rfl, by decide +kernel, by decide +kernel⟩
abbrev sCluUndo : Stmt := inClass (topS 39) 10
abbrev NCluUndo : List Str := ["self", "server", "copied"]
theorem scCluUndo : FnScope ["self", "server", "copied"] ["self"] (defScope sCluUndo) := ⟨rfl, rfl, rfl, by decide +kernel, rfl, by decide +kernel, by decide +kernel⟩
abbrev sCluCopy : Stmt := inClass (topS 39) 11
abbrev NCluCopy : List Str := ["self", "other"]
theorem scCluCopy : FnScope ["self", "other"] ["self"] (defScope sCluCopy) := ⟨rfl, rfl, rfl, by decide +kernel, rfl, by decide +kernel, by decide +kernel⟩
abbrev sCluTurn : Stmt := inClass (topS 39) 12
abbrev NCluTurn : List Str := ["self", "server", "other"]
theorem scCluTurn : FnScope ["self", "server", "other"] ["self", "server"] (defScope sCluTurn) := ⟨rfl, rfl, rfl, by decide +kernel, rfl, by decide +kernel, by decide +kernel⟩
abbrev sCluCheckLive : Stmt := inClass (topS 39) 13
abbrev NCluCheckLive : List Str := ["self", "value"]
theorem scCluCheckLive : FnScope ["self", "value"] ["self", "value"] (defScope sCluCheckLive) := ⟨rfl, rfl, rfl, by decide +kernel, rfl, by decide +kernel, by decide +kernel⟩
abbrev sCluCheckCanFail : Stmt := inClass (topS 39) 14
abbrev NCluCheckCanFail : List Str := ["self", "value"]
theorem scCluCheckCanFail : FnScope ["self", "value"] ["self", "value"] (defScope sCluCheckCanFail) := ⟨rfl, rfl, rfl, by decide +kernel, rfl, by decide +kernel, by decide +kernel⟩
abbrev sCluEq : Stmt := inClass (topS 39) 15
abbrev NCluEq : List Str := ["self", "other"]
theorem scCluEq : FnScope ["self", "other"] ["self", "other"] (defScope sCluEq) := ⟨rfl, rfl, rfl, by decide +kernel, rfl, by decide +kernel, by decide +kernel⟩
abbrev sCluLen : Stmt := inClass (topS 39) 16
abbrev NCluLen : List Str := ["self"]
theorem scCluLen : FnScope ["self"] ["self"] (defScope sCluLen) := ⟨rfl, rfl, rfl, by decide +kernel, rfl, by decide +kernel, by decide +kernel⟩
abbrev sDeskInit : Stmt := inClass (topS 57) 0
abbrev NDeskInit : List Str := ["self", "text"]
theorem scDeskInit : FnScope ["self", "text"] ["self", "text"] (defScope sDeskInit) := ⟨rfl, rfl, rfl, by decide +kernel, rfl, by decide +kernel, by decide +kernel⟩
abbrev sDeskSay : Stmt := inClass (topS 57) 1
abbrev NDeskSay : List Str := ["self", "line", "word", "numbers"]
theorem scDeskSay : FnScope ["self", "line", "word", "numbers"] ["self", "line"] (defScope sDeskSay) := ⟨rfl, rfl, rfl, by decide +kernel, rfl, by decide +kernel, by decide +kernel⟩
abbrev sNoN : Stmt := inClass (topS 2) 0
theorem scNoN : FnScope ["self", "value"] ["self", "value"] (defScope sNoN) := ⟨rfl, rfl, rfl, by decide +kernel, rfl, by decide +kernel, by decide +kernel⟩
abbrev sNotP : Stmt := inClass (topS 3) 0
theorem scNotP : FnScope ["self", "count"] ["self", "count"] (defScope sNotP) := ⟨rfl, rfl, rfl, by decide +kernel, rfl, by decide +kernel, by decide +kernel⟩
abbrev sTooS : Stmt := inClass (topS 4) 0
theorem scTooS : FnScope ["self", "order"] ["self", "order"] (defScope sTooS) := ⟨rfl, rfl, rfl, by decide +kernel, rfl, by decide +kernel, by decide +kernel⟩
abbrev sNoC : Stmt := inClass (topS 5) 0
theorem scNoC : FnScope ["self", "field"] ["self", "field"] (defScope sNoC) := ⟨rfl, rfl, rfl, by decide +kernel, rfl, by decide +kernel, by decide +kernel⟩
abbrev sNotL : Stmt := inClass (topS 6) 0
theorem scNotL : FnScope ["self", "value"] ["self", "value"] (defScope sNotL) := ⟨rfl, rfl, rfl, by decide +kernel, rfl, by decide +kernel, by decide +kernel⟩
abbrev sNotD : Stmt := inClass (topS 7) 0
theorem scNotD : FnScope ["self", "value"] ["self", "value"] (defScope sNotD) := ⟨rfl, rfl, rfl, by decide +kernel, rfl, by decide +kernel, by decide +kernel⟩
abbrev sTooF : Stmt := inClass (topS 8) 0
theorem scTooF : FnScope ["self", "alive"] ["self", "alive"] (defScope sTooF) := ⟨rfl, rfl, rfl, by decide +kernel, rfl, by decide +kernel, by decide +kernel⟩
abbrev sNoT : Stmt := inClass (topS 10) 0
theorem scNoT : FnScope ["self", "row"] ["self", "row"] (defScope sNoT) := ⟨rfl, rfl, rfl, by decide +kernel, rfl, by decide +kernel, by decide +kernel⟩
abbrev sNoLi : Stmt := inClass (topS 11) 0
theorem scNoLi : FnScope ["self", "value"] ["self", "value"] (defScope sNoLi) := ⟨rfl, rfl, rfl, by decide +kernel, rfl, by decide +kernel, by decide +kernel⟩
/-- what stands behind the top: each def, how it binds, and that the built-ins' names are free -/
structure Txt (K : PySem.W.Frag) (mg : Str → Option Value) where
  fPlain : Addr
  fdPlain : FuncData
  FPlain : Fun K "is_plain_int" "is_plain_int" sPlain fPlain fdPlain
  bPlain : Binds K fdPlain ["thing"] []
  gPlain : mg "is_plain_int" = some (.ref fPlain)
  fParts : Addr
  fdParts : FuncData
  FParts : Fun K "level_parts" "level_parts" sParts fParts fdParts
  bParts : Binds K fdParts ["n", "depth"] []
  gParts : mg "level_parts" = some (.ref fParts)
  fPoss : Addr
  fdPoss : FuncData
  FPoss : Fun K "is_possible" "is_possible" sPoss fPoss fdPoss
  bPoss : Binds K fdPoss ["n", "depth", "count"] []
  gPoss : mg "is_possible" = some (.ref fPoss)
  fReachOf : Addr
  fdReachOf : FuncData
  FReachOf : Fun K "reach_of" "reach_of" sReachOf fReachOf fdReachOf
  bReachOf : Binds K fdReachOf ["n", "failures", "factor"] []
  gReachOf : mg "reach_of" = some (.ref fReachOf)
  fChkP : Addr
  fdChkP : FuncData
  FChkP : Fun K "check_possible" "check_possible" sChkP fChkP fdChkP
  bChkP : Binds K fdChkP ["n", "depth", "count"] []
  gChkP : mg "check_possible" = some (.ref fChkP)
  fChkN : Addr
  fdChkN : FuncData
  FChkN : Fun K "check_number" "check_number" sChkN fChkN fdChkN
  bChkN : Binds K fdChkN ["value", "many"] []
  gChkN : mg "check_number" = some (.ref fChkN)
  fShared : Addr
  fdShared : FuncData
  FShared : Fun K "shared" "shared" sShared fShared fdShared
  bShared : Binds K fdShared ["total", "parts"] []
  gShared : mg "shared" = some (.ref fShared)
  fHbSrv : Addr
  fdHbSrv : FuncData
  FHbSrv : Fun K "held_by_server" "held_by_server" sHbSrv fHbSrv fdHbSrv
  bHbSrv : Binds K fdHbSrv ["n", "count", "alive", "factor"] []
  gHbSrv : mg "held_by_server" = some (.ref fHbSrv)
  fWid : Addr
  fdWid : FuncData
  FWid : Fun K "level_widths" "level_widths" sWid fWid fdWid
  bWid : Binds K fdWid ["n", "depth", "count"] []
  gWid : mg "level_widths" = some (.ref fWid)
  fFollow : Addr
  fdFollow : FuncData
  FFollow : Fun K "follow" "follow" sFollow fFollow fdFollow
  bFollow : Binds K fdFollow ["widths", "servers", "rest"] []
  gFollow : mg "follow" = some (.ref fFollow)
  fPath : Addr
  fdPath : FuncData
  FPath : Fun K "path" "path" sPath fPath fdPath
  bPath : Binds K fdPath ["n", "depth", "count", "number"] []
  gPath : mg "path" = some (.ref fPath)
  fSet : Addr
  fdSet : FuncData
  FSet : Fun K "is_set" "is_set" sSet fSet fdSet
  bSet : Binds K fdSet ["n", "thing"] []
  gSet : mg "is_set" = some (.ref fSet)
  fOut : Addr
  fdOut : FuncData
  FOut : Fun K "outside" "outside" sOut fOut fdOut
  bOut : Binds K fdOut ["n", "members"] []
  gOut : mg "outside" = some (.ref fOut)
  fJoined : Addr
  fdJoined : FuncData
  FJoined : Fun K "joined" "joined" sJoined fJoined fdJoined
  bJoined : Binds K fdJoined ["members", "server"] []
  gJoined : mg "joined" = some (.ref fJoined)
  fHold : Addr
  fdHold : FuncData
  FHold : Fun K "holders" "holders" sHold fHold fdHold
  bHold : Binds K fdHold ["order", "live", "factor"] []
  gHold : mg "holders" = some (.ref fHold)
  fSucc : Addr
  fdSucc : FuncData
  FSucc : Fun K "successor" "successor" sSucc fSucc fdSucc
  bSucc : Binds K fdSucc ["order", "live", "factor", "failed"] []
  gSucc : mg "successor" = some (.ref fSucc)
  fChkF : Addr
  fdChkF : FuncData
  FChkF : Fun K "check_field" "check_field" sChkF fChkF fdChkF
  bChkF : Binds K fdChkF ["field", "value", "least", "most"] []
  gChkF : mg "check_field" = some (.ref fChkF)
  fShowR : Addr
  fdShowR : FuncData
  FShowR : Fun K "show_row" "show_row" sShowR fShowR fdShowR
  bShowR : Binds K fdShowR ["things"] []
  gShowR : mg "show_row" = some (.ref fShowR)
  fShowC : Addr
  fdShowC : FuncData
  FShowC : Fun K "show_cluster" "show_cluster" sShowC fShowC fdShowC
  bShowC : Binds K fdShowC ["cluster"] []
  gShowC : mg "show_cluster" = some (.ref fShowC)
  fNumW : Addr
  fdNumW : FuncData
  FNumW : Fun K "is_number_word" "is_number_word" sNumW fNumW fdNumW
  bNumW : Binds K fdNumW ["word"] []
  gNumW : mg "is_number_word" = some (.ref fNumW)
  fReadN : Addr
  fdReadN : FuncData
  FReadN : Fun K "read_numbers" "read_numbers" sReadN fReadN fdReadN
  bReadN : Binds K fdReadN ["words"] []
  gReadN : mg "read_numbers" = some (.ref fReadN)
  fReadF : Addr
  fdReadF : FuncData
  FReadF : Fun K "read_fields" "read_fields" sReadF fReadF fdReadF
  bReadF : Binds K fdReadF ["row", "name", "many"] []
  gReadF : mg "read_fields" = some (.ref fReadF)
  fRowsOf : Addr
  fdRowsOf : FuncData
  FRowsOf : Fun K "rows_of" "rows_of" sRowsOf fRowsOf fdRowsOf
  bRowsOf : Binds K fdRowsOf ["text"] []
  gRowsOf : mg "rows_of" = some (.ref fRowsOf)
  fReadH : Addr
  fdReadH : FuncData
  FReadH : Fun K "read_head" "read_head" sReadH fReadH fdReadH
  bReadH : Binds K fdReadH ["row"] []
  gReadH : mg "read_head" = some (.ref fReadH)
  fReadD : Addr
  fdReadD : FuncData
  FReadD : Fun K "read_dead" "read_dead" sReadD fReadD fdReadD
  bReadD : Binds K fdReadD ["cluster", "row"] []
  gReadD : mg "read_dead" = some (.ref fReadD)
  fReadC : Addr
  fdReadC : FuncData
  FReadC : Fun K "read_cluster" "read_cluster" sReadC fReadC fdReadC
  bReadC : Binds K fdReadC ["text"] []
  gReadC : mg "read_cluster" = some (.ref fReadC)
  fReadL : Addr
  fdReadL : FuncData
  FReadL : Fun K "read_line" "read_line" sReadL fReadL fdReadL
  bReadL : Binds K fdReadL ["line"] []
  gReadL : mg "read_line" = some (.ref fReadL)
  fAnsAl : Addr
  fdAnsAl : FuncData
  FAnsAl : Fun K "answer_alone" "answer_alone" sAnsAl fAnsAl fdAnsAl
  bAnsAl : Binds K fdAnsAl ["cluster", "word"] []
  gAnsAl : mg "answer_alone" = some (.ref fAnsAl)
  fAnsOne : Addr
  fdAnsOne : FuncData
  FAnsOne : Fun K "answer_one" "answer_one" sAnsOne fAnsOne fdAnsOne
  bAnsOne : Binds K fdAnsOne ["cluster", "word", "number"] []
  gAnsOne : mg "answer_one" = some (.ref fAnsOne)
  fAnsSucc : Addr
  fdAnsSucc : FuncData
  FAnsSucc : Fun K "answer_successor" "answer_successor" sAnsSucc fAnsSucc fdAnsSucc
  bAnsSucc : Binds K fdAnsSucc ["cluster", "shard", "server"] []
  gAnsSucc : mg "answer_successor" = some (.ref fAnsSucc)
  fStream : Addr
  fdStream : FuncData
  FStream : Fun K "_law_stream" "_law_stream" sStream fStream fdStream
  bStream : Binds K fdStream ["_law_script", "_law_k"] []
  gStream : mg "_law_stream" = some (.ref fStream)
  fDraw : Addr
  fdDraw : FuncData
  FDraw : Fun K "_law_draw" "_law_draw" sDraw fDraw fdDraw
  bDraw : Binds K fdDraw ["_law_stream_here", "_law_below"] []
  gDraw : mg "_law_draw" = some (.ref fDraw)
  fPick : Addr
  fdPick : FuncData
  FPick : Fun K "_law_pick" "_law_pick" sPick fPick fdPick
  bPick : Binds K fdPick ["_law_stream_here", "_law_items"] []
  gPick : mg "_law_pick" = some (.ref fPick)
  fComb : Addr
  fdComb : FuncData
  FComb : Fun K "_law_comb" "_law_comb" sComb fComb fdComb
  bComb : Binds K fdComb ["_law_n", "_law_k"] []
  gComb : mg "_law_comb" = some (.ref fComb)
  fOrderS : Addr
  fdOrderS : FuncData
  FOrderS : Fun K "_law_order" "_law_order" sOrderS fOrderS fdOrderS
  bOrderS : Binds K fdOrderS ["_law_n", "_law_depth", "_law_total", "_law_number"] []
  gOrderS : mg "_law_order" = some (.ref fOrderS)
  fGcdS : Addr
  fdGcdS : FuncData
  FGcdS : Fun K "_law_gcd" "_law_gcd" sGcdS fGcdS fdGcdS
  bGcdS : Binds K fdGcdS ["_law_a", "_law_b"] []
  gGcdS : mg "_law_gcd" = some (.ref fGcdS)
  fLeastS : Addr
  fdLeastS : FuncData
  FLeastS : Fun K "_law_least" "_law_least" sLeastS fLeastS fdLeastS
  bLeastS : Binds K fdLeastS ["_law_n", "_law_depth"] []
  gLeastS : mg "_law_least" = some (.ref fLeastS)
  fSizesS : Addr
  fdSizesS : FuncData
  FSizesS : Fun K "_law_sizes" "_law_sizes" sSizesS fSizesS fdSizesS
  bSizesS : Binds K fdSizesS ["_law_stream_here", "_law_most"] []
  gSizesS : mg "_law_sizes" = some (.ref fSizesS)
  fLOut54 : Addr
  fdLOut54 : FuncData
  FLOut54 : Fun K "_law_line_outcome" "_law_line_outcome" sLOut54 fLOut54 fdLOut54
  bLOut54 : Binds K fdLOut54 ["_law_ask"] []
  gLOut54 : mg "_law_line_outcome" = some (.ref fLOut54)
  fWords54 : Addr
  fdWords54 : FuncData
  FWords54 : Fun K "_law_words" "_law_words" sWords54 fWords54 fdWords54
  bWords54 : Binds K fdWords54 ["_law_things"] []
  gWords54 : mg "_law_words" = some (.ref fWords54)
  fList54 : Addr
  fdList54 : FuncData
  FList54 : Fun K "_law_list" "_law_list" sList54 fList54 fdList54
  bList54 : Binds K fdList54 ["_law_sizes_here", "_law_number"] []
  gList54 : mg "_law_list" = some (.ref fList54)
  fLine54 : Addr
  fdLine54 : FuncData
  FLine54 : Fun K "_law_line" "_law_line" sLine54 fLine54 fdLine54
  bLine54 : Binds K fdLine54 ["_law_stream_here", "_law_sizes_here"] []
  gLine54 : mg "_law_line" = some (.ref fLine54)
  fAnsw54 : Addr
  fdAnsw54 : FuncData
  FAnsw54 : Fun K "_law_answer" "_law_answer" sAnsw54 fAnsw54 fdAnsw54
  bAnsw54 : Binds K fdAnsw54 ["_law_cluster", "_law_line_here"] []
  gAnsw54 : mg "_law_answer" = some (.ref fAnsw54)
  fRight54 : Addr
  fdRight54 : FuncData
  FRight54 : Fun K "_law_right" "_law_right" sRight54 fRight54 fdRight54
  bRight54 : Binds K fdRight54 ["_law_stream_here", "_law_sizes_here", "_law_turns"] []
  gRight54 : mg "_law_right" = some (.ref fRight54)
  cBase : Addr
  gcBase : mg "FailoverError" = some (.ref cBase)
  btBase : BaseT K cBase
  cNoN : Addr
  gcNoN : mg "NoNumber" = some (.ref cNoN)
  fNoN : Addr
  fdNoN : FuncData
  FNoN : Fun K "__init__" "NoNumber.__init__" sNoN fNoN fdNoN
  bNoN : Binds K fdNoN ["self", "value"] []
  eNoN : ErrT K cNoN fNoN "value" cBase
  cNotP : Addr
  gcNotP : mg "NotPossible" = some (.ref cNotP)
  fNotP : Addr
  fdNotP : FuncData
  FNotP : Fun K "__init__" "NotPossible.__init__" sNotP fNotP fdNotP
  bNotP : Binds K fdNotP ["self", "count"] []
  eNotP : ErrT K cNotP fNotP "count" cBase
  cTooS : Addr
  gcTooS : mg "TooShort" = some (.ref cTooS)
  fTooS : Addr
  fdTooS : FuncData
  FTooS : Fun K "__init__" "TooShort.__init__" sTooS fTooS fdTooS
  bTooS : Binds K fdTooS ["self", "order"] []
  eTooS : ErrT K cTooS fTooS "order" cBase
  cNoC : Addr
  gcNoC : mg "NoCluster" = some (.ref cNoC)
  fNoC : Addr
  fdNoC : FuncData
  FNoC : Fun K "__init__" "NoCluster.__init__" sNoC fNoC fdNoC
  bNoC : Binds K fdNoC ["self", "field"] []
  eNoC : ErrT K cNoC fNoC "field" cBase
  cNotL : Addr
  gcNotL : mg "NotLive" = some (.ref cNotL)
  fNotL : Addr
  fdNotL : FuncData
  FNotL : Fun K "__init__" "NotLive.__init__" sNotL fNotL fdNotL
  bNotL : Binds K fdNotL ["self", "value"] []
  eNotL : ErrT K cNotL fNotL "value" cBase
  cNotD : Addr
  gcNotD : mg "NotDead" = some (.ref cNotD)
  fNotD : Addr
  fdNotD : FuncData
  FNotD : Fun K "__init__" "NotDead.__init__" sNotD fNotD fdNotD
  bNotD : Binds K fdNotD ["self", "value"] []
  eNotD : ErrT K cNotD fNotD "value" cBase
  cTooF : Addr
  gcTooF : mg "TooFew" = some (.ref cTooF)
  fTooF : Addr
  fdTooF : FuncData
  FTooF : Fun K "__init__" "TooFew.__init__" sTooF fTooF fdTooF
  bTooF : Binds K fdTooF ["self", "alive"] []
  eTooF : ErrT K cTooF fTooF "alive" cBase
  cNoU : Addr
  gcNoU : mg "NoUndo" = some (.ref cNoU)
  cNoT : Addr
  gcNoT : mg "NoText" = some (.ref cNoT)
  fNoT : Addr
  fdNoT : FuncData
  FNoT : Fun K "__init__" "NoText.__init__" sNoT fNoT fdNoT
  bNoT : Binds K fdNoT ["self", "row"] []
  eNoT : ErrT K cNoT fNoT "row" cBase
  cNoLi : Addr
  gcNoLi : mg "NoLine" = some (.ref cNoLi)
  fNoLi : Addr
  fdNoLi : FuncData
  FNoLi : Fun K "__init__" "NoLine.__init__" sNoLi fNoLi fdNoLi
  bNoLi : Binds K fdNoLi ["self", "value"] []
  eNoLi : ErrT K cNoLi fNoLi "value" cBase
  ga_successor_failures : mg "successor_failures" = some (.ref fSucc)
  cClu : Addr
  gcClu : mg "Cluster" = some (.ref cClu)
  clClu : Cls K cClu
  naClu_n : NoAttr K cClu "n"
  naClu_failures : NoAttr K cClu "failures"
  naClu_factor : NoAttr K cClu "factor"
  naClu_count : NoAttr K cClu "count"
  naClu_living : NoAttr K cClu "living"
  naClu_past : NoAttr K cClu "past"
  cDesk : Addr
  gcDesk : mg "Desk" = some (.ref cDesk)
  clDesk : Cls K cDesk
  naDesk_cluster : NoAttr K cDesk "cluster"
  fCluInit : Addr
  fdCluInit : FuncData
  FCluInit : Fun K "__init__" "Cluster.__init__" sCluInit fCluInit fdCluInit
  bCluInit : Binds K fdCluInit ["self", "n", "failures", "factor", "count"] []
  mtCluInit : Meth K cClu "__init__" fCluInit
  mkClu : Mk K cClu fCluInit
  fCluLive : Addr
  fdCluLive : FuncData
  FCluLive : Fun K "live" "Cluster.live" sCluLive fCluLive fdCluLive
  bCluLive : Binds K fdCluLive ["self"] []
  mtCluLive : Meth K cClu "live" fCluLive
  fCluListOf : Addr
  fdCluListOf : FuncData
  FCluListOf : Fun K "list_of" "Cluster.list_of" sCluListOf fCluListOf fdCluListOf
  bCluListOf : Binds K fdCluListOf ["self", "shard"] []
  mtCluListOf : Meth K cClu "list_of" fCluListOf
  fCluOwners : Addr
  fdCluOwners : FuncData
  FCluOwners : Fun K "owners" "Cluster.owners" sCluOwners fCluOwners fdCluOwners
  bCluOwners : Binds K fdCluOwners ["self", "shard"] []
  mtCluOwners : Meth K cClu "owners" fCluOwners
  fCluLoad : Addr
  fdCluLoad : FuncData
  FCluLoad : Fun K "load" "Cluster.load" sCluLoad fCluLoad fdCluLoad
  bCluLoad : Binds K fdCluLoad ["self", "server"] []
  mtCluLoad : Meth K cClu "load" fCluLoad
  fCluSuccessor : Addr
  fdCluSuccessor : FuncData
  FCluSuccessor : Fun K "successor" "Cluster.successor" sCluSuccessor fCluSuccessor fdCluSuccessor
  bCluSuccessor : Binds K fdCluSuccessor ["self", "shard", "server"] []
  mtCluSuccessor : Meth K cClu "successor" fCluSuccessor
  fCluFail : Addr
  fdCluFail : FuncData
  FCluFail : Fun K "fail" "Cluster.fail" sCluFail fCluFail fdCluFail
  bCluFail : Binds K fdCluFail ["self", "server"] []
  mtCluFail : Meth K cClu "fail" fCluFail
  fCluRecover : Addr
  fdCluRecover : FuncData
  FCluRecover : Fun K "recover" "Cluster.recover" sCluRecover fCluRecover fdCluRecover
  bCluRecover : Binds K fdCluRecover ["self", "server"] []
  mtCluRecover : Meth K cClu "recover" fCluRecover
  fCluCopied : Addr
  fdCluCopied : FuncData
  FCluCopied : Fun K "copied" "Cluster.copied" sCluCopied fCluCopied fdCluCopied
  bCluCopied : Binds K fdCluCopied ["self"] []
  mtCluCopied : Meth K cClu "copied" fCluCopied
  fCluChanges : Addr
  fdCluChanges : FuncData
  FCluChanges : Fun K "changes" "Cluster.changes" sCluChanges fCluChanges fdCluChanges
  bCluChanges : Binds K fdCluChanges ["self"] []
  mtCluChanges : Meth K cClu "changes" fCluChanges
  fCluUndo : Addr
  fdCluUndo : FuncData
  FCluUndo : Fun K "undo" "Cluster.undo" sCluUndo fCluUndo fdCluUndo
  bCluUndo : Binds K fdCluUndo ["self"] []
  mtCluUndo : Meth K cClu "undo" fCluUndo
  fCluCopy : Addr
  fdCluCopy : FuncData
  FCluCopy : Fun K "copy" "Cluster.copy" sCluCopy fCluCopy fdCluCopy
  bCluCopy : Binds K fdCluCopy ["self"] []
  mtCluCopy : Meth K cClu "copy" fCluCopy
  fCluTurn : Addr
  fdCluTurn : FuncData
  FCluTurn : Fun K "turn" "Cluster.turn" sCluTurn fCluTurn fdCluTurn
  bCluTurn : Binds K fdCluTurn ["self", "server"] []
  mtCluTurn : Meth K cClu "turn" fCluTurn
  fCluCheckLive : Addr
  fdCluCheckLive : FuncData
  FCluCheckLive : Fun K "check_live" "Cluster.check_live" sCluCheckLive fCluCheckLive fdCluCheckLive
  bCluCheckLive : Binds K fdCluCheckLive ["self", "value"] []
  mtCluCheckLive : Meth K cClu "check_live" fCluCheckLive
  fCluCheckCanFail : Addr
  fdCluCheckCanFail : FuncData
  FCluCheckCanFail : Fun K "check_can_fail" "Cluster.check_can_fail" sCluCheckCanFail fCluCheckCanFail fdCluCheckCanFail
  bCluCheckCanFail : Binds K fdCluCheckCanFail ["self", "value"] []
  mtCluCheckCanFail : Meth K cClu "check_can_fail" fCluCheckCanFail
  fCluEq : Addr
  fdCluEq : FuncData
  FCluEq : Fun K "__eq__" "Cluster.__eq__" sCluEq fCluEq fdCluEq
  bCluEq : Binds K fdCluEq ["self", "other"] []
  mtCluEq : Meth K cClu "__eq__" fCluEq
  fCluLen : Addr
  fdCluLen : FuncData
  FCluLen : Fun K "__len__" "Cluster.__len__" sCluLen fCluLen fdCluLen
  bCluLen : Binds K fdCluLen ["self"] []
  mtCluLen : Meth K cClu "__len__" fCluLen
  fDeskInit : Addr
  fdDeskInit : FuncData
  FDeskInit : Fun K "__init__" "Desk.__init__" sDeskInit fDeskInit fdDeskInit
  bDeskInit : Binds K fdDeskInit ["self", "text"] []
  mtDeskInit : Meth K cDesk "__init__" fDeskInit
  mkDesk : Mk K cDesk fDeskInit
  fDeskSay : Addr
  fdDeskSay : FuncData
  FDeskSay : Fun K "say" "Desk.say" sDeskSay fDeskSay fdDeskSay
  bDeskSay : Binds K fdDeskSay ["self", "line"] []
  mtDeskSay : Meth K cDesk "say" fDeskSay
  kitDig : PySem.W.nsIn K cStatics "sys.int_max_str_digits" = some none
  kNoUx : PySem.W.excIn K cNoU [.type "ValueError", .type "Exception", .type "BaseException", .type "object"] "ValueError.__new__" = true
  kNoUk : PySem.W.keepIn K (.ref cNoU) = true
  kNoUb : PySem.W.subIn K (.ref cNoU) (.type "BaseException") = some true
  kNoUt : PySem.W.typeIn K (.ref cNoU) = some (.type "type")
  kNoUe : PySem.W.exmOne K (.ref cNoU) (.ref cBase) = some true
  kNoUg : PySem.W.findIn K (.ref cNoU) "__getattribute__" = some (some (.builtin "BaseException.__getattribute__"))
  kNoUa : PySem.W.findIn K (.ref cNoU) "__getattr__" = some none
  kNoUd : PySem.W.hasDictIn K cNoU = true
  kNoUc : PySem.W.findIn K (.ref cNoU) "__class__" = some (some (.builtin "object.__class__"))
  kNoUm : PySem.W.mroIn K cNoU (.type "object") = some true
  kit_NoLi_NoLi : PySem.W.kitOne K (.ref cNoLi) (.ref cNoLi) = some true
  kit_NoLi_NoN : PySem.W.kitOne K (.ref cNoLi) (.ref cNoN) = some false
  kit_NoLi_NotL : PySem.W.kitOne K (.ref cNoLi) (.ref cNotL) = some false
  kit_NoLi_NotD : PySem.W.kitOne K (.ref cNoLi) (.ref cNotD) = some false
  kit_NoLi_TooF : PySem.W.kitOne K (.ref cNoLi) (.ref cTooF) = some false
  kit_NoLi_NoU : PySem.W.kitOne K (.ref cNoLi) (.ref cNoU) = some false
  kit_NoN_NoLi : PySem.W.kitOne K (.ref cNoN) (.ref cNoLi) = some false
  kit_NoN_NoN : PySem.W.kitOne K (.ref cNoN) (.ref cNoN) = some true
  kit_NoN_NotL : PySem.W.kitOne K (.ref cNoN) (.ref cNotL) = some false
  kit_NoN_NotD : PySem.W.kitOne K (.ref cNoN) (.ref cNotD) = some false
  kit_NoN_TooF : PySem.W.kitOne K (.ref cNoN) (.ref cTooF) = some false
  kit_NoN_NoU : PySem.W.kitOne K (.ref cNoN) (.ref cNoU) = some false
  kit_NotL_NoLi : PySem.W.kitOne K (.ref cNotL) (.ref cNoLi) = some false
  kit_NotL_NoN : PySem.W.kitOne K (.ref cNotL) (.ref cNoN) = some false
  kit_NotL_NotL : PySem.W.kitOne K (.ref cNotL) (.ref cNotL) = some true
  kit_NotL_NotD : PySem.W.kitOne K (.ref cNotL) (.ref cNotD) = some false
  kit_NotL_TooF : PySem.W.kitOne K (.ref cNotL) (.ref cTooF) = some false
  kit_NotL_NoU : PySem.W.kitOne K (.ref cNotL) (.ref cNoU) = some false
  kit_NotD_NoLi : PySem.W.kitOne K (.ref cNotD) (.ref cNoLi) = some false
  kit_NotD_NoN : PySem.W.kitOne K (.ref cNotD) (.ref cNoN) = some false
  kit_NotD_NotL : PySem.W.kitOne K (.ref cNotD) (.ref cNotL) = some false
  kit_NotD_NotD : PySem.W.kitOne K (.ref cNotD) (.ref cNotD) = some true
  kit_NotD_TooF : PySem.W.kitOne K (.ref cNotD) (.ref cTooF) = some false
  kit_NotD_NoU : PySem.W.kitOne K (.ref cNotD) (.ref cNoU) = some false
  kit_TooF_NoLi : PySem.W.kitOne K (.ref cTooF) (.ref cNoLi) = some false
  kit_TooF_NoN : PySem.W.kitOne K (.ref cTooF) (.ref cNoN) = some false
  kit_TooF_NotL : PySem.W.kitOne K (.ref cTooF) (.ref cNotL) = some false
  kit_TooF_NotD : PySem.W.kitOne K (.ref cTooF) (.ref cNotD) = some false
  kit_TooF_TooF : PySem.W.kitOne K (.ref cTooF) (.ref cTooF) = some true
  kit_TooF_NoU : PySem.W.kitOne K (.ref cTooF) (.ref cNoU) = some false
  kit_NoU_NoLi : PySem.W.kitOne K (.ref cNoU) (.ref cNoLi) = some false
  kit_NoU_NoN : PySem.W.kitOne K (.ref cNoU) (.ref cNoN) = some false
  kit_NoU_NotL : PySem.W.kitOne K (.ref cNoU) (.ref cNotL) = some false
  kit_NoU_NotD : PySem.W.kitOne K (.ref cNoU) (.ref cNotD) = some false
  kit_NoU_TooF : PySem.W.kitOne K (.ref cNoU) (.ref cTooF) = some false
  kit_NoU_NoU : PySem.W.kitOne K (.ref cNoU) (.ref cNoU) = some true
  kSV_NoLi : PySem.W.kitOne K (.ref cNoLi) (.type "ValueError") = some true
  kSV_NoN : PySem.W.kitOne K (.ref cNoN) (.type "ValueError") = some true
  kSV_NotL : PySem.W.kitOne K (.ref cNotL) (.type "ValueError") = some true
  kSV_NotD : PySem.W.kitOne K (.ref cNotD) (.type "ValueError") = some true
  kSV_TooF : PySem.W.kitOne K (.ref cTooF) (.type "ValueError") = some true
  kSV_NoU : PySem.W.kitOne K (.ref cNoU) (.type "ValueError") = some true
  dForms : Addr
  gForms : mg "FORMS" = some (.ref dForms)
  tForms_fail : Tok
  kForms_fail : PySem.W.nsIn K dForms "fail" = some (some (.int 1 tForms_fail))
  tForms_recover : Tok
  kForms_recover : PySem.W.nsIn K dForms "recover" = some (some (.int 1 tForms_recover))
  tForms_owners : Tok
  kForms_owners : PySem.W.nsIn K dForms "owners" = some (some (.int 1 tForms_owners))
  tForms_successor : Tok
  kForms_successor : PySem.W.nsIn K dForms "successor" = some (some (.int 2 tForms_successor))
  tForms_load : Tok
  kForms_load : PySem.W.nsIn K dForms "load" = some (some (.int 1 tForms_load))
  tForms_live : Tok
  kForms_live : PySem.W.nsIn K dForms "live" = some (some (.int 0 tForms_live))
  tForms_copied : Tok
  kForms_copied : PySem.W.nsIn K dForms "copied" = some (some (.int 0 tForms_copied))
  tForms_changes : Tok
  kForms_changes : PySem.W.nsIn K dForms "changes" = some (some (.int 0 tForms_changes))
  tForms_undo : Tok
  kForms_undo : PySem.W.nsIn K dForms "undo" = some (some (.int 0 tForms_undo))
  tForms_list : Tok
  kForms_list : PySem.W.nsIn K dForms "list" = some (some (.int 1 tForms_list))
  tForms_text : Tok
  kForms_text : PySem.W.nsIn K dForms "text" = some (some (.int 0 tForms_text))
  tLEAST_SERVERS : Tok
  gLEAST_SERVERS : mg "LEAST_SERVERS" = some (.int 2 tLEAST_SERVERS)
  tMOST_SERVERS : Tok
  gMOST_SERVERS : mg "MOST_SERVERS" = some (.int 60 tMOST_SERVERS)
  tMOST_DIGITS : Tok
  gMOST_DIGITS : mg "MOST_DIGITS" = some (.int 40 tMOST_DIGITS)
  n_ValueError : mg "ValueError" = none
  n_abs : mg "abs" = none
  n_bool : mg "bool" = none
  n_int : mg "int" = none
  n_isinstance : mg "isinstance" = none
  n_len : mg "len" = none
  n_list : mg "list" = none
  n_max : mg "max" = none
  n_min : mg "min" = none
  n_range : mg "range" = none
  n_repr : mg "repr" = none
  n_set : mg "set" = none
  n_sorted : mg "sorted" = none
  n_str : mg "str" = none
  n_tuple : mg "tuple" = none
  ccRight54 : Addr
  ppRight54 : Addr
  coRight54 : CodeOf K fRight54 ccRight54
structure TBs {K : PySem.W.Frag} {mg : Str → Option Value} (T : Txt K mg) (base : Heap) : Prop where
  tbRight54 : LamX.TabB base mg T.ccRight54 T.ppRight54
def tabsOf {K : PySem.W.Frag} {mg : Str → Option Value} (T : Txt K mg) : List (Addr × Str) := [(T.ppRight54, ("_law_right" : Str) ++ ".<locals>." ++ "<lambda>")]
/-! ### is_plain_int -/
def tyNames : List String := ["NoneType", "bool", "int", "str", "list", "tuple", "dict"]
def spPlain (K : PySem.W.Frag) : Sp := fun vs H Q _ => ∃ (v : V) (t : String), vs = [v] ∧ TyX K H v (.type t) ∧ t ∈ tyNames ∧ Q (.bl (t == "int")) H
theorem ty_cases {t : String} (h : t ∈ tyNames) : t = "NoneType" ∨ t = "bool" ∨ t = "int" ∨ t = "str" ∨ t = "list" ∨ t = "tuple" ∨ t = "dict" := by
  unfold tyNames at h
  simp only [List.mem_cons, List.not_mem_nil, or_false] at h
  exact h
theorem kit_int {K : PySem.W.Frag} {t : String} (h : t ∈ tyNames) : PySem.W.kitOne K (.type t) (.type "int") = some (t == "int" || t == "bool") := by
  rcases ty_cases h with rfl | rfl | rfl | rfl | rfl | rfl | rfl <;> exact kit_ty (by decide +kernel)
theorem kit_bool {K : PySem.W.Frag} {t : String} (h : t ∈ tyNames) : PySem.W.kitOne K (.type t) (.type "bool") = some (t == "bool") := by
  rcases ty_cases h with rfl | rfl | rfl | rfl | rfl | rfl | rfl <;> exact kit_ty (by decide +kernel)
theorem kit_tuple {K : PySem.W.Frag} {t : String} (h : t ∈ tyNames) : PySem.W.kitOne K (.type t) (.type "tuple") = some (t == "tuple") := by
  rcases ty_cases h with rfl | rfl | rfl | rfl | rfl | rfl | rfl <;> exact kit_ty (by decide +kernel)
section
variable {P : Program} {w : World} {K : PySem.W.Frag} {mg : Str → Option Value} {base : Heap}
theorem ok_plain (T : Txt K mg) {j : Nat} : FnOk P w K mg base CX0 (j + 1) T.fPlain T.fdPlain ["thing"] (spPlain K) := by
  refine T.FPlain.ok scPlain (fun vs H Q E h => ?_) (fun cdv A outer s H vs Q E hr h => ?_)
  · obtain ⟨v, t, rfl, _⟩ := h
    rfl
  · obtain ⟨v, t, rfl, ty, ht, q⟩ := h
    refine ⟨_, pss_one (ps_ret (pe_and (pe_callB call_isi (by rfl) T.n_isinstance (by decide +kernel) (pa_cons (pv 0) (pa_cons (pe_bltn (v := .ty "int") (by rfl) T.n_int (by decide +kernel) rfl) pa_nil)))
      (pe_one (pe_not (pe_callB call_isi (by rfl) T.n_isinstance (by decide +kernel) (pa_cons (pv 0) (pa_cons (pe_bltn (v := .ty "bool") (by rfl) T.n_bool (by decide +kernel) rfl) pa_nil))))))), ?_⟩
    refine ⟨v, rfl, v, .ty "int", _, _, _, rfl, .ty _, ty, kit_int ht, _, rfl, ?_⟩
    rcases ty_cases ht with rfl | rfl | rfl | rfl | rfl | rfl | rfl
    · exact iteF q
    · exact iteT ⟨v, rfl, v, .ty "bool", _, _, _, rfl, .ty _, ty, kit_bool ht, _, rfl, q⟩
    · exact iteT ⟨v, rfl, v, .ty "bool", _, _, _, rfl, .ty _, ty, kit_bool ht, _, rfl, q⟩
    · exact iteF q
    · exact iteF q
    · exact iteF q
    · exact iteF q
end
/-! ### tuples and lists of servers -/
def setV (ms : List Nat) : List V := ms.map fun (m : Nat) => V.int (m : Int)
theorem setV_app (a b : List Nat) : setV (a ++ b) = setV a ++ setV b := List.map_append
theorem setV_at {ms : List Nat} {i m : Nat} (h : ms[i]? = some m) : (setV ms)[i]? = some (V.int (m : Int)) := by
  unfold setV
  rw [List.getElem?_map, h]
  rfl
theorem setV_len (ms : List Nat) : (setV ms).length = ms.length := List.length_map _
theorem setV_range (n : Nat) : rgV 0 (n : Int) = setV (List.range' 0 n) := by
  unfold setV
  have e : ((n : Int) - 0).toNat = n := by omega
  unfold rgV
  rw [e, List.range_eq_range']
  refine List.map_congr_left fun i _ => ?_
  rw [Int.zero_add]
theorem seq_at {k n : Nat} (h : k < n) : seqIndex? (k : Int) n = some k := by
  unfold seqIndex?
  simp only [show ¬ ((k : Int) < 0) by omega, if_false]
  rw [if_pos]
  · rw [Int.toNat_natCast]
  · rw [Bool.and_eq_true]
    exact ⟨decide_eq_true (by omega), decide_eq_true (by omega)⟩
theorem SqL.is {K : PySem.W.Frag} {H : Hp} {a : Addr} {xs ys : List V} (h : SqL K H a xs) (e : xs = ys) : SqL K H a ys := e ▸ h
theorem setV_erase : ∀ (l : List Nat) (k : Nat), (setV l).eraseIdx k = setV (l.eraseIdx k)
  | [], _ => rfl
  | _ :: _, 0 => rfl
  | a :: r, k + 1 => congrArg (V.int (a : Int) :: ·) (setV_erase r k)
theorem setV_ints (ms : List Nat) : setV ms = (ms.map fun (m : Nat) => (m : Int)).map V.int := by
  unfold setV
  rw [List.map_map]
  rfl
theorem ints_back {ns : List Int} {ms : List Nat} (h : ns.Perm (ms.map fun (m : Nat) => (m : Int))) : ∃ ks : List Nat, ns = (ks.map fun (m : Nat) => (m : Int)) ∧ ks.Perm ms := by
  have e : ∀ x ∈ ns, ((x.toNat : Nat) : Int) = x := fun x hx => by
    obtain ⟨m, _, rfl⟩ := List.mem_map.mp (h.mem_iff.mp hx)
    simp
  refine ⟨ns.map Int.toNat, ?_, ?_⟩
  · rw [List.map_map]
    conv => lhs; rw [← List.map_id ns]
    exact List.map_congr_left fun x hx => (e x hx).symm
  · have h2 := h.map Int.toNat
    rw [List.map_map] at h2
    have e2 : (ms.map (Int.toNat ∘ fun (m : Nat) => (m : Int))) = ms := by
      conv => rhs; rw [← List.map_id ms]
      exact List.map_congr_left fun x _ => by simp
    rw [e2] at h2
    exact h2
theorem le_back {ks : List Nat} (h : (ks.map fun (m : Nat) => (m : Int)).Pairwise (· ≤ ·)) : ks.Pairwise (· ≤ ·) := by
  rw [List.pairwise_map] at h
  exact h.imp fun z => by omega
theorem lt_of_le {ks : List Nat} (h : ks.Pairwise (· ≤ ·)) (hn : ks.Nodup) : Asc ks := (h.and hn).imp fun ⟨a, b⟩ => by omega
theorem inV_ints (x : Int) : ∀ ns : List Int, inV (V.int x) (ns.map V.int) = decide (x ∈ ns)
  | [] => rfl
  | y :: r => by
    show ((y == x) || inV (V.int x) (r.map V.int)) = _
    rw [inV_ints x r]
    by_cases h : y = x
    · subst h
      rw [beq_self_eq_true, decide_eq_true List.mem_cons_self]
      rfl
    · rw [show (y == x) = false from beq_eq_false_iff_ne.mpr h, Bool.false_or]
      by_cases g : x ∈ r
      · rw [decide_eq_true g, decide_eq_true (List.mem_cons_of_mem _ g)]
      · rw [decide_eq_false g, decide_eq_false fun z => ?_]
        rcases List.mem_cons.mp z with z | z
        · exact h z.symm
        · exact g z
theorem flat_ints : ∀ ns : List Int, (ns.map V.int).all flatV = true
  | [] => rfl
  | _ :: r => flat_ints r
theorem setV_flat (ms : List Nat) : (setV ms).all flatV = true := by
  rw [setV_ints]
  exact flat_ints _
theorem inV_setV (x : Nat) (ms : List Nat) : inV (.int (x : Int)) (setV ms) = decide (x ∈ ms) := by
  rw [setV_ints, inV_ints]
  refine decide_eq_decide.mpr ⟨fun h => ?_, fun h => List.mem_map.mpr ⟨x, h, rfl⟩⟩
  obtain ⟨y, hy, e⟩ := List.mem_map.mp h
  have : y = x := by omega
  rw [← this]
  exact hy
theorem setV_mem {ms : List Nat} {v : V} (h : v ∈ setV ms) : ∃ m, m ∈ ms ∧ v = .int (m : Int) := by
  obtain ⟨m, hm, e⟩ := List.mem_map.mp h
  exact ⟨m, hm, e.symm⟩
theorem setV_get {ms : List Nat} {i : Nat} {v : V} (h : (setV ms)[i]? = some v) : ∃ m, ms[i]? = some m ∧ v = .int (m : Int) := by
  unfold setV at h
  rw [List.getElem?_map] at h
  cases e : ms[i]? with
  | none =>
    rw [e] at h
    cases h
  | some m =>
    rw [e] at h
    exact ⟨m, rfl, (Option.some.inj h).symm⟩
theorem range'_snoc (n : Nat) : List.range' 0 (n + 1) = List.range' 0 n ++ [n] := by
  rw [← List.range_eq_range', ← List.range_eq_range', List.range_succ]
theorem fr_step (f : Nat → Bool) (n : Nat) : setV ((List.range' 0 (n + 1)).filter f) = setV ((List.range' 0 n).filter f) ++ if f n = true then [V.int (n : Int)] else [] := by
  rw [range'_snoc, List.filter_append, setV_app]
  congr 1
  cases h : f n with
  | true => rw [List.filter_cons_of_pos h]; rfl
  | false => rw [List.filter_cons_of_neg (by rw [h]; decide)]; rfl
/-- what an error of the class CN with the field f leaves behind -/
def Raised (f : Str) (CN : Addr) (v : V) (H : Hp) (E : XK) : Prop := ∀ H' d, Same H H' → H' d = some (.xd [(f, v)]) → H d = none → E (.ref CN) (some d) H'
theorem Raised.on {f : Str} {CN : Addr} {v : V} {H H1 : Hp} {E : XK} (s : Same H H1) (h : Raised f CN v H E) : Raised f CN v H1 E := fun H' d s2 e n => h H' d (s.trans s2) e (s.free n)
theorem cut_set (ms : List Nat) (lo hi : Option Int) : ∃ ks : List Nat, cutV (setV ms) lo hi = setV ks ∧ (∀ x ∈ ks, x ∈ ms) ∧ ks.length ≤ ms.length ∧ ks.Sublist ms := by
  unfold cutV setV
  rw [← List.map_drop, ← List.map_take]
  refine ⟨_, rfl, fun x hx => List.mem_of_mem_drop (List.mem_of_mem_take hx), ?_, (List.take_sublist _ _).trans (List.drop_sublist _ _)⟩
  rw [List.length_take, List.length_drop]
  omega
def natOf : V → Nat
  | .int i => i.toNat
  | _ => 0
theorem perm_setV {ys : List V} {ms : List Nat} (h : ys.Perm (setV ms)) : ∃ ks : List Nat, ys = setV ks ∧ ks.Perm ms := by
  have e : ∀ y ∈ ys, V.int ((natOf y : Nat) : Int) = y := fun y hy => by
    obtain ⟨m, _, rfl⟩ := setV_mem (h.mem_iff.mp hy)
    show V.int (((m : Int).toNat : Nat) : Int) = _
    rw [Int.toNat_natCast]
  refine ⟨ys.map natOf, ?_, ?_⟩
  · unfold setV
    rw [List.map_map]
    conv => lhs; rw [← List.map_id ys]
    exact List.map_congr_left fun y hy => (e y hy).symm
  · have h2 := h.map natOf
    unfold setV at h2
    rw [List.map_map] at h2
    have e2 : (ms.map (natOf ∘ fun (m : Nat) => V.int (m : Int))) = ms := by
      conv => rhs; rw [← List.map_id ms]
      refine List.map_congr_left fun x _ => ?_
      show (x : Int).toNat = x
      rw [Int.toNat_natCast]
    rw [e2] at h2
    exact h2
theorem dp_set {K : PySem.W.Frag} {H : Hp} : ∀ ms : List Nat, DpAll K H (setV ms) (natD ms)
  | [] => .nil
  | m :: r => .cons (.int (m : Int)) (dp_set r)
theorem but_free {p q : Addr} {H H' : Hp} (s : But p H H') (h : H' q = none) (n : q ≠ p) : H q = none := by
  cases e : H q with
  | none => rfl
  | some o =>
    rw [s _ _ n e] at h
    cases h
theorem but_new {p q : Addr} {H H1 : Hp} {o : HO} (s : But p H H1) (h : H q = none) : But p H (L2.upd H1 q o) := fun b x n e => by
  rw [upd_ne (ne_of_none e h)]
  exact s b x n e
theorem erase_perm {α : Type} : ∀ (l : List α) (k : Nat) (x : α), l[k]? = some x → (x :: l.eraseIdx k).Perm l
  | [], _, _, h => by cases h
  | a :: r, 0, x, h => by
    obtain rfl : a = x := Option.some.inj h
    exact List.Perm.refl _
  | a :: r, k + 1, x, h => (List.Perm.swap a x _).trans ((erase_perm r k x h).cons a)
theorem same_hide {p : Addr} {H H' : Hp} (s : Same H H') (n : H p = none) : Same H (hide p H') := fun b o e => by
  rw [hide_ne (ne_of_none e n)]
  exact s b o e
theorem cut_take (fl : List Nat) (w : Nat) : cutV (setV fl) none (some (w : Int)) = setV (fl.take w) := by
  unfold cutV
  have e0 : HT.sIx (setV fl).length 0 none = 0 := rfl
  have e1 : HT.sIx (setV fl).length (setV fl).length (some (w : Int)) = min w fl.length := by
    rw [setV_len]
    exact HT.sIx_nat _ _ _
  rw [e0, e1, List.drop_zero, Nat.sub_zero]
  unfold setV
  rw [← List.map_take]
  congr 1
  rw [List.take_eq_take_iff]
  omega
theorem SqT_updL {K : PySem.W.Frag} {H : Hp} {a D : Addr} {xs ys : List V} {o : HO} (h : SqT K H a xs) (hD : H D = some (.lst ys)) : SqT K (upd H D o) a xs := by
  rcases h with (h | ⟨o, h⟩) | h
  · exact .inl (.inl (by rw [upd_ne (fun c => by rw [c, hD] at h; cases h)]; exact h))
  · exact .inl (.inr ⟨o, by rw [upd_ne (fun c => by rw [c, hD] at h; cases h)]; exact h⟩)
  · exact .inr h
/-- a pair of a tuple of servers and a number -/
def PairAt (H0 H : Hp) (u : Addr) (ms : List Nat) (r : Nat) : Prop := H0 u = none ∧ ∃ t, H0 t = none ∧ H u = some (.tup [.ref t, .int (r : Int)]) ∧ H t = some (.tup (setV ms))
theorem PairAt.back {H0 H1 H : Hp} {u : Addr} {ms : List Nat} {r : Nat} (s : Same H0 H1) (h : PairAt H1 H u ms r) : PairAt H0 H u ms r := by
  obtain ⟨a, t, b, c⟩ := h
  exact ⟨s.free a, t, s.free b, c⟩
theorem erase_setV : ∀ (l : List Nat) (k : Nat), (setV l).eraseIdx k = setV (l.eraseIdx k)
  | [], _ => rfl
  | _ :: _, 0 => rfl
  | a :: r, k + 1 => congrArg (V.int (a : Int) :: ·) (erase_setV r k)
/-! ### level_parts -/
def spParts : Sp := fun vs H Q _ => ∃ n d : Nat, vs = [.int n, .int d] ∧ n ≤ 60 ∧ d ≤ n ∧ ∀ p, H p = none → Q (.ref p) (upd H p (.lst (setV (partsV n d))))
theorem rg_parts {n d : Nat} (h : d ≤ n) : rgC (n : Int) (-1) d = setV (partsV n d) := by
  unfold rgC setV partsV
  rw [List.map_map]
  refine List.map_congr_left fun i hi => ?_
  have := List.mem_range.mp hi
  show V.int ((n : Int) + ((i : Nat) : Int) * (-1)) = V.int ((n - i : Nat) : Int)
  congr 1
  omega
section
variable {P : Program} {w : World} {K : PySem.W.Frag} {mg : Str → Option Value} {base : Heap}
theorem ok_parts (T : Txt K mg) {j : Nat} : FnOk P w K mg base CX0 (j + 1) T.fParts T.fdParts ["n", "depth"] spParts := by
  refine T.FParts.ok scParts (fun vs H Q E h => ?_) (fun cdv A outer s H vs Q E hr h => ?_)
  · obtain ⟨n, d, rfl, _⟩ := h
    rfl
  · obtain ⟨n, d, rfl, hn, hd, q⟩ := h
    refine ⟨_, pss_one (ps_ret (pe_listRgC rfl (by rfl) T.n_list (by rfl) T.n_range (pa_cons (pv 0) (pa_cons (pe_op op_sub (pv 0) (pv 1)) (pa_cons (pe_un un_neg pe_int) pa_nil))))), ?_⟩
    have e : ((n : Int) - ((n : Int) - (d : Int))).toNat = d := by omega
    have rc : RgC (n : Int) ((n : Int) - (d : Int)) (-1) d := by
      have := RgC.neg (i := (n : Int)) (j := (n : Int) - (d : Int)) (by omega) (by omega) (by omega) (by omega)
      rw [e] at this
      exact this
    refine ⟨_, rfl, _, rfl, _, rfl, _, _, rfl, rfl, _, rfl, (n : Int), (n : Int) - (d : Int), -1, d, rfl, rc, by omega, fun p np => ?_⟩
    rw [rg_parts hd]
    exact q p np
end
/-! ### counts and numbers of any value -/
theorem TyX.same {K : PySem.W.Frag} {H H' : Hp} {v : V} {t : Value} (e : Same H H') (h : TyX K H v t) : TyX K H' v t := by
  cases h with
  | base h =>
    cases h with
    | non => exact .base .non
    | bl x => exact .base (.bl x)
    | int i => exact .base (.int i)
    | str x => exact .base (.str x)
    | flt x => exact .base (.flt x)
    | lst z => exact .base (.lst (e _ _ z))
    | frz z => exact .base (.frz (e _ _ z))
    | tup z => exact .base (.tup (e _ _ z))
    | dK z => exact .base (.dK (e _ _ z))
    | dT z => exact .base (.dT (e _ _ z))
    | ins z a1 a2 a3 a4 a5 => exact .base (.ins (e _ _ z) a1 a2 a3 a4 a5)
  | byt b => exact .byt b
  | set z => exact .set (e _ _ z)
  | kList a b => exact .kList a b
  | kTuple a b => exact .kTuple a b
  | kDict a b => exact .kDict a b
  | fTuple z => exact .fTuple (e _ _ z)
  | fDict z => exact .fDict (e _ _ z)
def CountV (K : PySem.W.Frag) (H : Hp) (v : V) (o : Option Int) : Prop := (∃ c, o = some c ∧ v = .int c) ∨ (o = none ∧ ∃ t, t ∈ tyNames ∧ (t == "int") = false ∧ TyX K H v (.type t))
theorem CountV.ty {K : PySem.W.Frag} {H : Hp} {v : V} {o : Option Int} (h : CountV K H v o) : ∃ t, t ∈ tyNames ∧ (t == "int") = o.isSome ∧ TyX K H v (.type t) := by
  rcases h with ⟨c, rfl, rfl⟩ | ⟨rfl, t, h1, h2, h3⟩
  · exact ⟨"int", by decide, rfl, .base (.int c)⟩
  · exact ⟨t, h1, h2, h3⟩
def possB (L : Nat) : Option Int → Bool
  | some c => decide (0 < c) && decide (c % (L : Int) = 0)
  | none => false
theorem possB_some (L : Nat) (c : Int) : possB L (some c) = (decide (0 < c) && decide (c % (L : Int) = 0)) := rfl
theorem CountV.same {K : PySem.W.Frag} {H H' : Hp} {v : V} {o : Option Int} (e : Same H H') (h : CountV K H v o) : CountV K H' v o := by
  rcases h with h | ⟨h1, t, h2, h3, h4⟩
  · exact .inl h
  · exact .inr ⟨h1, t, h2, h3, TyX.same e h4⟩
theorem decV (x y : Int) : decide (V.int x = V.int y) = decide (x = y) := by
  by_cases h : x = y
  · rw [decide_eq_true h, decide_eq_true (congrArg V.int h)]
  · rw [decide_eq_false h, decide_eq_false fun z => h (V.int.inj z)]
theorem poss_no {n d c i : Nat} (hn : n ≤ 60) (h1 : 1 ≤ n) (hd : d ≤ n) (hi : i < d) (h : ¬ (n - i) ∣ c) : possB (leastL n d) (some (c : Int)) = false := by
  rw [possB_some, decide_eq_false (p := (c : Int) % (leastL n d : Int) = 0), Bool.and_false]
  intro z
  have z2 : c % leastL n d = 0 := by
    have : ((c % leastL n d : Nat) : Int) = 0 := by
      rw [Int.natCast_emod]
      exact z
    omega
  exact h ((least_parts h1 hn hd c).mp (Nat.dvd_of_mod_eq_zero z2) i hi)
theorem poss_yes {n d c : Nat} (hn : n ≤ 60) (h1 : 1 ≤ n) (hd : d ≤ n) (h0 : 0 < c) (h : ∀ i, i < d → (n - i) ∣ c) : possB (leastL n d) (some (c : Int)) = true := by
  rw [possB_some, decide_eq_true (p := 0 < (c : Int)) (by omega), Bool.true_and]
  refine decide_eq_true ?_
  rw [← Int.natCast_emod, Nat.mod_eq_zero_of_dvd ((least_parts h1 hn hd c).mpr h)]
  rfl
theorem poss_std {n d : Nat} {o : Option Int} (hn : n ≤ 60) (h1 : 1 ≤ n) (hd : d ≤ n) (h : possB (leastL n d) o = true) : ∃ c : Nat, o = some (c : Int) ∧ Std n d c := by
  cases o with
  | none => cases h
  | some x =>
    rw [possB_some, Bool.and_eq_true] at h
    have a := of_decide_eq_true h.1
    have b := of_decide_eq_true h.2
    obtain ⟨c, rfl⟩ := Int.eq_ofNat_of_zero_le (Int.le_of_lt a)
    refine ⟨c, rfl, hn, h1, hd, by omega, ?_⟩
    have b2 : ((c % leastL n d : Nat) : Int) = 0 := by
      rw [Int.natCast_emod]
      exact b
    exact Nat.dvd_of_mod_eq_zero (by omega)
theorem std_poss {n d c : Nat} (h : Std n d c) : possB (leastL n d) (some (c : Int)) = true := by
  have h0 := h.c0
  obtain ⟨q, hq⟩ := h.dv
  rw [possB_some, decide_eq_true (show (0 : Int) < (c : Int) by omega), Bool.true_and]
  refine decide_eq_true ?_
  rw [← Int.natCast_emod, hq, Nat.mul_mod_right]
  rfl
def numB (m : Nat) : Option Int → Bool
  | some c => decide (0 ≤ c) && decide (c < (m : Int))
  | none => false
theorem numB_some (m : Nat) (c : Int) : numB m (some c) = (decide (0 ≤ c) && decide (c < (m : Int))) := rfl
theorem num_lt {c : Nat} {m : Option Int} (h : numB c m = true) : ∃ k : Nat, m = some (k : Int) ∧ k < c := by
  cases m with
  | none => cases h
  | some x =>
    rw [numB_some, Bool.and_eq_true] at h
    have a := of_decide_eq_true h.1
    have b := of_decide_eq_true h.2
    obtain ⟨k, rfl⟩ := Int.eq_ofNat_of_zero_le a
    exact ⟨k, rfl, by omega⟩
theorem CountV.isInt {K : PySem.W.Frag} {H : Hp} {v : V} {c : Int} (h : CountV K H v (some c)) : v = .int c := by
  rcases h with ⟨x, e, rfl⟩ | ⟨e, _⟩
  · rw [← Option.some.inj e]
  · cases e
/-! ### is_possible -/
def spPoss (K : PySem.W.Frag) : Sp := fun vs H Q _ => ∃ (n d : Nat) (v : V) (o : Option Int), vs = [.int n, .int d, v] ∧ n ≤ 60 ∧ 1 ≤ n ∧ d ≤ n ∧ CountV K H v o ∧ ∀ H', Same H H' → Q (.bl (possB (leastL n d) o)) H'
section
variable {P : Program} {w : World} {K : PySem.W.Frag} {mg : Str → Option Value} {base : Heap}
theorem ok_poss (T : Txt K mg) {j : Nat} : FnOk P w K mg base CX0 (j + 4) T.fPoss T.fdPoss ["n", "depth", "count"] (spPoss K) := by
  refine T.FPoss.ok scPoss (fun vs H Q E h => ?_) (fun cdv A outer s H vs Q E hr h => ?_)
  · obtain ⟨n, d, v, o, rfl, _⟩ := h
    rfl
  · obtain ⟨n, d, v, o, rfl, hn, h1, hd, hv, q⟩ := h
    refine ⟨_, pss_cons (ps_if (PW.pt (pw_or (pt_not (pt_val (pe_call (ok_plain T) hr (by rfl) T.gPlain T.FPlain.kp T.bPlain .nil pass0 (pa_cons (pv 2) pa_nil)))) (pw_or (pt_cmpR op_le (pv 2) pe_int (nomark _)) (pw_or1 (pt_cmpR op_gt (pv 1) (pv 0) (nomark _)))))) (pss_one (ps_ret pe_bl)) pss_nil) (pss_cons (ps_for PassesOwn.never rfl (pi_list (pe_call (ok_parts T) hr (by rfl) T.gParts T.FParts.kp T.bParts .nil pass0 (pa_cons (pv 0) (pa_cons (pv 1) pa_nil)))) (pg_name (i := 3) scPoss.nd rfl (.inl rfl)) (pss_one (ps_if (pt_cmpR op_ne (pe_op op_mod (pv 2) (pv 3)) pe_int (nomark _)) (pss_one (ps_ret pe_bl)) pss_nil))) (pss_one (ps_ret pe_bl))), ?_⟩
    obtain ⟨t, ht, e, ty⟩ := hv.ty
    refine ⟨v, rfl, v, t, rfl, ty, ht, _, rfl, ?_⟩
    rw [e]
    rcases hv with ⟨x, rfl, rfl⟩ | ⟨rfl, _⟩
    · refine iteF ?_
      refine ⟨_, rfl, _, _, rfl, rfl, _, rfl, ite2 (fun h2 => ?_) (fun h2 => ?_)⟩
      · have h3 : x ≤ 0 := of_decide_eq_true h2
        have e2 : possB (leastL n d) (some x) = false := by
          rw [possB_some, decide_eq_false (show ¬ 0 < x by omega)]
          rfl
        rw [e2] at q
        exact q _ (Same.refl _)
      · have h3 : ¬ x ≤ 0 := fun z => h2 (decide_eq_true z)
        refine ⟨_, rfl, _, rfl, _, _, rfl, rfl, _, rfl, ite2 (fun z => absurd (of_decide_eq_true z : (n : Int) < (d : Int)) (by omega)) (fun _ => ?_)⟩
        obtain ⟨c, rfl⟩ := Int.eq_ofNat_of_zero_le (show 0 ≤ x by omega)
        refine ⟨_, rfl, _, rfl, n, d, rfl, hn, hd, fun p np => ?_⟩
        have s0 := same_new (o := .lst (setV (partsV n d))) np
        refine ⟨p, rfl, ⟨_, SqL.of upd_same⟩, for_list (K := K) (a := p) (xs := setV (partsV n d)) (fun i σ H2 => (∃ u, σ = [some (.int n), some (.int d), some (.int c), u]) ∧ H2 = upd H p (.lst (setV (partsV n d))) ∧ ∀ k, k < i → (n - k) ∣ c) ⟨⟨none, rfl⟩, rfl, fun k hk => absurd hk (Nat.not_lt_zero k)⟩ ?_ ?_ ?_⟩
        · rintro i σ H2 _ ⟨⟨u, rfl⟩, rfl, _⟩
          exact SqL.of upd_same
        · rintro i z σ H2 hz ⟨⟨u, rfl⟩, rfl, ih⟩
          obtain ⟨m, hm, rfl⟩ := setV_get hz
          have hid : i < d := by
            have := (List.getElem?_eq_some_iff.mp hm).1
            rw [parts_len] at this
            exact this
          obtain rfl : n - i = m := Option.some.inj ((parts_at hid).symm.trans hm)
          refine ⟨_, rfl, _, rfl, _, _, rfl, rfl, (by omega : (0 : Int) < ((n - i : Nat) : Int)), rfl, _, rfl, ?_⟩
          dsimp only
          rw [decV]
          refine ite2 (fun h5 => ?_) (fun h5 => ?_)
          · have h6 : ¬ (c : Int) % ((n - i : Nat) : Int) = 0 := by
              intro z
              rw [decide_eq_true z] at h5
              cases h5
            have h7 : ¬ (n - i) ∣ c := fun z => h6 (by rw [← Int.natCast_emod, Nat.mod_eq_zero_of_dvd z]; rfl)
            rw [poss_no hn h1 hd hid h7] at q
            exact q _ s0
          · have h6 : (c : Int) % ((n - i : Nat) : Int) = 0 := Classical.byContradiction fun z => h5 (by rw [decide_eq_false z]; rfl)
            refine ⟨⟨_, rfl⟩, rfl, fun k hk => ?_⟩
            by_cases ek : k = i
            · subst ek
              have : ((c % (n - k) : Nat) : Int) = 0 := by
                rw [Int.natCast_emod]
                exact h6
              exact Nat.dvd_of_mod_eq_zero (by omega)
            · exact ih k (by omega)
        · rintro σ H2 ⟨⟨u, rfl⟩, rfl, ih⟩
          rw [setV_len, parts_len] at ih
          rw [poss_yes hn h1 hd (by omega) ih] at q
          exact q _ s0
    · exact iteT (q _ (Same.refl _))
end
/-! ### reach_of -/
def spReachOf : Sp := fun vs H Q _ => ∃ n f k : Nat, vs = [.int n, .int f, .int k] ∧ Q (.int (min n (f + k) : Nat)) H
section
variable {P : Program} {w : World} {K : PySem.W.Frag} {mg : Str → Option Value} {base : Heap}
theorem ok_reachof (T : Txt K mg) {j : Nat} : FnOk P w K mg base CX0 (j + 1) T.fReachOf T.fdReachOf ["n", "failures", "factor"] spReachOf := by
  refine T.FReachOf.ok scReachOf (fun vs H Q E h => ?_) (fun cdv A outer s H vs Q E hr h => ?_)
  · obtain ⟨n, f, k, rfl, _⟩ := h
    rfl
  · obtain ⟨n, f, k, rfl, q⟩ := h
    refine ⟨_, pss_one (ps_ret (pe_callB (call_min2 rfl) (by rfl) T.n_min (by decide +kernel) (pa_cons (pv 0) (pa_cons (pe_op op_add (pv 1) (pv 2)) pa_nil)))), ?_⟩
    refine ⟨_, rfl, _, rfl, _, rfl, _, _, rfl, rfl, _, _, rfl, ?_⟩
    have e : (if ((f : Int) + (k : Int)) < (n : Int) then ((f : Int) + (k : Int)) else (n : Int)) = ((min n (f + k) : Nat) : Int) := by
      by_cases c : (f : Int) + (k : Int) < (n : Int)
      · rw [if_pos c]
        omega
      · rw [if_neg c]
        omega
    dsimp only
    rw [e]
    exact q
end
/-! ### NotPossible's __init__ -/
section
variable {P : Program} {w : World} {K : PySem.W.Frag} {mg : Str → Option Value} {base : Heap}
theorem ok_notp (T : Txt K mg) {j : Nat} : FnOk P w K mg base CX0 (j + 1) T.fNotP T.fdNotP ["self", "count"] (spErr K T.cNotP "count") := by
  refine T.FNotP.ok scNotP (fun vs H Q E h => ?_) (fun cdv A outer s H vs Q E hr h => ?_)
  · obtain ⟨a, v, rfl, _⟩ := h
    rfl
  · obtain ⟨a, v, rfl, ha, q⟩ := h
    refine ⟨_, pss_cons (ps_expr (pe_baseInit (by rfl) T.gcBase T.btBase.sp T.btBase.ty T.btBase.rd T.btBase.fc (pa_cons (pv 0) (pa_cons pe_str pa_nil)))) (pss_one (ps_ost (pv 0) (pv 1))), ?_⟩
    refine ⟨.ref a, rfl, a, T.cNotP, _, rfl, (by show 1 ≤ 1000; decide), T.eNotP.ox, ha, ?_⟩
    refine ⟨v, rfl, .ref a, rfl, a, T.cNotP, rfl, T.eNotP.ox, T.eNotP.no, .inl ⟨ha, fun dx nd ne => q dx nd ne⟩⟩
end
/-! ### check_possible -/
def spChkP (K : PySem.W.Frag) (CN : Addr) : Sp := fun vs H Q E => ∃ (n d : Nat) (v : V) (o : Option Int), vs = [.int n, .int d, v] ∧ n ≤ 60 ∧ 1 ≤ n ∧ d ≤ n ∧ CountV K H v o ∧
  (possB (leastL n d) o = true → ∀ H', Same H H' → Q .non H') ∧ (possB (leastL n d) o = false → Raised "count" CN v H E)
section
variable {P : Program} {w : World} {K : PySem.W.Frag} {mg : Str → Option Value} {base : Heap}
theorem ok_chkp (T : Txt K mg) {j : Nat} : FnOk P w K mg base (L2.CX P w) (j + 5) T.fChkP T.fdChkP ["n", "depth", "count"] (spChkP K T.cNotP) := by
  refine T.FChkP.okX scChkP (fun vs H Q E h => ?_) (fun cdv A outer s H vs Q E hr h => ?_)
  · obtain ⟨n, d, v, o, rfl, _⟩ := h
    rfl
  · obtain ⟨n, d, v, o, rfl, hn, h1, hd, hv, q1, q2⟩ := h
    refine ⟨_, pss_one (ps_if (pt_not (pt_val (pe_call (ok_poss T) hr (by rfl) T.gPoss T.FPoss.kp T.bPoss .nil pass0 (pa_cons (pv 0) (pa_cons (pv 1) (pa_cons (pv 2) pa_nil)))))) (pss_one (ps_raise rfl (takes_of rfl rfl rfl rfl) (pmk_oex T.eNotP.ox T.eNotP.iC T.eNotP.tI (ok_notp T) hr T.bNotP .nil pass0 (by rfl) T.gcNotP (pa_cons (pv 2) pa_nil)))) pss_nil), ?_⟩
    refine ⟨_, rfl, _, rfl, v, rfl, n, d, v, o, rfl, hn, h1, hd, hv, fun H1 s1 => ⟨_, rfl, ?_⟩⟩
    cases e : possB (leastL n d) o with
    | true => exact iteF (q1 e _ s1)
    | false =>
      refine iteT ⟨v, rfl, (by show 1 ≤ 1000; decide), fun a na => ⟨a, v, rfl, upd_same, fun dx nd ne => ?_⟩⟩
      obtain ⟨e1, e2, e3, e4, e5⟩ := err_end (f := "count") (v := v) na nd ne
      exact ⟨rfl, dx, _, e1, e2, e3, q2 e _ dx (s1.trans e4) e5 (s1.free e3)⟩
end
/-! ### NoNumber's __init__ -/
section
variable {P : Program} {w : World} {K : PySem.W.Frag} {mg : Str → Option Value} {base : Heap}
theorem ok_non (T : Txt K mg) {j : Nat} : FnOk P w K mg base CX0 (j + 1) T.fNoN T.fdNoN ["self", "value"] (spErr K T.cNoN "value") := by
  refine T.FNoN.ok scNoN (fun vs H Q E h => ?_) (fun cdv A outer s H vs Q E hr h => ?_)
  · obtain ⟨a, v, rfl, _⟩ := h
    rfl
  · obtain ⟨a, v, rfl, ha, q⟩ := h
    refine ⟨_, pss_cons (ps_expr (pe_baseInit (by rfl) T.gcBase T.btBase.sp T.btBase.ty T.btBase.rd T.btBase.fc (pa_cons (pv 0) (pa_cons pe_str pa_nil)))) (pss_one (ps_ost (pv 0) (pv 1))), ?_⟩
    refine ⟨.ref a, rfl, a, T.cNoN, _, rfl, (by show 1 ≤ 1000; decide), T.eNoN.ox, ha, ?_⟩
    refine ⟨v, rfl, .ref a, rfl, a, T.cNoN, rfl, T.eNoN.ox, T.eNoN.no, .inl ⟨ha, fun dx nd ne => q dx nd ne⟩⟩
end
/-! ### check_number -/
def spChkN (K : PySem.W.Frag) (CN : Addr) : Sp := fun vs H Q E => ∃ (m : Nat) (v : V) (o : Option Int), vs = [v, .int m] ∧ CountV K H v o ∧
  (numB m o = true → Q .non H) ∧ (numB m o = false → Raised "value" CN v H E)
section
variable {P : Program} {w : World} {K : PySem.W.Frag} {mg : Str → Option Value} {base : Heap}
theorem ok_chkn (T : Txt K mg) {j : Nat} : FnOk P w K mg base (L2.CX P w) (j + 3) T.fChkN T.fdChkN ["value", "many"] (spChkN K T.cNoN) := by
  refine T.FChkN.okX scChkN (fun vs H Q E h => ?_) (fun cdv A outer s H vs Q E hr h => ?_)
  · obtain ⟨m, v, o, rfl, _⟩ := h
    rfl
  · obtain ⟨m, v, o, rfl, hv, q1, q2⟩ := h
    refine ⟨_, pss_one (ps_if (PW.pt (pw_or (pt_not (pt_val (pe_call (ok_plain T) hr (by rfl) T.gPlain T.FPlain.kp T.bPlain .nil pass0 (pa_cons (pv 0) pa_nil)))) (pw_or (pt_cmpR op_lt (pv 0) pe_int (nomark _)) (pw_or1 (pt_cmpR op_ge (pv 0) (pv 1) (nomark _)))))) (pss_one (ps_raise rfl (takes_of rfl rfl rfl rfl) (pmk_oex T.eNoN.ox T.eNoN.iC T.eNoN.tI (ok_non T) hr T.bNoN .nil pass0 (by rfl) T.gcNoN (pa_cons (pv 0) pa_nil)))) pss_nil), ?_⟩
    have raise : numB m o = false → (tMkO T.cNoN (spErr K T.cNoN "value") [] (tCons (tVar 0) tNil)) [some v, some (.int m)] H (fun cls d H' => E cls d H') := fun ho => by
      refine ⟨v, rfl, (by show 1 ≤ 1000; decide), fun a na => ⟨a, v, rfl, upd_same, fun dx nd ne => ?_⟩⟩
      obtain ⟨e1, e2, e3, e4, e5⟩ := err_end (f := "value") (v := v) na nd ne
      exact ⟨rfl, dx, _, e1, e2, e3, q2 ho _ dx e4 e5 e3⟩
    obtain ⟨t, ht, e, ty⟩ := hv.ty
    refine ⟨v, rfl, v, t, rfl, ty, ht, _, rfl, ?_⟩
    rw [e]
    rcases hv with ⟨c, rfl, rfl⟩ | ⟨rfl, _⟩
    · refine iteF ?_
      refine ⟨_, rfl, _, _, rfl, rfl, _, rfl, ite2 (fun h1 => ?_) (fun h1 => ?_)⟩
      · have h2 : c < 0 := of_decide_eq_true h1
        refine raise ?_
        rw [numB_some, decide_eq_false (show ¬ 0 ≤ c by omega)]
        rfl
      · have h2 : ¬ c < 0 := fun z => h1 (decide_eq_true z)
        refine ⟨_, rfl, _, rfl, _, _, rfl, rfl, _, rfl, ite2 (fun h3 => ?_) (fun h3 => ?_)⟩
        · have h4 : (m : Int) ≤ c := of_decide_eq_true h3
          refine raise ?_
          rw [numB_some, decide_eq_false (show ¬ c < (m : Int) by omega), Bool.and_false]
        · have h4 : ¬ (m : Int) ≤ c := fun z => h3 (decide_eq_true z)
          refine q1 ?_
          rw [numB_some, decide_eq_true (show (0 : Int) ≤ c by omega), decide_eq_true (show c < (m : Int) by omega)]
          rfl
    · refine iteT ?_
      exact raise rfl
end
/-! ### the formulas -/
def spShared : Sp := fun vs H Q _ => ∃ t p : Nat, vs = [.int t, .int p] ∧ 0 < p ∧ p < 2 ^ 500 ∧ Q (.int (t / p : Nat)) H
/-- a formula: the count is asked first -/
def spForm (K : PySem.W.Frag) (CP : Addr) (e : Nat) (G : Nat → Nat → Nat → Nat → Nat) : Sp := fun vs H Q E => ∃ (n : Nat) (v : V) (o : Option Int) (u f : Nat), vs = [.int n, v, .int u, .int f] ∧ n ≤ 60 ∧ u ≤ n ∧ 1 ≤ f ∧ f + e ≤ u ∧ CountV K H v o ∧
  (possB (leastL n (n - u + f + e)) o = false → Raised "count" CP v H E) ∧ (∀ c : Nat, o = some (c : Int) → Std n (n - u + f + e) c → ∀ H', Same H H' → Q (.int (G n c u f : Nat)) H')
section
variable {P : Program} {w : World} {K : PySem.W.Frag} {mg : Str → Option Value} {base : Heap}
theorem ok_shared (T : Txt K mg) {j : Nat} : FnOk P w K mg base CX0 (j + 1) T.fShared T.fdShared ["total", "parts"] spShared := by
  refine T.FShared.ok scShared (fun vs H Q E h => ?_) (fun cdv A outer s H vs Q E hr h => ?_)
  · obtain ⟨t, p, rfl, _⟩ := h
    rfl
  · obtain ⟨t, p, rfl, h0, h5, q⟩ := h
    refine ⟨_, pss_cons (ps_if (pt_cmpR op_le (pv 1) pe_int (nomark _)) (pss_one (ps_ret pe_int)) pss_nil) (pss_one (ps_ret (pe_op op_fdivW (pv 0) (pv 1)))), ?_⟩
    refine ⟨_, rfl, _, _, rfl, rfl, _, rfl, ite2 (fun hb => ?_) (fun hb => ?_)⟩
    · have : (p : Int) ≤ 0 := of_decide_eq_true hb
      omega
    · refine ⟨_, rfl, _, rfl, _, _, rfl, rfl, wide_div (b := 500) (by omega) (by rw [Int.natAbs_natCast]; exact h5) (by decide) (by decide), ?_⟩
      rw [Int.natCast_ediv] at q
      exact q
theorem ok_hbsrv (T : Txt K mg) {j : Nat} : FnOk P w K mg base (L2.CX P w) (j + 6) T.fHbSrv T.fdHbSrv ["n", "count", "alive", "factor"] (spForm K T.cNotP 0 fun n c u f => c * f / u) := by
  refine T.FHbSrv.okX scHbSrv (fun vs H Q E h => ?_) (fun cdv A outer s H vs Q E hr h => ?_)
  · obtain ⟨n, v, o, u, f, rfl, _⟩ := h
    rfl
  · obtain ⟨n, v, o, u, f, rfl, hn, hu, f1, fu, hv, q1, q2⟩ := h
    refine ⟨_, pss_cons (ps_expr (pe_call (ok_chkp T) hr (by rfl) T.gChkP T.FChkP.kp T.bChkP .nil (passes_call (takes_of rfl rfl rfl rfl) (fun _ _ _ _ h => h)) (pa_cons (pv 0) (pa_cons (pe_op op_add (pe_op op_sub (pv 0) (pv 2)) (pv 3)) (pa_cons (pv 1) pa_nil))))) (PSs.nox (pss_one (ps_ret (pe_call (ok_shared T) hr (by rfl) T.gShared T.FShared.kp T.bShared .nil pass0 (pa_cons (pe_op op_mul (pv 1) (pv 3)) (pa_cons (pv 2) pa_nil)))))), ?_⟩
    have ed : (n : Int) - (u : Int) + (f : Int) = ((n - u + f + 0 : Nat) : Int) := by omega
    refine ⟨_, rfl, _, rfl, _, rfl, _, _, rfl, rfl, _, rfl, _, _, rfl, rfl, v, rfl, n, n - u + f + 0, v, o, by dsimp only; rw [ed]; rfl, hn, by omega, by omega, hv, fun hp H1 s1 => ?_, q1⟩
    obtain ⟨c, rfl, st⟩ := poss_std hn (by omega) (by omega) hp
    obtain rfl := hv.isInt
    have q3 := q2 c rfl st H1 s1
    refine ⟨_, rfl, _, rfl, _, _, rfl, rfl, .inr ⟨by omega, by omega⟩, _, rfl, c * f, u, ?_, by omega, Nat.lt_of_le_of_lt (show u ≤ 60 by omega) (by decide +kernel), q3⟩
    rw [Int.natCast_mul]
    rfl
end
/-! ### level_widths -/
def spWid : Sp := fun vs H Q _ => ∃ n d c : Nat, vs = [.int n, .int d, .int c] ∧ n ≤ 60 ∧ 1 ≤ n ∧ d ≤ n ∧ ∀ H' p, Same H H' → H p = none → H' p = some (.lst (setV (wdsL n c d))) → Q (.ref p) H'
section
variable {P : Program} {w : World} {K : PySem.W.Frag} {mg : Str → Option Value} {base : Heap}
theorem ok_wid (T : Txt K mg) {j : Nat} : FnOk P w K mg base CX0 (j + 1) T.fWid T.fdWid ["n", "depth", "count"] spWid := by
  refine T.FWid.ok scWid (fun vs H Q E h => ?_) (fun cdv A outer s H vs Q E hr h => ?_)
  · obtain ⟨n, d, c, rfl, _⟩ := h
    rfl
  · obtain ⟨n, d, c, rfl, hn, h1, hd, q⟩ := h
    refine ⟨_, pss_cons (ps_set (i := 3) scWid.nd rfl (.inl rfl) (pe_lst pa_nil)) (pss_cons (ps_set (i := 4) scWid.nd rfl (.inl rfl) (pv 0)) (pss_cons (ps_for PassesOwn.never rfl (pi_range1 (by rfl) T.n_range (pa_cons (pv 1) pa_nil)) (pg_name (i := 5) scWid.nd rfl (.inl rfl)) (pss_cons (ps_expr (pe_bm PySem.F.plainAttrs_list PySem.F.slot_list_append PySem.F.type_list_append mt_append (pv 3) (pa_cons (pe_op op_fdivW (pv 2) (pv 4)) pa_nil))) (pss_one (ps_set (i := 4) scWid.nd rfl (.inl rfl) (pe_op op_fdivW (pe_op op_mul (pv 4) (pe_op op_sub (pe_op op_sub (pv 0) pe_int) (pv 5))) (pe_op op_add (pv 5) pe_int)))))) (pss_one (ps_ret (pv 3))))), ?_⟩
    refine ⟨Nat.zero_le _, fun pw nw => ?_⟩
    refine ⟨_, rfl, _, rfl, (d : Int), rfl, by omega, by omega, ?_⟩
    refine for_range (lo := 0) (n := (d : Int).toNat) (fun i σ H2 => ∃ u, σ = [some (.int n), some (.int d), some (.int c), some (.ref pw), some (.int ((n * C (n - 1) i : Nat) : Int)), u] ∧ Same H H2 ∧ H2 pw = some (.lst (setV (wdsL n c i)))) ⟨none, by rw [C_zero, Nat.mul_one]; rfl, same_new nw, upd_same⟩ ?_ ?_
    · rintro i σ H2 hi ⟨u, rfl, s2, hW⟩
      have hid : i < n := by omega
      have e0 := edge_pos hid
      have e1 := edge_lt (d := i) hn
      rw [Int.zero_add]
      refine ⟨.ref pw, rfl, .inl ⟨rfl, _, SqL.of hW⟩, _, rfl, _, rfl, _, _, rfl, rfl, wide_div (b := 64) (by omega) (by omega) (by decide) (by decide), pw, _, _, rfl, rfl, hW, ?_, ?_⟩
      · rw [setV_len, wds_len]
        exact small1000 (by omega)
      refine ⟨_, rfl, _, rfl, _, _, rfl, rfl, _, rfl, _, _, rfl, rfl, _, _, rfl, rfl, .inl ⟨by omega, by omega⟩, _, rfl, _, _, rfl, rfl, _, _, rfl, rfl, wide_div (b := 64) (by omega) (by omega) (by decide) (by decide), ?_⟩
      refine ⟨some (.int (i : Int)), ?_, keep_upd s2 nw, ?_⟩
      · have es : ((n * C (n - 1) (i + 1) : Nat) : Int) = ((n * C (n - 1) i : Nat) : Int) * ((n : Int) - 1 - (i : Int)) / ((i : Int) + 1) := by
          rw [← edge_step hid, Int.natCast_ediv, Int.natCast_mul (n * C (n - 1) i), show ((n - 1 - i : Nat) : Int) = (n : Int) - 1 - (i : Int) by omega]
          rfl
        rw [es]
        rfl
      · rw [upd_same, wds_step, setV_app]
        show _ = some (HO.lst (_ ++ [V.int ((c / (n * C (n - 1) i) : Nat) : Int)]))
        rw [Int.natCast_ediv]
    · rintro σ H2 ⟨u, rfl, s2, hW⟩
      rw [Int.toNat_natCast] at hW
      exact ⟨_, rfl, q _ pw s2 nw hW⟩
end
/-! ### follow, path, list_at, place_at -/
def spFollow (K : PySem.W.Frag) : Sp := fun vs H Q _ => ∃ (n c : Nat) (a b : Addr) (ss L : List Nat) (r : Nat), vs = [.ref a, .ref b, .int r] ∧ c < 2 ^ 500 ∧ SqL K H a (setV (ss.map (wd n c))) ∧ ss.length ≤ 60 ∧ (SqL K H b (setV L) ∨ SqT K H b (setV L)) ∧ L.length ≤ 60 ∧ (∀ x ∈ L, x < 60) ∧ FolOk n c ss L r ∧
  ∀ H' u, Same H H' → PairAt H H' u (fol n c ss L r).1 (fol n c ss L r).2 → Q (.ref u) H'
section
variable {P : Program} {w : World} {K : PySem.W.Frag} {mg : Str → Option Value} {base : Heap}
theorem ok_follow (T : Txt K mg) {j : Nat} : FnOk P w K mg base CX0 (j + 3) T.fFollow T.fdFollow ["widths", "servers", "rest"] (spFollow K) := by
  refine T.FFollow.ok scFollow (fun vs H Q E h => ?_) (fun cdv A outer s H vs Q E hr h => ?_)
  · obtain ⟨n, c, a, b, ss, L, r, rfl, _⟩ := h
    rfl
  · obtain ⟨n, c, a, b, ss, L, r, rfl, hc, hS, hsl, hL, hLl, hLx, ok, q⟩ := h
    refine ⟨_, pss_cons (ps_set (i := 3) scFollow.nd rfl (.inl rfl) (pe_callTy (call_listK K) (by rfl) T.n_list (by decide +kernel) (pa_cons (pv 1) pa_nil))) (pss_cons (ps_set (i := 4) scFollow.nd rfl (.inl rfl) (pe_lst pa_nil)) (pss_cons (ps_for PassesOwn.never rfl (pi_list (pv 0)) (pg_name (i := 5) scFollow.nd rfl (.inl rfl)) (pss_cons (ps_set (i := 6) scFollow.nd rfl (.inl rfl) (pe_op op_fdivW (pv 2) (pv 5))) (pss_cons (ps_set (i := 7) scFollow.nd rfl (.inl rfl) (pe_bm PySem.F.plainAttrs_list PySem.F.slot_list_pop PySem.F.type_list_pop mt_popAt (pv 3) (pa_cons (pv 6) pa_nil))) (pss_cons (ps_expr (pe_bm PySem.F.plainAttrs_list PySem.F.slot_list_append PySem.F.type_list_append mt_append (pv 4) (pa_cons (pv 7) pa_nil))) (pss_one (ps_aug (i := 2) scFollow.nd rfl (.inl rfl) (pe_op op_mul (pv 5) (pe_op op_sub (pe_op op_sub (pv 7) (pv 6)) (pv 6))) ip_add)))))) (pss_one (ps_ret (pe_tup (pa_cons (pe_callTy (call_tupleK K) (by rfl) T.n_tuple (by decide +kernel) (pa_cons (pv 4) pa_nil)) (pa_cons (pv 2) pa_nil))))))), ?_⟩
    refine ⟨.ref b, rfl, b, _, rfl, hL, fun pl nl => ?_⟩
    refine ⟨Nat.zero_le _, fun pt nt => ?_⟩
    have npt : pt ≠ pl := fun z => by
      rw [z, upd_same] at nt
      cases nt
    have ft : H pt = none := (same_new nl).free nt
    refine ⟨.ref a, rfl, a, rfl, ⟨_, Same.seq (same_new nt) (Same.seq (same_new nl) hS)⟩, for_list (K := K) (a := a) (xs := setV (ss.map (wd n c))) (fun i σ H2 => ∃ (pre M : List Nat) (x : Nat) (v8 v9 v10 : Option V), σ = [some (.ref a), some (.ref b), some (.int (x : Int)), some (.ref pl), some (.ref pt), v8, v9, v10] ∧ Same H H2 ∧ H2 pl = some (.lst (setV M)) ∧ H2 pt = some (.lst (setV pre)) ∧ M.length ≤ 60 ∧ pre.length = i ∧ (∀ x ∈ M, x < 60) ∧ FolOk n c (ss.drop i) M x ∧ fol n c ss L r = (pre ++ (fol n c (ss.drop i) M x).1, (fol n c (ss.drop i) M x).2)) ?_ ?_ ?_ ?_⟩
    · refine ⟨[], L, r, none, none, none, rfl, (same_new nl).trans (same_new nt), ?_, upd_same, hLl, rfl, hLx, ok, rfl⟩
      rw [upd_ne npt.symm]
      exact upd_same
    · rintro i σ H2 hi ⟨pre, M, x, v8, v9, v10, rfl, s2, _⟩
      exact s2.seq hS
    · rintro i z σ H2 hz ⟨pre, M, x, v8, v9, v10, rfl, s2, hM, hP, hMl, hpl, hMx, okk, hf⟩
      have hil : i < ss.length := by
        have := (List.getElem?_eq_some_iff.mp hz).1
        rw [setV_len, List.length_map] at this
        exact this
      obtain rfl : z = V.int (wd n c ss[i] : Nat) := by
        rw [setV_at (m := wd n c ss[i]) (by rw [List.getElem?_map, List.getElem?_eq_getElem hil]; rfl)] at hz
        exact (Option.some.inj hz).symm
      rw [List.drop_eq_getElem_cons hil] at okk hf
      generalize ss[i] = sz at okk hf
      rw [fol_cons] at hf
      obtain ⟨w0, hix, hge, okk2⟩ := okk
      have wc := wd_le n c sz
      have hm : M.getD (x / wd n c sz) 0 < 60 := hMx _ (List.mem_of_getElem? (getD_of hix))
      have hdm := Nat.div_add_mod x (wd n c sz)
      refine ⟨_, rfl, _, rfl, _, _, rfl, rfl, wide_div (b := 500) (Int.ofNat_lt.mpr w0) (Nat.lt_of_le_of_lt wc hc) (by decide) (by decide), ?_⟩
      dsimp only [gName]
      rw [← Int.natCast_ediv]
      have hM2 := getD_of hix
      generalize x / wd n c sz = ix at hix hge okk2 hf hm hM2 hdm ⊢
      generalize M.getD ix 0 = sv at hge okk2 hf hm hM2
      refine ⟨.ref pl, rfl, .inl ⟨rfl, _, SqL.of hM⟩, _, rfl, pl, _, _, _, _, rfl, rfl, hM, by omega, by omega, seq_at (by rw [setV_len]; exact hix), setV_at hM2, ?_⟩
      rw [setV_erase]
      have hpt3 : (upd H2 pl (.lst (setV (M.eraseIdx ix)))) pt = some (.lst (setV pre)) := by
        rw [upd_ne npt]
        exact hP
      refine ⟨.ref pt, rfl, .inl ⟨rfl, _, SqL.of hpt3⟩, _, rfl, pt, _, _, rfl, rfl, hpt3, ?_, ?_⟩
      · rw [setV_len]
        have := hil
        exact small1000 (by omega)
      refine ⟨_, rfl, _, rfl, _, rfl, _, rfl, _, _, rfl, rfl, _, rfl, _, _, rfl, rfl, _, _, rfl, rfl, .inr ⟨by omega, by omega⟩, _, _, rfl, rfl, ?_⟩
      refine ⟨pre ++ [sv], M.eraseIdx ix, wd n c sz * (sv - ix) + x % wd n c sz, some (.int (wd n c sz : Nat)), some (.int (ix : Int)), some (.int (sv : Int)), ?_, ?_, ?_, ?_, ?_, ?_, ?_, okk2, ?_⟩
      · have e9 : ((wd n c sz * (sv - ix) + x % wd n c sz : Nat) : Int) = (x : Int) + (wd n c sz : Int) * ((sv : Int) - (ix : Int) - (ix : Int)) := by
          have e8 : (x : Int) = (wd n c sz : Int) * (ix : Int) + ((x % wd n c sz : Nat) : Int) := by
            rw [← Int.natCast_mul, ← Int.natCast_add, hdm]
          rw [Int.natCast_add, Int.natCast_mul, Int.natCast_sub hge]
          simp only [Int.mul_sub]
          omega
        rw [e9]
        rfl
      · exact keep_upd (keep_upd s2 nl) ft
      · rw [upd_ne npt.symm]
        exact upd_same
      · rw [upd_same, setV_app]
        rfl
      · rw [List.length_eraseIdx]
        split <;> omega
      · rw [List.length_append, hpl]
        rfl
      · exact fun y hy => hMx y (List.mem_of_mem_eraseIdx hy)
      · rw [hf, List.append_assoc]
        rfl
    · rintro σ H2 ⟨pre, M, x, v8, v9, v10, rfl, s2, hM, hP, hMl, hpl, hMx, okk, hf⟩
      rw [setV_len, List.length_map, List.drop_length] at hf
      refine ⟨.ref pt, rfl, pt, _, rfl, .inl ⟨SqL.of hP, fun l nl2 => ?_⟩⟩
      refine ⟨_, rfl, (by show 2 ≤ sizeLine; decide), fun u nu => ?_⟩
      have f1 := s2.free nl2
      refine q _ u ((s2.trans (same_new nl2)).trans (same_new nu)) ⟨(s2.trans (same_new nl2)).free nu, l, f1, ?_, ?_⟩
      · rw [upd_same, hf]
        rfl
      · rw [upd_ne (ne_of_none (o := .tup (setV pre)) upd_same nu), upd_same, hf]
        show _ = some (HO.tup (setV (pre ++ [])))
        rw [List.append_nil]
end
/-! ### path, list_at, place_at -/
def spPath : Sp := fun vs H Q _ => ∃ (n d c k : Nat), vs = [.int n, .int d, .int c, .int k] ∧ Std n d c ∧ k < c ∧ c < 2 ^ 500 ∧
  ∀ H' u, Same H H' → PairAt H H' u (path n d c k).1 (path n d c k).2 → Q (.ref u) H'
/-- a count that is possible, and a number below it -/
def spListAt (K : PySem.W.Frag) (CP CN : Addr) (G : Nat → Nat → Nat → Nat → Hp → VK → Prop) : Sp := fun vs H Q E => ∃ (n d : Nat) (v : V) (o : Option Int) (u : V) (m : Option Int), vs = [.int n, .int d, v, u] ∧ n ≤ 60 ∧ 1 ≤ n ∧ d ≤ n ∧ CountV K H v o ∧ CountV K H u m ∧
  (possB (leastL n d) o = false → Raised "count" CP v H E) ∧
  (∀ c : Nat, o = some (c : Int) → Std n d c → c < 2 ^ 500 ∧ (numB c m = false → Raised "value" CN u H E) ∧ (∀ k : Nat, m = some (k : Int) → k < c → G n d c k H Q))
def gList : Nat → Nat → Nat → Nat → Hp → VK → Prop := fun n d c k H Q => ∀ H' t, Same H H' → H t = none → H' t = some (.tup (setV (path n d c k).1)) → Q (.ref t) H'
def gPlace : Nat → Nat → Nat → Nat → Hp → VK → Prop := fun n d c k H Q => ∀ H' u ms, Same H H' → ms.Perm (path n d c k).1 → Asc ms → PairAt H H' u ms (path n d c k).2 → Q (.ref u) H'
theorem spListAt_ok {K : PySem.W.Frag} {CP CN : Addr} {G : Nat → Nat → Nat → Nat → Hp → VK → Prop} {n d c k : Nat} {H : Hp} {Q : VK} {E : XK} (st : Std n d c) (hk : k < c) (hc : c < 2 ^ 500) (g : G n d c k H Q) : spListAt K CP CN G [.int n, .int d, .int c, .int k] H Q E := by
  refine ⟨n, d, .int c, some c, .int k, some k, rfl, st.n60, st.n1, st.dn, .inl ⟨c, rfl, rfl⟩, .inl ⟨k, rfl, rfl⟩, fun h => ?_, fun c' e st' => ?_⟩
  · rw [std_poss st] at h
    cases h
  · have e2 := Option.some.inj e
    obtain rfl : c = c' := by omega
    refine ⟨hc, fun h => ?_, fun k' e3 hk' => ?_⟩
    · rw [numB_some, decide_eq_true (show (0 : Int) ≤ (k : Int) by omega), decide_eq_true (show (k : Int) < (c : Int) by omega)] at h
      cases h
    · have e4 := Option.some.inj e3
      obtain rfl : k = k' := by omega
      exact g
theorem gList.on {n d c k : Nat} {H H1 : Hp} {Q : VK} (s : Same H H1) (g : gList n d c k H Q) : gList n d c k H1 Q := fun H' t s2 nt e => g H' t (s.trans s2) (s.free nt) e
theorem gPlace.on {n d c k : Nat} {H H1 : Hp} {Q : VK} (s : Same H H1) (g : gPlace n d c k H Q) : gPlace n d c k H1 Q := fun H' u ms s2 pm a pu => g H' u ms (s.trans s2) pm a (pu.back s)
section
variable {P : Program} {w : World} {K : PySem.W.Frag} {mg : Str → Option Value} {base : Heap}
theorem ok_path (T : Txt K mg) {j : Nat} : FnOk P w K mg base CX0 (j + 4) T.fPath T.fdPath ["n", "depth", "count", "number"] spPath := by
  refine T.FPath.ok scPath (fun vs H Q E h => ?_) (fun cdv A outer s H vs Q E hr h => ?_)
  · obtain ⟨n, d, c, k, rfl, _⟩ := h
    rfl
  · obtain ⟨n, d, c, k, rfl, st, hk, hc, q⟩ := h
    have hn := st.n60
    have hd := st.dn
    refine ⟨_, pss_one (ps_ret (pe_call (ok_follow T) hr (by rfl) T.gFollow T.FFollow.kp T.bFollow .nil pass0 (pa_cons (pe_call (ok_wid T) hr (by rfl) T.gWid T.FWid.kp T.bWid .nil pass0 (pa_cons (pv 0) (pa_cons (pv 1) (pa_cons (pv 2) pa_nil)))) (pa_cons (pe_listRg rfl (by rfl) T.n_list (prg_1 (by rfl) T.n_range (pv 0))) (pa_cons (pv 3) pa_nil))))), ?_⟩
    refine ⟨_, rfl, _, rfl, _, rfl, n, d, c, rfl, hn, st.n1, hd, fun H1 a s1 na hA => ?_⟩
    refine ⟨_, rfl, _, rfl, .of_le (by omega) (by omega) (by omega) (by omega), fun b nb => ?_⟩
    rw [setV_range n]
    have s2 := same_new (o := .lst (setV (List.range' 0 n))) nb
    have hw : wdsL n c d = (List.range' 0 d).map (wd n c) := by
      unfold wdsL
      rw [List.range_eq_range']
    rw [hw] at hA
    refine ⟨_, rfl, n, c, a, b, List.range' 0 d, List.range' 0 n, k, rfl, hc, SqL.of (s2 _ _ hA), ?_, .inl (SqL.of upd_same), ?_, fun x hx => ?_, path_ok st hk, fun H' u s3 pu => ?_⟩
    · rw [List.length_range']
      omega
    · rw [List.length_range']
      omega
    · have := mem_range0.mp hx
      omega
    · exact q H' u ((s1.trans s2).trans s3) (pu.back (s1.trans s2))
end
/-! ### is_set, and the law's own look -/
def chk (n : Int) : Int → List PyData → Bool
  | _, [] => true
  | least, .int i :: r => decide (least ≤ i) && (decide (i < n) && chk n (i + 1) r)
  | _, _ :: _ => false
def setD (n : Int) : PyData → Bool
  | .tuple ds => chk n 0 ds
  | _ => false
theorem tyN_in (d : PyData) : tyN d ∈ tyNames := by
  cases d with
  | none => exact (by decide : "NoneType" ∈ tyNames)
  | bool _ => exact (by decide : "bool" ∈ tyNames)
  | int _ => exact (by decide : "int" ∈ tyNames)
  | str _ => exact (by decide : "str" ∈ tyNames)
  | list _ => exact (by decide : "list" ∈ tyNames)
  | tuple _ => exact (by decide : "tuple" ∈ tyNames)
  | dict _ => exact (by decide : "dict" ∈ tyNames)
theorem tyN_int {d : PyData} (h : (tyN d == "int") = true) : ∃ i, d = .int i := by
  cases d with
  | int i => exact ⟨i, rfl⟩
  | none => exact absurd (show ("NoneType" == "int") = true from h) (by decide)
  | bool _ => exact absurd (show ("bool" == "int") = true from h) (by decide)
  | str _ => exact absurd (show ("str" == "int") = true from h) (by decide)
  | list _ => exact absurd (show ("list" == "int") = true from h) (by decide)
  | tuple _ => exact absurd (show ("tuple" == "int") = true from h) (by decide)
  | dict _ => exact absurd (show ("dict" == "int") = true from h) (by decide)
theorem chk_no {n least : Int} {d : PyData} {r : List PyData} (h : (tyN d == "int") = false) : chk n least (d :: r) = false := by
  cases d with
  | int i => exact absurd (show ("int" == "int") = false from h) (by decide)
  | _ => rfl
theorem chk_int (n least i : Int) (r : List PyData) : chk n least (.int i :: r) = (decide (least ≤ i) && (decide (i < n) && chk n (i + 1) r)) := rfl
theorem drop_at {ds : List PyData} {i : Nat} {d : PyData} (h : ds[i]? = some d) : ds.drop i = d :: ds.drop (i + 1) := by
  obtain ⟨hl, e⟩ := List.getElem?_eq_some_iff.mp h
  rw [List.drop_eq_getElem_cons hl, e]
def spSet (K : PySem.W.Frag) : Sp := fun vs H Q _ => ∃ (n : Int) (v : V) (d : PyData), vs = [.int n, v] ∧ ItemV K H v d ∧ Q (.bl (setD n d)) H
theorem item_tuple_parts {K : PySem.W.Frag} {H : Hp} {v : V} {ds : List PyData} (h : ItemV K H v (.tuple ds)) : ∃ a xs, v = .ref a ∧ SqT K H a xs ∧ DpAll K H xs ds := by
  rcases h with ⟨h, _⟩ | ⟨e, _⟩
  · cases h with
    | tup h t => exact ⟨_, _, rfl, h, t⟩
  · cases e
section
variable {P : Program} {w : World} {K : PySem.W.Frag} {mg : Str → Option Value} {base : Heap}
theorem ok_set (T : Txt K mg) {j : Nat} : FnOk P w K mg base CX0 (j + 2) T.fSet T.fdSet ["n", "thing"] (spSet K) := by
  refine T.FSet.ok scSet (fun vs H Q E h => ?_) (fun cdv A outer s H vs Q E hr h => ?_)
  · obtain ⟨n, v, d, rfl, _⟩ := h
    rfl
  · obtain ⟨n, v, d, rfl, hv, q⟩ := h
    refine ⟨_, pss_cons (ps_if (pt_not (pt_val (pe_callB (call_isiK1 K) (by rfl) T.n_isinstance (by decide +kernel) (pa_cons (pv 1) (pa_cons (pe_bltn (v := .ty "tuple") (by rfl) T.n_tuple (by decide +kernel) rfl) pa_nil))))) (pss_one (ps_ret pe_bl)) pss_nil) (pss_cons (ps_set (i := 2) scSet.nd rfl (.inl rfl) pe_int) (pss_cons (ps_for PassesOwn.never rfl (pi_tup (pv 1)) (pg_name (i := 3) scSet.nd rfl (.inl rfl)) (pss_cons (ps_if (PW.pt (pw_or (pt_not (pt_val (pe_call (ok_plain T) hr (by rfl) T.gPlain T.FPlain.kp T.bPlain .nil pass0 (pa_cons (pv 3) pa_nil)))) (pw_or (pt_cmpR op_lt (pv 3) (pv 2) (nomark _)) (pw_or1 (pt_cmpR op_ge (pv 3) (pv 0) (nomark _)))))) (pss_one (ps_ret pe_bl)) pss_nil) (pss_one (ps_set (i := 2) scSet.nd rfl (.inl rfl) (pe_op op_add (pv 3) pe_int))))) (pss_one (ps_ret pe_bl)))), ?_⟩
    refine ⟨v, rfl, v, .ty "tuple", _, _, _, rfl, .ty _, hv.ty, kit_tuple (tyN_in d), _, rfl, ?_⟩
    cases d with
    | tuple ds =>
      refine iteF ?_
      obtain ⟨a, xs, rfl, hx, ht⟩ := item_tuple_parts hv
      refine ⟨.ref a, rfl, a, rfl, ⟨_, hx⟩, for_tup (K := K) (a := a) (xs := xs) (fun i σ H' => ∃ (least : Int) (u : Option V), σ = [some (.int n), some (.ref a), some (.int least), u] ∧ H' = H ∧ chk n 0 ds = chk n least (ds.drop i)) ⟨0, none, rfl, rfl, rfl⟩ (fun i σ H' _ ⟨_, _, _, e, _⟩ => e ▸ hx) ?_ ?_⟩
      · rintro i x σ H' hi ⟨least, u, rfl, rfl, ec⟩
        obtain ⟨d, hd, hD⟩ := dpAll_at ht hi
        rw [drop_at hd] at ec
        refine ⟨x, rfl, x, tyN d, rfl, Ef.Dp.ty hD, tyN_in d, _, rfl, ?_⟩
        cases hb : (tyN d == "int") with
        | false =>
          rw [chk_no hb] at ec
          refine iteT ?_
          have q2 : Q (V.bl (chk n 0 ds)) H' := q
          rw [ec] at q2
          exact q2
        | true =>
          obtain ⟨z, rfl⟩ := tyN_int hb
          cases hD
          rw [chk_int] at ec
          refine iteF ?_
          refine ⟨_, rfl, _, rfl, _, _, rfl, rfl, _, rfl, ite2 (fun h1 => ?_) (fun h1 => ?_)⟩
          · have h2 : z < least := of_decide_eq_true h1
            rw [decide_eq_false (show ¬ least ≤ z by omega)] at ec
            have q2 : Q (V.bl (chk n 0 ds)) H' := q
            rw [ec] at q2
            exact q2
          · have h2 : ¬ z < least := fun y => h1 (decide_eq_true y)
            rw [decide_eq_true (show least ≤ z by omega), Bool.true_and] at ec
            refine ⟨_, rfl, _, rfl, _, _, rfl, rfl, _, rfl, ite2 (fun h3 => ?_) (fun h3 => ?_)⟩
            · have h4 : n ≤ z := of_decide_eq_true h3
              rw [decide_eq_false (show ¬ z < n by omega)] at ec
              have q2 : Q (V.bl (chk n 0 ds)) H' := q
              rw [ec] at q2
              exact q2
            · have h4 : ¬ n ≤ z := fun y => h3 (decide_eq_true y)
              rw [decide_eq_true (show z < n by omega), Bool.true_and] at ec
              exact ⟨_, rfl, _, _, rfl, rfl, z + 1, _, rfl, rfl, ec⟩
      · rintro σ H' ⟨least, u, rfl, rfl, ec⟩
        rw [← dpAll_len ht, List.drop_length] at ec
        have q2 : Q (V.bl (chk n 0 ds)) H' := q
        rw [ec] at q2
        exact q2
    | _ => exact iteT q
end
/-! ### outside -/
def subL (f : Nat → Bool) (n : Nat) : List Int := ((List.range n).filter f).map fun (i : Nat) => (i : Int)
theorem subL_succ (f : Nat → Bool) (n : Nat) : subL f (n + 1) = subL f n ++ (if f n then [(n : Int)] else []) := by
  unfold subL
  rw [List.range_succ, List.filter_append, List.map_append]
  congr 1
  cases h : f n with
  | true => rw [List.filter_cons_of_pos h]; rfl
  | false => rw [List.filter_cons_of_neg (by rw [h]; decide)]; rfl
theorem subL_congr {f g : Nat → Bool} {n : Nat} (h : ∀ i, i < n → f i = g i) : subL f n = subL g n := by
  unfold subL
  rw [List.filter_congr fun i hi => h i (List.mem_range.mp hi)]
theorem mem_subL {f : Nat → Bool} {n i : Nat} : (i : Int) ∈ subL f n ↔ i < n ∧ f i = true := by
  unfold subL
  rw [List.mem_map]
  constructor
  · rintro ⟨k, hk, e⟩
    have e' : k = i := by omega
    subst e'
    rw [List.mem_filter, List.mem_range] at hk
    exact hk
  · rintro ⟨h1, h2⟩
    exact ⟨i, List.mem_filter.mpr ⟨List.mem_range.mpr h1, h2⟩, rfl⟩
theorem subL_len (f : Nat → Bool) (n : Nat) : (subL f n).length ≤ n := by
  unfold subL
  rw [List.length_map]
  exact Nat.le_trans (List.length_filter_le _ _) (Nat.le_of_eq List.length_range)
theorem subL_lt {f : Nat → Bool} {n : Nat} : ∀ x ∈ subL f n, 0 ≤ x ∧ x < n := by
  intro x hx
  unfold subL at hx
  obtain ⟨k, hk, e⟩ := List.mem_map.mp hx
  have h1 := List.mem_range.mp (List.mem_filter.mp hk).1
  omega
/-- the other servers -/
def outL (n : Nat) (ns : List Int) : List Int := subL (fun i => !decide ((i : Int) ∈ ns)) n
theorem outL_sub (f : Nat → Bool) (n : Nat) : outL n (subL f n) = subL (fun i => !f i) n := by
  refine subL_congr fun i hi => ?_
  congr 1
  cases h : f i with
  | true => exact decide_eq_true (mem_subL.mpr ⟨hi, h⟩)
  | false => exact decide_eq_false fun z => by rw [(mem_subL.mp z).2] at h; cases h
theorem outL_out (f : Nat → Bool) (n : Nat) : outL n (outL n (subL f n)) = subL f n := by
  rw [outL_sub, outL_sub]
  exact subL_congr fun i _ => by cases f i <;> rfl
def spOut (K : PySem.W.Frag) : Sp := fun vs H Q _ => ∃ (n : Nat) (a : Addr) (ns : List Int), vs = [.int n, .ref a] ∧ SqT K H a (ns.map V.int) ∧ n ≤ 1000 ∧ ns.length ≤ 1000 ∧
  ∀ H' p, Same H H' → H p = none → H' p = some (.tup ((outL n ns).map V.int)) → Q (.ref p) H'
section
variable {P : Program} {w : World} {K : PySem.W.Frag} {mg : Str → Option Value} {base : Heap}
theorem ok_out (T : Txt K mg) {j : Nat} : FnOk P w K mg base CX0 (j + 1) T.fOut T.fdOut ["n", "members"] (spOut K) := by
  refine T.FOut.ok scOut (fun vs H Q E h => ?_) (fun cdv A outer s H vs Q E hr h => ?_)
  · obtain ⟨n, a, ns, rfl, _⟩ := h
    rfl
  · obtain ⟨n, a, ns, rfl, hS, hn, hl, q⟩ := h
    refine ⟨_, pss_cons (ps_set (i := 2) scOut.nd rfl (.inl rfl) (pe_callTy (cr_setT rfl) (by rfl) T.n_set (by decide +kernel) (pa_cons (pv 1) pa_nil)))
      (pss_cons (ps_set (i := 3) scOut.nd rfl (.inl rfl) (pe_lst pa_nil))
      (pss_cons (ps_for PassesOwn.never rfl (pi_range1 (by rfl) T.n_range (pa_cons (pv 0) pa_nil)) (pg_name (i := 4) scOut.nd rfl (.inl rfl))
        (pss_one (ps_if (pt_cmpR or_snotin (pv 4) (pv 2) (by rfl)) (pss_one (ps_expr (pe_bm PySem.F.plainAttrs_list PySem.F.slot_list_append PySem.F.type_list_append mt_append (pv 3) (pa_cons (pv 4) pa_nil)))) pss_nil)))
      (pss_one (ps_ret (pe_callTy call_tuple_of (by rfl) T.n_tuple (by decide +kernel) (pa_cons (pv 3) pa_nil)))))), ?_⟩
    refine ⟨.ref a, rfl, a, ns, rfl, hS, hl, fun t c nt => ?_⟩
    refine ⟨Nat.zero_le _, fun o no => ?_⟩
    have s1 := same_new (o := SetO w t (fun j => decide (j ∈ ns)) c) nt
    have fo : H o = none := s1.free no
    have nto : t ≠ o := ne_of_none upd_same no
    refine ⟨_, rfl, (n : Int), rfl, by omega, by omega, ?_⟩
    refine for_range (lo := 0) (n := (n : Int).toNat) (fun i σ H2 => ∃ v, σ = [some (.int n), some (.ref a), some (.ref t), some (.ref o), v] ∧ Same H H2 ∧ H2 t = some (SetO w t (fun j => decide (j ∈ ns)) c) ∧ H2 o = some (.lst ((subL (fun i => !decide ((i : Int) ∈ ns)) i).map V.int))) ?_ ?_ ?_
    · exact ⟨none, rfl, s1.trans (same_new no), by rw [upd_ne nto]; exact upd_same, upd_same⟩
    · rintro i σ H2 hi ⟨v, rfl, s2, ht, ho⟩
      rw [Int.zero_add]
      refine ⟨_, rfl, _, rfl, (i : Int), t, _, c, rfl, rfl, ht, _, rfl, ?_⟩
      by_cases hm : (i : Int) ∈ ns
      · rw [decide_eq_true hm]
        refine iteF ⟨_, rfl, s2, ht, ?_⟩
        rw [subL_succ, if_neg (by rw [decide_eq_true hm]; decide), List.append_nil]
        exact ho
      · rw [decide_eq_false hm]
        refine iteT ?_
        refine ⟨.ref o, rfl, .inl ⟨rfl, _, SqL.of ho⟩, _, rfl, o, _, _, rfl, rfl, ho, ?_, ?_⟩
        · have h8 := subL_len (fun i => !decide ((i : Int) ∈ ns)) i
          rw [List.length_map]
          exact small1000 (by omega)
        · refine ⟨_, rfl, keep_upd s2 fo, by rw [upd_ne nto]; exact ht, ?_⟩
          rw [upd_same, subL_succ, if_pos (by rw [decide_eq_false hm]; rfl), List.map_append]
          rfl
    · rintro σ H2 ⟨v, rfl, s2, ht, ho⟩
      rw [Int.toNat_natCast] at ho
      exact ⟨.ref o, rfl, o, _, rfl, .inl ⟨SqL.of ho, fun p np => q _ p (s2.trans (same_new np)) (s2.free np) upd_same⟩⟩
end
/-! ### joined -/
def spJoined (K : PySem.W.Frag) : Sp := fun vs H Q _ => ∃ (a : Addr) (ms : List Nat) (x : Nat), vs = [.ref a, .int x] ∧ SqT K H a (setV ms) ∧ ms.length ≤ 60 ∧
  ∀ H' t, Same H H' → H t = none → H' t = some (.tup (setV (srt (ms ++ [x])))) → Q (.ref t) H'
section
variable {P : Program} {w : World} {K : PySem.W.Frag} {mg : Str → Option Value} {base : Heap}
theorem ok_joined (T : Txt K mg) {j : Nat} : FnOk P w K mg base CX0 (j + 1) T.fJoined T.fdJoined ["members", "server"] (spJoined K) := by
  refine T.FJoined.ok scJoined (fun vs H Q E h => ?_) (fun cdv A outer s H vs Q E hr h => ?_)
  · obtain ⟨a, ms, x, rfl, _⟩ := h
    rfl
  · obtain ⟨a, ms, x, rfl, hA, hl, q⟩ := h
    refine ⟨_, pss_one (ps_ret (pe_callTy (call_tupleK K) (by rfl) T.n_tuple (by decide +kernel) (pa_cons (pe_callB (cr_sortTI K) (by rfl) T.n_sorted (by decide +kernel) (pa_cons (pe_op (op_catS K) (pv 0) (pe_tup (pa_cons (pv 1) pa_nil))) pa_nil)) pa_nil))), ?_⟩
    refine ⟨.ref a, rfl, _, rfl, by show 1 ≤ sizeLine; decide, fun e ne => ?_⟩
    have s1 := same_new (o := .tup [V.int (x : Int)]) ne
    refine ⟨a, e, setV ms, [V.int (x : Int)], rfl, rfl, Same.seqT s1 hA, SqT.of upd_same, by rw [setV_len, sizeLine_eq]; show ms.length + 1 ≤ _; omega, fun p H2 s2 hP => ?_⟩
    have hP2 : SqT K H2 p ((intL (ms ++ [x])).map V.int) := by
      rw [← setV_ints, setV_app]
      exact hP
    refine ⟨p, intL (ms ++ [x]), rfl, .inr hP2, by rw [List.length_map, List.length_append]; show ms.length + 1 < 64; omega, fun ns' q0 pm srtd nq0 => ?_⟩
    obtain ⟨ks, rfl, pk⟩ := ints_back pm
    rw [← setV_ints]
    obtain rfl : ks = srt (ms ++ [x]) := srt_of pk (le_back srtd)
    refine ⟨q0, _, rfl, .inl ⟨SqL.of upd_same, fun t nt => ?_⟩⟩
    have s3 := (s1.trans s2).trans (same_new (o := .lst (setV (srt (ms ++ [x])))) nq0)
    exact q _ t (s3.trans (same_new nt)) (s3.free nt) upd_same
end
/-! ### TooShort's __init__ -/
section
variable {P : Program} {w : World} {K : PySem.W.Frag} {mg : Str → Option Value} {base : Heap}
theorem ok_toos (T : Txt K mg) {j : Nat} : FnOk P w K mg base CX0 (j + 1) T.fTooS T.fdTooS ["self", "order"] (spErr K T.cTooS "order") := by
  refine T.FTooS.ok scTooS (fun vs H Q E h => ?_) (fun cdv A outer s H vs Q E hr h => ?_)
  · obtain ⟨a, v, rfl, _⟩ := h
    rfl
  · obtain ⟨a, v, rfl, ha, q⟩ := h
    refine ⟨_, pss_cons (ps_expr (pe_baseInit (by rfl) T.gcBase T.btBase.sp T.btBase.ty T.btBase.rd T.btBase.fc (pa_cons (pv 0) (pa_cons pe_str pa_nil)))) (pss_one (ps_ost (pv 0) (pv 1))), ?_⟩
    refine ⟨.ref a, rfl, a, T.cTooS, _, rfl, (by show 1 ≤ 1000; decide), T.eTooS.ox, ha, ?_⟩
    refine ⟨v, rfl, .ref a, rfl, a, T.cTooS, rfl, T.eTooS.ox, T.eTooS.no, .inl ⟨ha, fun dx nd ne => q dx nd ne⟩⟩
end
/-! ### holders -/
def inL (ls os : List Nat) : List Nat := os.filter fun x => decide (x ∈ ls)
def holdL (ls os : List Nat) (w : Nat) : List Nat := (inL ls os).take w
theorem inL_step {ls os : List Nat} {i x : Nat} (h : os[i]? = some x) : inL ls (os.take (i + 1)) = inL ls (os.take i) ++ if x ∈ ls then [x] else [] := by
  unfold inL
  rw [List.take_add_one, h, List.filter_append]
  congr 1
  show List.filter _ [x] = _
  by_cases c : x ∈ ls
  · rw [List.filter_cons_of_pos (by simpa using c), if_pos c]
    rfl
  · rw [List.filter_cons_of_neg (by simpa using c), if_neg c]
    rfl
theorem hold_step {ls os : List Nat} {w i x : Nat} (h : os[i]? = some x) : holdL ls (os.take (i + 1)) w = if (holdL ls (os.take i) w).length < w ∧ x ∈ ls then holdL ls (os.take i) w ++ [x] else holdL ls (os.take i) w := by
  unfold holdL
  rw [inL_step h, List.take_append, List.length_take]
  by_cases c : x ∈ ls
  · rw [if_pos c]
    by_cases c2 : (inL ls (os.take i)).length < w
    · rw [if_pos ⟨by omega, c⟩, List.take_of_length_le (l := [x]) (by show 1 ≤ _; omega)]
    · rw [if_neg (by omega), show w - (inL ls (os.take i)).length = 0 by omega, List.take_zero, List.append_nil]
  · rw [if_neg c, if_neg (fun z => c z.2), List.take_nil, List.append_nil]
theorem hold_len (ls os : List Nat) (w : Nat) : (holdL ls os w).length = min w (inL ls os).length := by
  unfold holdL
  rw [List.length_take]
theorem inL_mem {ls os : List Nat} {x : Nat} (h : x ∈ inL ls os) : x ∈ os ∧ x ∈ ls := by
  have := List.mem_filter.mp h
  exact ⟨this.1, of_decide_eq_true this.2⟩
theorem hold_mem {ls os : List Nat} {w x : Nat} (h : x ∈ holdL ls os w) : x ∈ os ∧ x ∈ ls := inL_mem (List.mem_of_mem_take h)
theorem hold_full {ls os : List Nat} {w i : Nat} (h : w ≤ (holdL ls (os.take i) w).length) : holdL ls os w = holdL ls (os.take i) w := by
  have e : inL ls os = inL ls (os.take i) ++ inL ls (os.drop i) := by
    unfold inL
    rw [← List.filter_append, List.take_append_drop]
  rw [hold_len] at h
  unfold holdL
  rw [e, List.take_append_of_le_length (by omega)]
/-! ### holders -/
def spHold (K : PySem.W.Frag) (CS : Addr) : Sp := fun vs H Q E => ∃ (a b : Addr) (os ls : List Nat) (f : Nat), vs = [.ref a, .ref b, .int f] ∧ SqT K H a (setV os) ∧ SqT K H b (setV ls) ∧ os.length ≤ 60 ∧ ls.length ≤ 60 ∧
  (min f ls.length ≤ (inL ls os).length → ∀ H' t, Same H H' → H t = none → H' t = some (.tup (setV (holdL ls os (min f ls.length)))) → Q (.ref t) H') ∧
  ((inL ls os).length < min f ls.length → Raised "order" CS (.ref a) H E)
section
variable {P : Program} {w : World} {K : PySem.W.Frag} {mg : Str → Option Value} {base : Heap}
theorem ok_hold (T : Txt K mg) {j : Nat} : FnOk P w K mg base (L2.CX P w) (j + 3) T.fHold T.fdHold ["order", "live", "factor"] (spHold K T.cTooS) := by
  refine T.FHold.okX scHold (fun vs H Q E h => ?_) (fun cdv A outer s H vs Q E hr h => ?_)
  · obtain ⟨a, b, os, ls, f, rfl, _⟩ := h
    rfl
  · obtain ⟨a, b, os, ls, f, rfl, hA, hB, la, lb, q1, q2⟩ := h
    refine ⟨_, pss_cons (ps_set (i := 3) scHold.nd rfl (.inl rfl) (pe_callB (call_min2 rfl) (by rfl) T.n_min (by decide +kernel) (pa_cons (pv 2) (pa_cons (pe_callB (call_lenK K) (by rfl) T.n_len PySem.boot_len (pa_cons (pv 1) pa_nil)) pa_nil)))) (pss_cons (ps_set (i := 4) scHold.nd rfl (.inl rfl) (pe_lst pa_nil)) (C8.pss_cut (ps_for (passes_of rfl) rfl (pi_tup (pv 0)) (pg_name (i := 5) scHold.nd rfl (.inl rfl)) (pss_cons (ps_if (pt_cmpR op_ge (pe_callB (call_lenK K) (by rfl) T.n_len PySem.boot_len (pa_cons (pv 4) pa_nil)) (pv 3) (nomark _)) (pss_one ps_break) pss_nil) (pss_one (ps_if (pt_cmpR (op_inK K) (pv 5) (pv 1) (by rfl)) (pss_one (ps_expr (pe_bm PySem.F.plainAttrs_list PySem.F.slot_list_append PySem.F.type_list_append mt_append (pv 4) (pa_cons (pv 5) pa_nil)))) pss_nil)))) (pss_cons (ps_if (pt_cmpR op_lt (pe_callB (call_lenK K) (by rfl) T.n_len PySem.boot_len (pa_cons (pv 4) pa_nil)) (pv 3) (nomark _)) (pss_one (ps_raise rfl (takes_of rfl rfl rfl rfl) (pmk_oex T.eTooS.ox T.eTooS.iC T.eTooS.tI (ok_toos T) hr T.bTooS .nil pass0 (by rfl) T.gcTooS (pa_cons (pv 0) pa_nil)))) pss_nil) (pss_one (ps_ret (pe_callTy (call_tupleK K) (by rfl) T.n_tuple (by decide +kernel) (pa_cons (pv 4) pa_nil))))))), ?_⟩
    have em : (if ((setV ls).length : Int) < (f : Int) then ((setV ls).length : Int) else (f : Int)) = ((min f ls.length : Nat) : Int) := by
      rw [setV_len]
      by_cases c : ls.length < f
      · rw [if_pos (by omega), Nat.min_eq_right (by omega)]
      · rw [if_neg (by omega), Nat.min_eq_left (by omega)]
    refine ⟨_, rfl, .ref b, rfl, b, _, rfl, .inr hB, _, _, rfl, ?_⟩
    dsimp only [gName]
    rw [em]
    generalize min f ls.length = wn at q1 q2
    refine ⟨Nat.zero_le _, fun pf nf => ?_⟩
    refine ⟨fun σ H2 => ∃ v5, σ = [some (.ref a), some (.ref b), some (.int f), some (.int wn), some (.ref pf), v5] ∧ Same H H2 ∧ H2 pf = some (.lst (setV (holdL ls os wn))), ?_, ?_⟩
    · refine ⟨.ref a, rfl, a, rfl, ⟨_, Same.seqT (same_new nf) hA⟩, for_tup (K := K) (a := a) (xs := setV os) (fun i σ H2 => ∃ v5, σ = [some (.ref a), some (.ref b), some (.int f), some (.int wn), some (.ref pf), v5] ∧ Same H H2 ∧ H2 pf = some (.lst (setV (holdL ls (os.take i) wn)))) ⟨none, rfl, same_new nf, ?_⟩ (fun i σ H2 _ ⟨_, _, s2, _⟩ => Same.seqT s2 hA) ?_ ?_⟩
      · rw [upd_same]
        unfold holdL inL
        simp [setV]
      · rintro i x σ H2 hz ⟨v5, rfl, s2, hF⟩
        obtain ⟨m, hm, rfl⟩ := setV_get hz
        have hl2 := hold_len ls (os.take i) wn
        have hl3 : (inL ls (os.take i)).length ≤ 60 := by
          have := List.length_filter_le (fun x => decide (x ∈ ls)) (os.take i)
          have h2 : (os.take i).length ≤ 60 := by
            rw [List.length_take]
            omega
          exact Nat.le_trans this h2
        have st := hold_step (ls := ls) (w := wn) hm
        refine ⟨.ref pf, rfl, pf, _, rfl, .inl (SqL.of hF), _, rfl, _, _, rfl, rfl, _, rfl, ite2 (fun h1 => ?_) (fun h1 => ?_)⟩
        · have h2 : wn ≤ (holdL ls (os.take i) wn).length := by
            have h3 : (wn : Int) ≤ ((setV (holdL ls (os.take i) wn)).length : Int) := of_decide_eq_true h1
            rw [setV_len] at h3
            omega
          exact ⟨_, rfl, s2, by rw [hold_full h2]; exact hF⟩
        · have h2 : (holdL ls (os.take i) wn).length < wn := by
            have h3 : ¬ (wn : Int) ≤ ((setV (holdL ls (os.take i) wn)).length : Int) := fun z => h1 (decide_eq_true z)
            rw [setV_len] at h3
            omega
          refine ⟨_, rfl, .ref b, rfl, b, _, rfl, .inr (Same.seqT s2 hB), rfl, setV_flat _, _, rfl, ?_⟩
          rw [inV_setV]
          refine ite2 (fun h3 => ?_) (fun h3 => ?_)
          · have h4 : m ∈ ls := of_decide_eq_true (by simpa using h3)
            rw [if_pos ⟨h2, h4⟩] at st
            refine ⟨.ref pf, rfl, .inl ⟨rfl, _, SqL.of hF⟩, _, rfl, pf, _, _, rfl, rfl, hF, ?_, _, rfl, keep_upd s2 nf, ?_⟩
            · rw [setV_len]
              exact small1000 (by omega)
            · rw [upd_same, st, setV_app]
              rfl
          · have h4 : ¬ m ∈ ls := fun z => h3 (by simpa using z)
            rw [if_neg (fun z => h4 z.2)] at st
            exact ⟨_, rfl, s2, by rw [st]; exact hF⟩
      · rintro σ H2 ⟨v5, rfl, s2, hF⟩
        rw [setV_len, List.take_length] at hF
        exact ⟨_, rfl, s2, hF⟩
    · rintro σ H2 ⟨v5, rfl, s2, hF⟩
      have hl2 := hold_len ls os wn
      refine ⟨.ref pf, rfl, pf, _, rfl, .inl (SqL.of hF), _, rfl, _, _, rfl, rfl, _, rfl, ite2 (fun h1 => ?_) (fun h1 => ?_)⟩
      · have h2 : (holdL ls os wn).length < wn := by
          have h3 : ((setV (holdL ls os wn)).length : Int) < (wn : Int) := of_decide_eq_true h1
          rw [setV_len] at h3
          omega
        refine ⟨.ref a, rfl, (by show 1 ≤ 1000; decide), fun e ne => ⟨e, .ref a, rfl, upd_same, fun dx nd nx => ?_⟩⟩
        obtain ⟨e1, e2, e3, e4, e5⟩ := err_end (f := "order") (v := .ref a) ne nd nx
        exact ⟨rfl, dx, _, e1, e2, e3, q2 (by omega) _ dx (s2.trans e4) e5 (s2.free e3)⟩
      · have h2 : ¬ (holdL ls os wn).length < wn := fun z => h1 (decide_eq_true (by rw [setV_len]; omega))
        refine ⟨.ref pf, rfl, pf, _, rfl, .inl ⟨SqL.of hF, fun t nt => ?_⟩⟩
        exact q1 (by omega) _ t (s2.trans (same_new nt)) (s2.free nt) upd_same
end
/-! ### successor -/
def sucV (ls os : List Nat) (f x : Nat) : V := if x ∈ holdL ls os f then .int (((inL ls os).getD f 0 : Nat) : Int) else .non
theorem inL_le {ls os : List Nat} (h : os.Nodup) : (inL ls os).length ≤ ls.length := subG_len (h.filter _) fun y hy => (inL_mem hy).2
def spSucc (K : PySem.W.Frag) (CS : Addr) : Sp := fun vs H Q E => ∃ (a b : Addr) (os ls : List Nat) (f x : Nat), vs = [.ref a, .ref b, .int f, .int x] ∧ SqT K H a (setV os) ∧ SqT K H b (setV ls) ∧ os.length ≤ 60 ∧ ls.length ≤ 60 ∧ os.Nodup ∧
  (f + 1 ≤ (inL ls os).length → ∀ H', Same H H' → Q (sucV ls os f x) H') ∧
  ((inL ls os).length ≤ f → Raised "order" CS (.ref a) H E)
section
variable {P : Program} {w : World} {K : PySem.W.Frag} {mg : Str → Option Value} {base : Heap}
theorem ok_succ (T : Txt K mg) {j : Nat} : FnOk P w K mg base (L2.CX P w) (j + 4) T.fSucc T.fdSucc ["order", "live", "factor", "failed"] (spSucc K T.cTooS) := by
  refine T.FSucc.okX scSucc (fun vs H Q E h => ?_) (fun cdv A outer s H vs Q E hr h => ?_)
  · obtain ⟨a, b, os, ls, f, x, rfl, _⟩ := h
    rfl
  · obtain ⟨a, b, os, ls, f, x, rfl, hA, hB, la, lb, nd, q1, q2⟩ := h
    refine ⟨_, pss_cons (ps_set (i := 4) scSucc.nd rfl (.inl rfl) (pe_call (ok_hold T) hr (by rfl) T.gHold T.FHold.kp T.bHold .nil (passes_call (takes_of rfl rfl rfl rfl) (fun _ _ _ _ h => h)) (pa_cons (pv 0) (pa_cons (pv 1) (pa_cons (pe_op op_add (pv 2) pe_int) pa_nil))))) (pss_cons (ps_if (pt_cmpR op_le (pe_callB (call_lenK K) (by rfl) T.n_len PySem.boot_len (pa_cons (pv 4) pa_nil)) (pv 2) (nomark _)) (pss_one (ps_raise rfl (takes_of rfl rfl rfl rfl) (pmk_oex T.eTooS.ox T.eTooS.iC T.eTooS.tI (ok_toos T) hr T.bTooS .nil pass0 (by rfl) T.gcTooS (pa_cons (pv 0) pa_nil)))) pss_nil) (pss_cons (ps_if (pt_cmpR (op_inK K) (pv 3) (pe_slice (sl_tupS K) (pv 4) po_none (po_some (pv 2))) (by rfl)) (pss_one (ps_ret (pe_ix (ix_tupK K) (pv 4) (pv 2) (fun _ _ => rfl)))) pss_nil) (pss_one (ps_ret pe_non)))), ?_⟩
    have il := inL_le (ls := ls) nd
    refine ⟨.ref a, rfl, .ref b, rfl, _, rfl, _, _, rfl, rfl, a, b, os, ls, f + 1, by dsimp only; rw [show (f : Int) + 1 = ((f + 1 : Nat) : Int) by omega]; rfl, hA, hB, la, lb, fun hle H2 t s2 nt ht => ?_, fun hlt => ?_⟩
    · have hl : (holdL ls os (min (f + 1) ls.length)).length = min (f + 1) ls.length := by
        rw [hold_len]
        omega
      refine ⟨.ref t, rfl, t, _, rfl, .inr (SqT.of ht), _, rfl, _, _, rfl, rfl, _, rfl, ?_⟩
      rw [setV_len, hl]
      refine ite2 (fun hb => ?_) (fun hb => ?_)
      · have hf : ((min (f + 1) ls.length : Nat) : Int) ≤ (f : Int) := of_decide_eq_true hb
        refine ⟨.ref a, rfl, (by show 1 ≤ 1000; decide), fun e ne => ⟨e, .ref a, rfl, upd_same, fun dx nd nx => ?_⟩⟩
        obtain ⟨e1, e2, e3, e4, e5⟩ := err_end (f := "order") (v := .ref a) ne nd nx
        exact ⟨rfl, dx, _, e1, e2, e3, q2 (by omega) _ dx (s2.trans e4) e5 (s2.free e3)⟩
      · have hf : ¬ ((min (f + 1) ls.length : Nat) : Int) ≤ (f : Int) := fun z => hb (decide_eq_true z)
        have em : min (f + 1) ls.length = f + 1 := by omega
        rw [em] at hle ht hl
        have e2 : (holdL ls os (f + 1)).take f = holdL ls os f := by
          unfold holdL
          rw [List.take_take, Nat.min_eq_left (by omega)]
        refine ⟨_, rfl, .ref t, rfl, _, rfl, _, rfl, t, _, rfl, SqT.of ht, fun p3 H3 s3 h3 => ?_⟩
        rw [cut_take, e2] at h3
        refine ⟨p3, _, rfl, .inr h3, rfl, setV_flat _, _, rfl, ?_⟩
        rw [inV_setV, if_neg (by decide)]
        have fin := q1 hle H3 (s2.trans s3)
        unfold sucV at fin
        refine ite2 (fun hb2 => ?_) (fun hb2 => ?_)
        · rw [if_pos (of_decide_eq_true hb2)] at fin
          refine ⟨.ref t, rfl, _, rfl, t, _, _, _, rfl, rfl, SqT.of (s3 _ _ ht), atI_nat ?_, fin⟩
          have e3 : (holdL ls os (f + 1))[f]? = some ((inL ls os).getD f 0) := by
            unfold holdL
            rw [List.getElem?_take, if_pos (by omega)]
            exact getD_of (by omega)
          unfold setV
          rw [List.getElem?_map, e3]
          rfl
        · rw [if_neg (fun z => hb2 (decide_eq_true z))] at fin
          exact fin
    · exact q2 (by omega)
end
/-! ### NoCluster's __init__ -/
section
variable {P : Program} {w : World} {K : PySem.W.Frag} {mg : Str → Option Value} {base : Heap}
theorem ok_noc (T : Txt K mg) {j : Nat} : FnOk P w K mg base CX0 (j + 1) T.fNoC T.fdNoC ["self", "field"] (spErr K T.cNoC "field") := by
  refine T.FNoC.ok scNoC (fun vs H Q E h => ?_) (fun cdv A outer s H vs Q E hr h => ?_)
  · obtain ⟨a, v, rfl, _⟩ := h
    rfl
  · obtain ⟨a, v, rfl, ha, q⟩ := h
    refine ⟨_, pss_cons (ps_expr (pe_baseInit (by rfl) T.gcBase T.btBase.sp T.btBase.ty T.btBase.rd T.btBase.fc (pa_cons (pv 0) (pa_cons pe_str pa_nil)))) (pss_one (ps_ost (pv 0) (pv 1))), ?_⟩
    refine ⟨.ref a, rfl, a, T.cNoC, _, rfl, (by show 1 ≤ 1000; decide), T.eNoC.ox, ha, ?_⟩
    refine ⟨v, rfl, .ref a, rfl, a, T.cNoC, rfl, T.eNoC.ox, T.eNoC.no, .inl ⟨ha, fun dx nd ne => q dx nd ne⟩⟩
end
/-! ### check_field -/
def fieldB (lo hi : Int) : Option Int → Bool
  | some c => decide (lo ≤ c) && decide (c ≤ hi)
  | none => false
def spChkF (K : PySem.W.Frag) (CN : Addr) : Sp := fun vs H Q E => ∃ (fs : Str) (v : V) (o : Option Int) (lo hi : Int), vs = [.str fs, v, .int lo, .int hi] ∧ CountV K H v o ∧
  (fieldB lo hi o = true → Q .non H) ∧ (fieldB lo hi o = false → Raised "field" CN (.str fs) H E)
section
variable {P : Program} {w : World} {K : PySem.W.Frag} {mg : Str → Option Value} {base : Heap}
theorem ok_chkf (T : Txt K mg) {j : Nat} : FnOk P w K mg base (L2.CX P w) (j + 3) T.fChkF T.fdChkF ["field", "value", "least", "most"] (spChkF K T.cNoC) := by
  refine T.FChkF.okX scChkF (fun vs H Q E h => ?_) (fun cdv A outer s H vs Q E hr h => ?_)
  · obtain ⟨fs, v, o, lo, hi, rfl, _⟩ := h
    rfl
  · obtain ⟨fs, v, o, lo, hi, rfl, hv, q1, q2⟩ := h
    refine ⟨_, pss_one (ps_if (PW.pt (pw_or (pt_not (pt_val (pe_call (ok_plain T) hr (by rfl) T.gPlain T.FPlain.kp T.bPlain .nil pass0 (pa_cons (pv 1) pa_nil)))) (pw_or (pt_cmpR op_lt (pv 1) (pv 2) (nomark _)) (pw_or1 (pt_cmpR op_gt (pv 1) (pv 3) (nomark _)))))) (pss_one (ps_raise rfl (takes_of rfl rfl rfl rfl) (pmk_oex T.eNoC.ox T.eNoC.iC T.eNoC.tI (ok_noc T) hr T.bNoC .nil pass0 (by rfl) T.gcNoC (pa_cons (pv 0) pa_nil)))) pss_nil), ?_⟩
    have raise : fieldB lo hi o = false → (tMkO T.cNoC (spErr K T.cNoC "field") [] (tCons (tVar 0) tNil)) [some (.str fs), some v, some (.int lo), some (.int hi)] H (fun cls d H' => E cls d H') := fun ho => by
      refine ⟨.str fs, rfl, (by show 1 ≤ 1000; decide), fun a na => ⟨a, .str fs, rfl, upd_same, fun dx nd ne => ?_⟩⟩
      obtain ⟨e1, e2, e3, e4, e5⟩ := err_end (f := "field") (v := .str fs) na nd ne
      exact ⟨rfl, dx, _, e1, e2, e3, q2 ho _ dx e4 e5 e3⟩
    obtain ⟨t, ht, e, ty⟩ := hv.ty
    refine ⟨v, rfl, v, t, rfl, ty, ht, _, rfl, ?_⟩
    rw [e]
    rcases hv with ⟨c, rfl, rfl⟩ | ⟨rfl, _⟩
    · refine iteF ?_
      refine ⟨_, rfl, _, rfl, _, _, rfl, rfl, _, rfl, ite2 (fun h1 => ?_) (fun h1 => ?_)⟩
      · have h2 : c < lo := of_decide_eq_true h1
        refine raise ?_
        show (decide (lo ≤ c) && decide (c ≤ hi)) = false
        rw [decide_eq_false (show ¬ lo ≤ c by omega)]
        rfl
      · have h2 : ¬ c < lo := fun z => h1 (decide_eq_true z)
        refine ⟨_, rfl, _, rfl, _, _, rfl, rfl, _, rfl, ite2 (fun h3 => ?_) (fun h3 => ?_)⟩
        · have h4 : hi < c := of_decide_eq_true h3
          refine raise ?_
          show (decide (lo ≤ c) && decide (c ≤ hi)) = false
          rw [decide_eq_false (show ¬ c ≤ hi by omega), Bool.and_false]
        · have h4 : ¬ hi < c := fun z => h3 (decide_eq_true z)
          refine q1 ?_
          show (decide (lo ≤ c) && decide (c ≤ hi)) = true
          rw [decide_eq_true (show lo ≤ c by omega), decide_eq_true (show c ≤ hi by omega)]
          rfl
    · refine iteT ?_
      exact raise rfl
end
/-! ### is_number_word -/
def spNumW : Sp := fun vs H Q _ => ∃ x : Str, vs = [.str x] ∧ x.length ≤ sizeLine ∧ Q (.bl (numW x)) H
section
variable {P : Program} {w : World} {K : PySem.W.Frag} {mg : Str → Option Value} {base : Heap}
theorem ok_numw (T : Txt K mg) {j : Nat} : FnOk P w K mg base CX0 (j + 1) T.fNumW T.fdNumW ["word"] spNumW := by
  refine T.FNumW.ok scNumW (fun vs H Q E h => ?_) (fun cdv A outer s H vs Q E hr h => ?_)
  · obtain ⟨x, rfl, _⟩ := h
    rfl
  · obtain ⟨x, rfl, hx, q⟩ := h
    refine ⟨_, pss_cons (ps_if (PW.pt (pw_or (pt_cmpR op_gt (pe_callB call_len_str (by rfl) T.n_len PySem.boot_len (pa_cons (pv 0) pa_nil)) (pe_glob (v := .int 40) (by rfl) T.gMOST_DIGITS ⟨_, rfl⟩) (nomark _)) (pw_or (pt_not (pt_val (pe_m0 PySem.F.slot_str_isascii PySem.F.type_str_isascii mt_isascii (pv 0)))) (pw_or1 (pt_not (pt_val (pe_m0 PySem.F.slot_str_isdigit PySem.F.type_str_isdigit mt_isdigit (pv 0)))))))) (pss_one (ps_ret pe_bl)) pss_nil) (pss_one (ps_ret (pe_or (pe_cmpR op_eq (pv 0) pe_str (nomark _)) (pe_one (pe_cmpR op_ne (pe_ix ix_str (pv 0) pe_int (fun _ _ => rfl)) pe_str (nomark _)))))), ?_⟩
    have nf : ∀ {b : Bool}, numW x = b → Q (.bl b) H := fun e => by rw [← e]; exact q
    refine ⟨_, rfl, x, rfl, hx, _, _, rfl, rfl, _, rfl, ?_⟩
    refine ite2 (fun hb => ?_) (fun hb => ?_)
    · refine nf ?_
      have h1 : ¬ x.length ≤ 40 := by
        have := of_decide_eq_true hb
        omega
      unfold numW
      rw [decide_eq_false h1]
      rfl
    have h1 : x.length ≤ 40 := Nat.le_of_not_lt fun z => hb (decide_eq_true (by omega))
    refine ⟨_, rfl, ⟨x, rfl⟩, x, rfl, rfl, trivial, _, rfl, ?_⟩
    cases ha : Txt.isascii x with
    | false =>
      refine iteT (nf ?_)
      unfold numW
      rw [ha, Bool.and_false]
      rfl
    | true =>
      refine iteF ⟨_, rfl, ⟨x, rfl⟩, x, rfl, rfl, trivial, _, rfl, ?_⟩
      cases hd : Txt.isdigit x with
      | false =>
        refine iteT (nf ?_)
        unfold numW
        rw [hd, Bool.and_false]
        rfl
      | true =>
        refine iteF ?_
        refine ⟨_, rfl, rfl, _, rfl, ?_⟩
        have base : numW x = (decide (x = zeroS) || !decide (headS x = zeroS)) := by
          unfold numW
          rw [decide_eq_true h1, ha, hd]
          rfl
        refine ite2 (fun hz => ?_) (fun hz => ?_)
        · have e : x = zeroS := by
            have := of_decide_eq_true hz
            injection this
          refine nf ?_
          rw [base, decide_eq_true e]
          rfl
        · have e : ¬ x = zeroS := fun z => hz (decide_eq_true (congrArg V.str z))
          obtain ⟨c, r, hcr⟩ : ∃ c r, x.cps.toList = c :: r := by
            unfold Txt.isdigit at hd
            rw [Bool.and_eq_true] at hd
            have h3 := of_decide_eq_true hd.1
            have h4 : x.length = x.cps.toList.length := rfl
            cases q : x.cps.toList with
            | nil => rw [h4, q] at h3; exact absurd h3 (by decide)
            | cons c r => exact ⟨c, r, rfl⟩
          refine ⟨_, rfl, x, 0, c, rfl, rfl, hx, atI_nat (j := 0) (by rw [hcr]; rfl), rfl, nf ?_⟩
          have hh : headS x = ⟨#[c]⟩ := by
            unfold headS
            split
            · rename_i d r' hr'
              rw [hcr] at hr'
              injection hr' with h5
              rw [h5]
            · rename_i hr'
              rw [hcr] at hr'
              cases hr'
          rw [base, decide_eq_false e, hh, Bool.false_or]
          congr 1
          exact decide_eq_decide.mpr ⟨fun z => by rw [z]; rfl, fun z => by injection z⟩
end
/-! ### read_numbers -/
def spReadN (K : PySem.W.Frag) : Sp := fun vs H Q _ => ∃ (a : Addr) (ws : List Str), vs = [.ref a] ∧ SqL K H a (ws.map V.str) ∧ ws.length ≤ sizeLine ∧ (∀ x ∈ ws, x.length ≤ sizeLine) ∧
  (ws.all numW = true → ∀ H' t, Same H H' → H t = none → H' t = some (.tup (setV (ws.map valW))) → Q (.ref t) H') ∧ (ws.all numW = false → Q .non H)
theorem strs_get {ws : List Str} {i : Nat} {v : V} (h : (ws.map V.str)[i]? = some v) : ∃ x, ws[i]? = some x ∧ v = .str x := by
  rw [List.getElem?_map] at h
  obtain ⟨x, hx, e⟩ := Option.map_eq_some_iff.mp h
  exact ⟨x, hx, e.symm⟩
theorem take_snocT {α : Type} {l : List α} {i : Nat} {a : α} (h : l[i]? = some a) : l.take (i + 1) = l.take i ++ [a] := by
  rw [List.take_add_one, h]
  rfl
section
variable {P : Program} {w : World} {K : PySem.W.Frag} {mg : Str → Option Value} {base : Heap}
theorem ok_readn (T : Txt K mg) {j : Nat} : FnOk P w K mg base CX0 (j + 2) T.fReadN T.fdReadN ["words"] (spReadN K) := by
  refine T.FReadN.ok scReadN (fun vs H Q E h => ?_) (fun cdv A outer s H vs Q E hr h => ?_)
  · obtain ⟨a, ws, rfl, _⟩ := h
    rfl
  · obtain ⟨a, ws, rfl, hA, hl, hx, q1, q2⟩ := h
    refine ⟨_, pss_cons (ps_for PassesOwn.never rfl (pi_list (pv 0)) (pg_name (i := 1) scReadN.nd rfl (.inl rfl)) (pss_one (ps_if (pt_not (pt_val (pe_call (ok_numw T) hr (by rfl) T.gNumW T.FNumW.kp T.bNumW .nil pass0 (pa_cons (pv 1) pa_nil)))) (pss_one (ps_ret pe_non)) pss_nil))) (pss_one (ps_ret (pe_callTy (call_tupleK K) (by rfl) T.n_tuple (by decide +kernel) (pa_cons (pe_lc (own := [("word", 1)]) (g := (gName 1)) (tt := tYes) rfl scReadN.nd (pi_list (pv 0)) (blkOk_by (own := [("word", 1)]) (N := NReadN) (sc := defScope sReadN) (by decide +kernel)) (fun _ _ _ _ _ => (pg_name (i := 1) scReadN.nd rfl (.inl rfl))) (fun _ _ _ _ _ => pts_nil) (fun _ _ _ _ _ => (pe_callTy call_int_str (by rfl) T.n_int (by decide +kernel) (pa_cons (pv 1) pa_nil)))) pa_nil)))), ?_⟩
    refine ⟨.ref a, rfl, a, rfl, ⟨_, hA⟩, for_list (K := K) (a := a) (xs := ws.map V.str) (fun i σ H2 => ∃ v1, σ = [some (.ref a), v1] ∧ H2 = H ∧ (ws.take i).all numW = true) ⟨none, rfl, rfl, rfl⟩ (fun _ σ H2 _ ⟨_, _, h, _⟩ => h ▸ hA) ?_ ?_⟩
    · rintro i v σ H2 hz ⟨v1, rfl, rfl, hi⟩
      obtain ⟨x, hx2, rfl⟩ := strs_get hz
      refine ⟨_, rfl, x, rfl, hx x (List.mem_of_getElem? hx2), _, rfl, ?_⟩
      cases hn : numW x with
      | false =>
        refine iteT (q2 ?_)
        rw [List.all_eq_false]
        exact ⟨x, List.mem_of_getElem? hx2, by rw [hn]; decide⟩
      | true =>
        refine iteF ⟨_, rfl, rfl, ?_⟩
        rw [take_snocT hx2, List.all_append, hi]
        simp [hn]
    · rintro σ H2 ⟨v1, rfl, rfl, hi⟩
      rw [List.length_map, List.take_length] at hi
      refine ⟨.ref a, rfl, a, rfl, ⟨_, hA⟩, fun D nD => ?_⟩
      refine lc_list (K := K) (a := a) (xs := ws.map V.str) (fun z H3 => Same H2 H3 ∧ H3 D = some (.lst (setV ((ws.take z).map valW)))) ⟨same_new nD, upd_same⟩ (fun _ H3 _ h => h.1.seq hA) ?_ ?_
      · rintro z v H3 hz ⟨s3, hD⟩
        obtain ⟨x, hx2, rfl⟩ := strs_get hz
        have hn : numW x = true := List.all_eq_true.mp hi x (List.mem_of_getElem? hx2)
        obtain ⟨_, _, h40⟩ := numW_digits hn
        have zl := (List.getElem?_eq_some_iff.mp hx2).1
        refine ⟨rfl, _, rfl, x, _, rfl, numW_int hn, by omega, _, hD, by rw [setV_len, List.length_map, List.length_take]; omega, keep_upd s3 nD, ?_⟩
        rw [upd_same, take_snocT hx2, List.map_append, setV_app]
        rfl
      rintro H3 ⟨s3, hD⟩
      rw [List.length_map, List.take_length] at hD
      refine ⟨D, _, rfl, .inl ⟨SqL.of hD, fun t nt => ?_⟩⟩
      exact q1 hi _ t (s3.trans (same_new nt)) (s3.free nt) upd_same
end
/-! ### show_row -/
def spShowR (K : PySem.W.Frag) : Sp := fun vs H Q _ => ∃ (a : Addr) (xs : List V) (ws : List Str), vs = [.ref a] ∧ SqT K H a xs ∧ PySem.Paired WordV xs ws ∧ ws.length ≤ 1000 ∧ (∀ w ∈ ws, w.length ≤ 1000) ∧
  ∀ H', Same H H' → Q (.str (Txt.join blankS ws)) H'
theorem words_get {xs : List V} {ws : List Str} (h : PySem.Paired WordV xs ws) : ∀ {i : Nat} {v : V}, xs[i]? = some v → ∃ w, ws[i]? = some w ∧ WordV v w := by
  induction h with
  | nil => intro i v z; cases z
  | cons a _ ih =>
    intro i v z
    cases i with
    | zero =>
      obtain rfl := Option.some.inj z
      exact ⟨_, rfl, a⟩
    | succ i => exact ih z
section
variable {P : Program} {w : World} {K : PySem.W.Frag} {mg : Str → Option Value} {base : Heap}
theorem ok_showr (T : Txt K mg) {j : Nat} : FnOk P w K mg base CX0 (j + 1) T.fShowR T.fdShowR ["things"] (spShowR K) := by
  refine T.FShowR.ok scShowR (fun vs H Q E h => ?_) (fun cdv A outer s H vs Q E hr h => ?_)
  · obtain ⟨a, xs, ws, rfl, _⟩ := h
    rfl
  · obtain ⟨a, xs, ws, rfl, hA, hw, hl, hb, q⟩ := h
    refine ⟨_, pss_one (ps_ret (pe_join pe_str (pe_lc (own := [("thing", 1)]) (g := (gName 1)) (tt := tYes) rfl scShowR.nd (pi_tup (pv 0)) (blkOk_by (own := [("thing", 1)]) (N := NShowR) (sc := defScope sShowR) (by decide +kernel)) (fun _ _ _ _ _ => (pg_name (i := 1) scShowR.nd rfl (.inl rfl))) (fun _ _ _ _ _ => pts_nil) (fun _ _ _ _ _ => (pe_callTy call_strE (by rfl) T.n_str (by decide +kernel) (pa_cons (pv 1) pa_nil)))))), ?_⟩
    refine ⟨⟨blankS, rfl⟩, .ref a, rfl, a, rfl, ⟨_, hA⟩, fun D nD => ?_⟩
    refine lc_tup (a := a) (xs := xs) (fun z H2 => Same H H2 ∧ H2 D = some (.lst ((ws.take z).map V.str))) ⟨same_new nD, upd_same⟩ (fun _ H2 _ h => Same.seqT h.1 hA) ?_ ?_
    · rintro z v H2 hz ⟨s2, hD⟩
      obtain ⟨x, hx, hv⟩ := words_get hw hz
      refine ⟨rfl, v, rfl, ?_⟩
      dsimp only [tNil]
      refine hv.str ⟨_, hD, by rw [List.length_map, List.length_take, sizeLine_eq]; omega, keep_upd s2 nD, ?_⟩
      rw [upd_same, take_snocT hx, List.map_append]
      rfl
    rintro H2 ⟨s2, hD⟩
    rw [PySem.Paired.length hw, List.take_length] at hD
    refine ⟨blankS, D, ws, rfl, rfl, .inl (SqL.of hD), ?_, q _ s2⟩
    have h1 := sum_le (f := fun x : Str => x.length) hb
    show _ + ws.length * 1 ≤ _
    omega
end
/-! ### a cluster in the heap -/
def fldC (n fl fa c : Nat) (tl pl : Addr) : List (Str × V) := [("n", .int n), ("failures", .int fl), ("factor", .int fa), ("count", .int c), ("living", .ref tl), ("past", .ref pl)]
section
variable {n fl fa c : Nat} {tl pl : Addr}
theorem fldC_n : (fldC n fl fa c tl pl).lookup ("n" : Str) = some (.int n) := by rfl
theorem fldC_failures : (fldC n fl fa c tl pl).lookup ("failures" : Str) = some (.int fl) := by rfl
theorem fldC_factor : (fldC n fl fa c tl pl).lookup ("factor" : Str) = some (.int fa) := by rfl
theorem fldC_count : (fldC n fl fa c tl pl).lookup ("count" : Str) = some (.int c) := by rfl
theorem fldC_living : (fldC n fl fa c tl pl).lookup ("living" : Str) = some (.ref tl) := by rfl
theorem fldC_past : (fldC n fl fa c tl pl).lookup ("past" : Str) = some (.ref pl) := by rfl
theorem fldC_no {m : Str} (h : (["n", "failures", "factor", "count", "living", "past"] : List Str).all (fun x => !(m == x)) = true) : (fldC n fl fa c tl pl).lookup m = none := by
  simp only [List.all_cons, List.all_nil, Bool.and_true, Bool.and_eq_true, Bool.not_eq_true'] at h
  obtain ⟨h1, h2, h3, h4, h5, h6⟩ := h
  simp only [fldC, List.lookup, h1, h2, h3, h4, h5, h6]
theorem fldC_turn {t : Addr} : putF "living" (.ref t) (fldC n fl fa c tl pl) = fldC n fl fa c t pl := by rfl
theorem fldC_init : putF "past" (.ref pl) (putF "living" (.ref tl) (putF "count" (.int c) (putF "factor" (.int fa) (putF "failures" (.int fl) (putF "n" (.int n) []))))) = fldC n fl fa c tl pl := by rfl
end
/-- what a cluster keeps to -/
structure CluOk (n fl fa c : Nat) (L : List Nat) : Prop where
  n2 : 2 ≤ n
  f1 : 1 ≤ fl
  fn : fl < n
  a1 : 1 ≤ fa
  an : fa ≤ n
  std : Std n (min n (fl + fa)) c
  big : c < 2 ^ 500
  asc : Asc L
  lt : ∀ x ∈ L, x < n
  few : n ≤ L.length + fl
def PstL (H : Hp) (us : List V) (qs : List (Nat × Nat)) : Prop := PySem.Paired (fun v (q : Nat × Nat) => ∃ u, v = V.ref u ∧ H u = some (.tup [V.int (q.1 : Nat), V.int (q.2 : Nat)])) us qs
theorem PstL.same {H H' : Hp} {us : List V} {qs : List (Nat × Nat)} (s : ∀ u xs, H u = some (.tup xs) → H' u = some (.tup xs)) (h : PstL H us qs) : PstL H' us qs := PySem.Paired.mono (fun v q ⟨u, e, z⟩ => ⟨u, e, s _ _ z⟩) h
theorem PstL.app {H : Hp} {us ws : List V} {qs rs : List (Nat × Nat)} (h : PstL H us qs) (k : PstL H ws rs) : PstL H (us ++ ws) (qs ++ rs) := by
  unfold PstL at *
  induction h with
  | nil => exact k
  | cons a _ ih => exact .cons a ih
theorem PstL.len {H : Hp} {us : List V} {qs : List (Nat × Nat)} (h : PstL H us qs) : us.length = qs.length := PySem.Paired.length h
theorem PstL.last {H : Hp} : ∀ {us : List V} {qs : List (Nat × Nat)}, PstL H us qs → qs ≠ [] → ∃ (ws : List V) (u : Addr) (q : Nat × Nat), us = ws ++ [V.ref u] ∧ H u = some (.tup [V.int (q.1 : Nat), V.int (q.2 : Nat)]) ∧ qs.getLast? = some q
  | _, _, .nil, ne => absurd rfl ne
  | _, [q], .cons ⟨u, rfl, hu⟩ .nil, _ => ⟨[], u, q, rfl, hu, rfl⟩
  | _, q :: q2 :: qs, .cons a (.cons b r), _ => by
    obtain ⟨ws, u, z, e, hu, hl⟩ := PstL.last (PySem.Paired.cons b r) (by simp)
    exact ⟨_ :: ws, u, z, by rw [e]; rfl, hu, by rw [List.getLast?_cons_cons]; exact hl⟩
/-- the cluster at p, its changes at pl -/
structure CluB (C : Addr) (H : Hp) (p pl : Addr) (n fl fa c : Nat) (L : List Nat) (qs : List (Nat × Nat)) : Prop where
  ob : ∃ dx tl, H p = some (.ins C dx (fldC n fl fa c tl pl)) ∧ H tl = some (.tup (setV L))
  past : ∃ us, H pl = some (.lst us) ∧ PstL H us qs
section
variable {C : Addr} {H H' : Hp} {p pl : Addr} {n fl fa c : Nat} {L : List Nat} {qs : List (Nat × Nat)}
theorem CluB.same (h : CluB C H p pl n fl fa c L qs) (s : Same H H') : CluB C H' p pl n fl fa c L qs := by
  obtain ⟨⟨dx, tl, h1, h2⟩, us, h3, h4⟩ := h
  exact ⟨⟨dx, tl, s _ _ h1, s _ _ h2⟩, us, s _ _ h3, h4.same fun u xs e => s _ _ e⟩
theorem CluB.but {q : Addr} {xs : List V} (h : CluB C H p pl n fl fa c L qs) (hq : H q = some (.lst xs)) (ne : pl ≠ q) (s : But q H H') : CluB C H' p pl n fl fa c L qs := by
  obtain ⟨⟨dx, tl, h1, h2⟩, us, h3, h4⟩ := h
  have k : ∀ {b : Addr} {o : HO}, H b = some o → (∀ ys, o ≠ .lst ys) → H' b = some o := fun {b o} e n => s _ _ (fun z => by rw [z, hq] at e; exact n _ (Option.some.inj e).symm) e
  exact ⟨⟨dx, tl, k h1 (fun _ z => by cases z), k h2 (fun _ z => by cases z)⟩, us, s _ _ ne h3, h4.same fun u xs e => k e (fun _ z => by cases z)⟩
theorem CluB.nep {q : Addr} (h : CluB C H p pl n fl fa c L qs) (nq : H q = none) : q ≠ p ∧ q ≠ pl := by
  obtain ⟨⟨dx, tl, h1, h2⟩, us, h3, h4⟩ := h
  exact ⟨(ne_of_none h1 nq).symm, (ne_of_none h3 nq).symm⟩
theorem std_less {n d e c : Nat} (h : Std n d c) (he : e ≤ d) (ld : leastL n e ∣ leastL n d) : Std n e c := ⟨h.n60, h.n1, Nat.le_trans he h.dn, h.c0, Nat.dvd_trans ld h.dv⟩
theorem in_enough {n : Nat} {os L : List Nat} (nd : os.Nodup) (lo : ∀ x ∈ os, x < n) (asc : Asc L) (lL : ∀ x ∈ L, x < n) : os.length + L.length ≤ (inL L os).length + n := by
  have h1 : (os.filter (fun x => decide (x ∈ L))).length + (os.filter (fun x => !decide (x ∈ L))).length = os.length := by
    rw [← List.countP_eq_length_filter, ← List.countP_eq_length_filter]
    have := List.length_eq_countP_add_countP (fun x => decide (x ∈ L)) (l := os)
    simp only [Bool.not_eq_true, Bool.decide_eq_false] at this
    omega
  have nd2 : (os.filter (fun x => !decide (x ∈ L)) ++ L).Nodup := by
    refine List.nodup_append.mpr ⟨nd.filter _, asc_nodup asc, fun a ha b hb e => ?_⟩
    have := (List.mem_filter.mp ha).2
    rw [e] at this
    simp [hb] at this
  have h2 := subG_len (ns := List.range' 0 n) nd2 fun k hk => by
    rcases List.mem_append.mp hk with h | h
    · exact mem_range0.mpr (lo k (List.mem_filter.mp h).1)
    · exact mem_range0.mpr (lL k h)
  rw [List.length_append, List.length_range'] at h2
  have h3 : (inL L os).length = (os.filter (fun x => decide (x ∈ L))).length := rfl
  omega
end
theorem asc_lenC {L : List Nat} {n : Nat} (a : Asc L) (h : ∀ x ∈ L, x < n) : L.length ≤ n := by
  have h2 := subG_len (ns := List.range' 0 n) (asc_nodup a) fun k hk => mem_range0.mpr (h k hk)
  rw [List.length_range'] at h2
  exact h2
/-! ### what a cluster tells of its shards -/
def spCluLive (C : Addr) : Sp := fun vs H Q _ => ∃ (p pl : Addr) (n fl fa c : Nat) (L : List Nat) (qs : List (Nat × Nat)), vs = [.ref p] ∧ CluB C H p pl n fl fa c L qs ∧ ∀ t, H t = some (.tup (setV L)) → Q (.ref t) H
section
variable {P : Program} {w : World} {K : PySem.W.Frag} {mg : Str → Option Value} {base : Heap}
theorem ok_clulive (T : Txt K mg) {j : Nat} : FnOk P w K mg base CX0 (j + 1) T.fCluLive T.fdCluLive ["self"] (spCluLive T.cClu) := by
  refine T.FCluLive.ok scCluLive (fun vs H Q E h => ?_) (fun cdv A outer s H vs Q E hr h => ?_)
  · obtain ⟨p, pl, n, fl, fa, c, L, qs, rfl, _⟩ := h
    rfl
  · obtain ⟨p, pl, n, fl, fa, c, L, qs, rfl, B, q⟩ := h
    obtain ⟨⟨dx, tl, h1, h2⟩, us, h3, h4⟩ := id B
    refine ⟨_, pss_one (ps_ret (pe_fld (pv 0) rfl)), ?_⟩
    refine ⟨.ref p, rfl, p, T.cClu, dx, _, _, rfl, h1, T.clClu, T.naClu_living, fldC_living, q _ h2⟩
end
/-! ### read_fields -/
def spReadF : Sp := fun vs H Q _ => ∃ (row name : Str) (many : Nat), vs = [.str row, .str name, .int many] ∧ row.length + 2 ≤ sizeLine ∧
  (∀ ns, fieldsW row name many = some ns → ∀ H' t, Same H H' → H t = none → H' t = some (.tup (setV ns)) → Q (.ref t) H') ∧ (fieldsW row name many = none → ∀ H', Same H H' → Q .non H')
theorem cut_tail {xs : List V} (h : 1 ≤ xs.length) : cutV xs (some 1) none = xs.tail := by
  unfold cutV
  rw [show HT.sIx xs.length 0 (some (1 : Int)) = min 1 xs.length from HT.sIx_nat xs.length 0 1, show HT.sIx xs.length xs.length none = xs.length from rfl, Nat.min_eq_left h, List.drop_one]
  exact List.take_of_length_le (by rw [List.length_tail]; exact Nat.le_refl _)
section
variable {P : Program} {w : World} {K : PySem.W.Frag} {mg : Str → Option Value} {base : Heap}
theorem ok_readf (T : Txt K mg) {j : Nat} : FnOk P w K mg base CX0 (j + 3) T.fReadF T.fdReadF ["row", "name", "many"] spReadF := by
  refine T.FReadF.ok scReadF (fun vs H Q E h => ?_) (fun cdv A outer s H vs Q E hr h => ?_)
  · obtain ⟨row, name, many, rfl, _⟩ := h
    rfl
  · obtain ⟨row, name, many, rfl, hl, q1, q2⟩ := h
    refine ⟨_, pss_cons (ps_set (i := 3) scReadF.nd rfl (.inl rfl) (pe_split (pv 0) pe_str)) (pss_cons (ps_if (PW.pt (pw_or (pt_cmpR op_ne (pe_ix (ix_listK K) (pv 3) pe_int (fun _ _ => rfl)) (pv 1) (nomark _)) (pw_or1 (pt_cmpR op_ne (pe_callB (call_lenK K) (by rfl) T.n_len PySem.boot_len (pa_cons (pv 3) pa_nil)) (pe_op op_add (pv 2) pe_int) (nomark _))))) (pss_one (ps_ret pe_non)) pss_nil) (pss_one (ps_ret (pe_call (ok_readn T) hr (by rfl) T.gReadN T.FReadN.kp T.bReadN .nil pass0 (pa_cons (pe_slice (sl_listK (K := K)) (pv 3) (po_some pe_int) po_none) pa_nil))))), ?_⟩
    have n1 := split_blank row
    have hsz : (Txt.split row blankS).length ≤ sizeLine := Nat.le_trans (PyProof.Rows.split_le row blankS) hl
    have hp : ∀ p ∈ Txt.split row blankS, p.length ≤ sizeLine := fun p h => by
      have := split_part h
      omega
    refine ⟨_, rfl, ⟨row, rfl⟩, row, blankS, rfl, rfl, rfl, hl, fun a na => ?_⟩
    have hA : (upd H a (.lst ((Txt.split row blankS).map V.str))) a = some (.lst ((Txt.split row blankS).map V.str)) := upd_same
    have sA := same_new (o := .lst ((Txt.split row blankS).map V.str)) na
    dsimp only [gName]
    generalize upd H a (.lst ((Txt.split row blankS).map V.str)) = HA at sA hA ⊢
    have hn0 : ∃ w0 r, Txt.split row blankS = w0 :: r := by
      cases e : Txt.split row blankS with
      | nil => rw [e] at n1; exact absurd n1 (by decide)
      | cons w0 r => exact ⟨w0, r, rfl⟩
    obtain ⟨w0, r, e0⟩ := hn0
    have ef : fieldsW row name many = if w0 = name ∧ r.length = many ∧ r.all numW = true then some (r.map valW) else none := by
      unfold fieldsW
      rw [e0]
      show (if some w0 = some name ∧ r.length + 1 = many + 1 ∧ r.all numW = true then some (r.map valW) else none) = _
      by_cases c : w0 = name ∧ r.length = many ∧ r.all numW = true
      · rw [if_pos c, if_pos ⟨congrArg some c.1, congrArg (· + 1) c.2.1, c.2.2⟩]
      · rw [if_neg c, if_neg fun z => c ⟨Option.some.inj z.1, by omega, z.2.2⟩]
    rw [e0] at hA hsz hp
    refine ⟨.ref a, rfl, a, _, 0, .str w0, rfl, rfl, SqL.of hA, atI_nat (j := 0) rfl, _, rfl, rfl, _, rfl, ?_⟩
    refine ite2 (fun hb => ?_) (fun hb => ?_)
    · refine q2 ?_ _ sA
      rw [ef, if_neg]
      rintro ⟨h1, _⟩
      rw [h1] at hb
      simp at hb
    have h1 : w0 = name := by
      refine Classical.byContradiction fun z => hb ?_
      have : ¬ (V.str w0 = V.str name) := fun e => z (by injection e)
      rw [decide_eq_false this]
      rfl
    refine ⟨.ref a, rfl, a, _, rfl, .inl (SqL.of hA), _, rfl, ?_⟩
    refine ⟨_, _, rfl, rfl, rfl, _, rfl, ?_⟩
    refine ite2 (fun hb2 => ?_) (fun hb2 => ?_)
    · refine q2 ?_ _ sA
      rw [ef, if_neg]
      rintro ⟨_, h2, _⟩
      rw [List.length_map, List.length_cons, h2] at hb2
      simp at hb2
    have h2 : r.length = many := by
      refine Classical.byContradiction fun z => hb2 ?_
      have : ¬ (V.int (((w0 :: r).map V.str).length : Int) = V.int ((many : Int) + 1)) := fun e => by
        rw [List.length_map, List.length_cons] at e
        injection e with e
        omega
      rw [decide_eq_false this]
      rfl
    refine ⟨.ref a, rfl, (1 : Int), rfl, a, _, rfl, SqL.of hA, fun b nb => ?_⟩
    rw [cut_tail (by rw [List.length_map, List.length_cons]; omega)]
    have sb := same_new (o := .lst (((w0 :: r).map V.str).tail)) nb
    rw [List.length_cons] at hsz
    refine ⟨b, r, rfl, SqL.of upd_same, by omega, fun x hx => hp x (List.mem_cons_of_mem _ hx), fun ha H' t s' nt ht => ?_, fun ha => ?_⟩
    · exact q1 _ (by rw [ef, if_pos ⟨h1, h2, ha⟩]) H' t ((sA.trans sb).trans s') ((sA.trans sb).free nt) ht
    · refine q2 ?_ _ (sA.trans sb)
      rw [ef, if_neg]
      rintro ⟨_, _, h3⟩
      rw [ha] at h3
      cases h3
end
/-! ### NotLive's __init__ -/
section
variable {P : Program} {w : World} {K : PySem.W.Frag} {mg : Str → Option Value} {base : Heap}
theorem ok_notl (T : Txt K mg) {j : Nat} : FnOk P w K mg base CX0 (j + 1) T.fNotL T.fdNotL ["self", "value"] (spErr K T.cNotL "value") := by
  refine T.FNotL.ok scNotL (fun vs H Q E h => ?_) (fun cdv A outer s H vs Q E hr h => ?_)
  · obtain ⟨a, v, rfl, _⟩ := h
    rfl
  · obtain ⟨a, v, rfl, ha, q⟩ := h
    refine ⟨_, pss_cons (ps_expr (pe_baseInit (by rfl) T.gcBase T.btBase.sp T.btBase.ty T.btBase.rd T.btBase.fc (pa_cons (pv 0) (pa_cons pe_str pa_nil)))) (pss_one (ps_ost (pv 0) (pv 1))), ?_⟩
    refine ⟨.ref a, rfl, a, T.cNotL, _, rfl, (by show 1 ≤ 1000; decide), T.eNotL.ox, ha, ?_⟩
    refine ⟨v, rfl, .ref a, rfl, a, T.cNotL, rfl, T.eNotL.ox, T.eNotL.no, .inl ⟨ha, fun dx nd ne => q dx nd ne⟩⟩
end
/-! ### TooFew's __init__ -/
section
variable {P : Program} {w : World} {K : PySem.W.Frag} {mg : Str → Option Value} {base : Heap}
theorem ok_toof (T : Txt K mg) {j : Nat} : FnOk P w K mg base CX0 (j + 1) T.fTooF T.fdTooF ["self", "alive"] (spErr K T.cTooF "alive") := by
  refine T.FTooF.ok scTooF (fun vs H Q E h => ?_) (fun cdv A outer s H vs Q E hr h => ?_)
  · obtain ⟨a, v, rfl, _⟩ := h
    rfl
  · obtain ⟨a, v, rfl, ha, q⟩ := h
    refine ⟨_, pss_cons (ps_expr (pe_baseInit (by rfl) T.gcBase T.btBase.sp T.btBase.ty T.btBase.rd T.btBase.fc (pa_cons (pv 0) (pa_cons pe_str pa_nil)))) (pss_one (ps_ost (pv 0) (pv 1))), ?_⟩
    refine ⟨.ref a, rfl, a, T.cTooF, _, rfl, (by show 1 ≤ 1000; decide), T.eTooF.ox, ha, ?_⟩
    refine ⟨v, rfl, .ref a, rfl, a, T.cTooF, rfl, T.eTooF.ox, T.eTooF.no, .inl ⟨ha, fun dx nd ne => q dx nd ne⟩⟩
end
/-! ### which servers are live, and what is asked before a change -/
def liveB (L : List Nat) : Option Int → Bool
  | some c => decide (c ∈ L.map fun (m : Nat) => (m : Int))
  | none => false
theorem liveB_some {L : List Nat} {o : Option Int} (h : liveB L o = true) : ∃ x : Nat, o = some (x : Int) ∧ x ∈ L := by
  cases o with
  | none => cases h
  | some c =>
    obtain ⟨m, hm, e⟩ := List.mem_map.mp (of_decide_eq_true (h : decide (c ∈ L.map fun (m : Nat) => (m : Int)) = true))
    exact ⟨m, by rw [← e], hm⟩
theorem liveB_nat {L : List Nat} {x : Nat} (h : x ∈ L) : liveB L (some (x : Int)) = true := decide_eq_true (List.mem_map.mpr ⟨x, h, rfl⟩)
theorem liveB_not {L : List Nat} {x : Nat} (h : x ∉ L) : liveB L (some (x : Int)) = false := decide_eq_false fun z => by
  obtain ⟨m, hm, e⟩ := List.mem_map.mp z
  obtain rfl : m = x := by omega
  exact h hm
/-- all but what stands at p and q is as it was -/
def But2 (p q : Addr) (H H' : Hp) : Prop := ∀ b o, b ≠ p → b ≠ q → H b = some o → H' b = some o
theorem But2.trans {p q : Addr} {H H1 H2 : Hp} (s : But2 p q H H1) (t : But2 p q H1 H2) : But2 p q H H2 := fun b o n m e => t b o n m (s b o n m e)
theorem But2.of {p q : Addr} {H H1 : Hp} (t : But p H H1) : But2 p q H H1 := fun b o n _ e => t b o n e
theorem But2.of' {p q : Addr} {H H1 : Hp} (t : But q H H1) : But2 p q H H1 := fun b o _ n e => t b o n e
theorem But2.refl (p q : Addr) (H : Hp) : But2 p q H H := fun _ _ _ _ e => e
theorem But2.ofS {p q : Addr} {H H1 : Hp} (t : Same H H1) : But2 p q H H1 := fun b o _ _ e => t b o e
theorem nodup_snocC {l : List Nat} {x : Nat} (h : l.Nodup) (n : x ∉ l) : (l ++ [x]).Nodup := List.nodup_append.mpr ⟨h, List.nodup_cons.mpr ⟨List.not_mem_nil, List.nodup_nil⟩, fun a ha b hb e => by
  rw [List.mem_singleton.mp hb] at e
  rw [e] at ha
  exact n ha⟩
def turnL (L : List Nat) (x : Nat) : List Nat := if x ∈ L then L.filter (fun y => !decide (y = x)) else srt (L ++ [x])
theorem turn_in {L : List Nat} {x : Nat} (h : x ∈ L) : turnL L x = L.filter (fun y => !decide (y = x)) := if_pos h
theorem turn_out {L : List Nat} {x : Nat} (h : x ∉ L) : turnL L x = srt (L ++ [x]) := if_neg h
theorem turn_asc {L : List Nat} {x : Nat} (h : Asc L) : Asc (turnL L x) := by
  unfold turnL
  split
  · exact h.sublist (List.filter_sublist)
  · rename_i c
    exact srt_asc (nodup_snocC (asc_nodup h) c)
theorem turn_mem {L : List Nat} {x y : Nat} : y ∈ turnL L x ↔ (y ∈ L ∧ y ≠ x) ∨ (y = x ∧ x ∉ L) := by
  unfold turnL
  split
  · rename_i c
    rw [List.mem_filter]
    constructor
    · rintro ⟨a, b⟩
      exact .inl ⟨a, by simpa using b⟩
    · rintro (⟨a, b⟩ | ⟨_, b⟩)
      · exact ⟨a, by simpa using b⟩
      · exact absurd c b
  · rename_i c
    rw [(srt_perm _).mem_iff, List.mem_append, List.mem_singleton]
    constructor
    · rintro (a | a)
      · exact .inl ⟨a, fun z => c (by rw [← z]; exact a)⟩
      · exact .inr ⟨a, c⟩
    · rintro (⟨a, _⟩ | ⟨a, _⟩)
      · exact .inl a
      · exact .inr a
theorem turn_lt {L : List Nat} {x n : Nat} (h : ∀ y ∈ L, y < n) (hx : x < n) : ∀ y ∈ turnL L x, y < n := fun y hy => by
  rcases turn_mem.mp hy with ⟨a, _⟩ | ⟨a, _⟩
  · exact h y a
  · rw [a]
    exact hx
theorem out_len : ∀ {L : List Nat} {x : Nat}, L.Nodup → x ∈ L → (L.filter (fun y => !decide (y = x))).length + 1 = L.length
  | [], x, _, h => by cases h
  | a :: r, x, nd, h => by
    obtain ⟨h1, h2⟩ := List.nodup_cons.mp nd
    by_cases c : a = x
    · subst c
      rw [List.filter_cons_of_neg (by simp), List.filter_eq_self.mpr (fun y hy => by
        have : y ≠ a := fun z => h1 (by rw [← z]; exact hy)
        simpa using this)]
      rfl
    · rw [List.filter_cons_of_pos (by simpa using c), List.length_cons, List.length_cons, out_len h2 (by
        rcases List.mem_cons.mp h with z | z
        · exact absurd z.symm c
        · exact z)]
theorem turn_len_in {L : List Nat} {x : Nat} (nd : L.Nodup) (h : x ∈ L) : (turnL L x).length + 1 = L.length := by
  rw [turn_in h]
  exact out_len nd h
theorem turn_len_out {L : List Nat} {x : Nat} (h : x ∉ L) : (turnL L x).length = L.length + 1 := by
  rw [turn_out h, (srt_perm _).length_eq, List.length_append]
  rfl
section
variable {C : Addr} {H H' H2 : Hp} {p pl : Addr} {n fl fa c : Nat} {L L' : List Nat} {qs : List (Nat × Nat)}
theorem CluOk.out {x : Nat} (h : CluOk n fl fa c L) (hx : x ∈ L) (few : n + 1 ≤ L.length + fl) : CluOk n fl fa c (turnL L x) :=
  ⟨h.n2, h.f1, h.fn, h.a1, h.an, h.std, h.big, turn_asc h.asc, turn_lt h.lt (h.lt x hx), by have := turn_len_in (asc_nodup h.asc) hx; omega⟩
theorem CluOk.back {x : Nat} (h : CluOk n fl fa c L) (hx : x ∉ L) (lt : x < n) : CluOk n fl fa c (turnL L x) :=
  ⟨h.n2, h.f1, h.fn, h.a1, h.an, h.std, h.big, turn_asc h.asc, turn_lt h.lt lt, by have := turn_len_out hx; have := h.few; omega⟩
theorem CluOk.len (h : CluOk n fl fa c L) : L.length ≤ n := asc_lenC h.asc h.lt
theorem CluOk.sixty (h : CluOk n fl fa c L) : L.length ≤ 60 := Nat.le_trans h.len h.std.n60
theorem CluB.ne (h : CluB C H p pl n fl fa c L qs) : p ≠ pl := by
  obtain ⟨⟨dx, tl, h1, h2⟩, us, h3, h4⟩ := h
  intro z
  rw [← z, h1] at h3
  cases h3
theorem CluB.turn {dx tl t : Addr} (B : CluB C H p pl n fl fa c L qs) (e : H p = some (.ins C dx (fldC n fl fa c tl pl))) (s : Same H H2) (ht : H2 t = some (.tup (setV L'))) (nt : H t = none) :
    CluB C (upd H2 p (.ins C dx (putF "living" (.ref t) (fldC n fl fa c tl pl)))) p pl n fl fa c L' qs ∧ But p H (upd H2 p (.ins C dx (putF "living" (.ref t) (fldC n fl fa c tl pl)))) := by
  have np := B.ne
  obtain ⟨⟨dx2, tl2, h1, h2⟩, us, h3, h4⟩ := B
  have ntp : t ≠ p := (ne_of_none e nt).symm
  refine ⟨⟨⟨dx, t, upd_same, by rw [upd_ne ntp]; exact ht⟩, us, by rw [upd_ne np.symm]; exact s _ _ h3, h4.same fun u xs z => ?_⟩, (But.of s).upd⟩
  rw [upd_ne (fun y => by rw [y, h1] at z; cases z)]
  exact s _ _ z
theorem CluB.push {x v : Nat} {t : Addr} {us : List V} (B : CluB C H p pl n fl fa c L qs) (s : Same H H2) (nt : H t = none) (ht : H2 t = some (.tup [V.int (x : Int), V.int (v : Int)])) (hp : H2 pl = some (.lst us)) (hu : PstL H us qs) :
    CluB C (upd H2 pl (.lst (us ++ [.ref t]))) p pl n fl fa c L (qs ++ [(x, v)]) ∧ But pl H (upd H2 pl (.lst (us ++ [.ref t]))) := by
  have np := B.ne
  obtain ⟨⟨dx2, tl2, h1, h2⟩, us2, h3, h4⟩ := B
  have k : ∀ {b : Addr} {o : HO}, H2 b = some o → (∀ ys, o ≠ .lst ys) → (upd H2 pl (.lst (us ++ [.ref t]))) b = some o := fun {b o} e n => by
    rw [upd_ne (fun z => by rw [z, hp] at e; exact n _ (Option.some.inj e).symm)]
    exact e
  refine ⟨⟨⟨dx2, tl2, k (s _ _ h1) (fun _ z => by cases z), k (s _ _ h2) (fun _ z => by cases z)⟩, us ++ [.ref t], upd_same, PstL.app (hu.same fun u xs z => k (s _ _ z) (fun _ z => by cases z)) (.cons ⟨t, rfl, k ht (fun _ z => by cases z)⟩ .nil)⟩, (But.of s).upd⟩
end
theorem oth_stepC {ls : List Nat} {x i m : Nat} (h : ls[i]? = some m) : (ls.take (i + 1)).filter (fun y => !decide (y = x)) = (ls.take i).filter (fun y => !decide (y = x)) ++ if (!decide (m = x)) = true then [m] else [] := by
  rw [take_snoc h, List.filter_append]
  congr 1
  by_cases c : (!decide (m = x)) = true
  · rw [if_pos c, List.filter_cons_of_pos (p := fun y => !decide (y = x)) (a := m) c]
    rfl
  · rw [if_neg c, List.filter_cons_of_neg (p := fun y => !decide (y = x)) (a := m) c]
    rfl
theorem atI_endC {xs : List V} {v : V} (h : xs[xs.length - 1]? = some v) : atI xs (-1) = some v := by
  rw [← List.getLast?_eq_getElem?] at h
  obtain ⟨ys, rfl⟩ := List.getLast?_eq_some_iff.mp h
  exact L2.atI_last ys v
/-- what all changes so far have copied -/
def lastC (qs : List (Nat × Nat)) : Nat := match qs.getLast? with | some q => q.2 | none => 0
theorem lastC_snoc (qs : List (Nat × Nat)) (q : Nat × Nat) : lastC (qs ++ [q]) = q.2 := by
  unfold lastC
  rw [List.getLast?_concat]
def loadC (fa c u : Nat) : Nat := c * min fa u / u
theorem least_le {n d e : Nat} (h1 : 1 ≤ n) (h6 : n ≤ 60) (hd : d ≤ n) (he : e ≤ d) : leastL n e ∣ leastL n d :=
  (least_parts h1 h6 (Nat.le_trans he hd) _).mpr fun i hi => (least_parts h1 h6 hd _).mp (Nat.dvd_refl _) i (by omega)
def spCluChk (K : PySem.W.Frag) (C CL : Addr) : Sp := fun vs H Q E => ∃ (p pl : Addr) (n fl fa c : Nat) (L : List Nat) (qs : List (Nat × Nat)) (v : V) (o : Option Int), vs = [.ref p, v] ∧ CluB C H p pl n fl fa c L qs ∧ CountV K H v o ∧
  (liveB L o = false → Raised "value" CL v H E) ∧ (liveB L o = true → Q .non H)
def spCluCan (K : PySem.W.Frag) (C CL CF : Addr) : Sp := fun vs H Q E => ∃ (p pl : Addr) (n fl fa c : Nat) (L : List Nat) (qs : List (Nat × Nat)) (v : V) (o : Option Int), vs = [.ref p, v] ∧ CluB C H p pl n fl fa c L qs ∧ CluOk n fl fa c L ∧ CountV K H v o ∧
  (liveB L o = false → Raised "value" CL v H E) ∧ (liveB L o = true → L.length + fl < n + 1 → Raised "alive" CF (.int (L.length : Nat)) H E) ∧ (liveB L o = true → n + 1 ≤ L.length + fl → Q .non H)
def spCluTurn (K : PySem.W.Frag) (C : Addr) : Sp := fun vs H Q _ => ∃ (p pl : Addr) (n fl fa c : Nat) (L : List Nat) (qs : List (Nat × Nat)) (x : Nat), vs = [.ref p, .int x] ∧ CluB C H p pl n fl fa c L qs ∧ L.length ≤ 60 ∧
  ∀ H', But p H H' → CluB C H' p pl n fl fa c (turnL L x) qs → Q .non H'
def spCluCopied (C : Addr) : Sp := fun vs H Q _ => ∃ (p pl : Addr) (n fl fa c : Nat) (L : List Nat) (qs : List (Nat × Nat)), vs = [.ref p] ∧ CluB C H p pl n fl fa c L qs ∧ Q (.int (lastC qs : Nat)) H
def spCluChanges (C : Addr) : Sp := fun vs H Q _ => ∃ (p pl : Addr) (n fl fa c : Nat) (L : List Nat) (qs : List (Nat × Nat)), vs = [.ref p] ∧ CluB C H p pl n fl fa c L qs ∧ Q (.int (qs.length : Nat)) H
def spCluLen (C : Addr) : Sp := fun vs H Q _ => ∃ (p pl : Addr) (n fl fa c : Nat) (L : List Nat) (qs : List (Nat × Nat)), vs = [.ref p] ∧ CluB C H p pl n fl fa c L qs ∧ Q (.int (L.length : Nat)) H
def spCluLoad (K : PySem.W.Frag) (C CL : Addr) : Sp := fun vs H Q E => ∃ (p pl : Addr) (n fl fa c : Nat) (L : List Nat) (qs : List (Nat × Nat)) (v : V) (o : Option Int), vs = [.ref p, v] ∧ CluB C H p pl n fl fa c L qs ∧ CluOk n fl fa c L ∧ CountV K H v o ∧
  (liveB L o = false → Raised "value" CL v H E) ∧ (liveB L o = true → ∀ H', Same H H' → Q (.int (loadC fa c L.length : Nat)) H')
section
variable {P : Program} {w : World} {K : PySem.W.Frag} {mg : Str → Option Value} {base : Heap}
theorem ok_cluchecklive (T : Txt K mg) {j : Nat} : FnOk P w K mg base (L2.CX P w) (j + 3) T.fCluCheckLive T.fdCluCheckLive ["self", "value"] (spCluChk K T.cClu T.cNotL) := by
  refine T.FCluCheckLive.okX scCluCheckLive (fun vs H Q E h => ?_) (fun cdv A outer s H vs Q E hr h => ?_)
  · obtain ⟨p, pl, n, fl, fa, c, L, qs, v, o, rfl, _⟩ := h
    rfl
  · obtain ⟨p, pl, n, fl, fa, c, L, qs, v, o, rfl, B, hv, q1, q2⟩ := h
    obtain ⟨⟨dx, tl, h1, h2⟩, us, h3, h4⟩ := id B
    refine ⟨_, pss_one (ps_if (PW.pt (pw_or (pt_not (pt_val (pe_call (ok_plain T) hr (by rfl) T.gPlain T.FPlain.kp T.bPlain .nil pass0 (pa_cons (pv 1) pa_nil)))) (pw_or1 (pt_cmpR (op_notInK K) (pv 1) (pe_fld (pv 0) rfl) (by rfl))))) (pss_one (ps_raise rfl (takes_of rfl rfl rfl rfl) (pmk_oex T.eNotL.ox T.eNotL.iC T.eNotL.tI (ok_notl T) hr T.bNotL .nil pass0 (by rfl) T.gcNotL (pa_cons (pv 1) pa_nil)))) pss_nil), ?_⟩
    have raise : liveB L o = false → (tMkO T.cNotL (spErr K T.cNotL "value") [] (tCons (tVar 1) tNil)) [some (.ref p), some v] H (fun cls d H' => E cls d H') := fun ho => by
      refine ⟨v, rfl, (by show 1 ≤ 1000; decide), fun a na => ⟨a, v, rfl, upd_same, fun dx nd ne => ?_⟩⟩
      obtain ⟨e1, e2, e3, e4, e5⟩ := err_end (f := "value") (v := v) na nd ne
      exact ⟨rfl, dx, _, e1, e2, e3, q1 ho _ dx e4 e5 e3⟩
    obtain ⟨t, ht, e, ty⟩ := hv.ty
    refine ⟨v, rfl, v, t, rfl, ty, ht, _, rfl, ?_⟩
    rw [e]
    rcases hv with ⟨z, rfl, rfl⟩ | ⟨rfl, _⟩
    · refine iteF ?_
      refine ⟨_, rfl, .ref p, rfl, p, T.cClu, dx, _, _, rfl, h1, T.clClu, T.naClu_living, fldC_living, tl, _, rfl, .inr (SqT.of h2), rfl, setV_flat _, _, rfl, ?_⟩
      rw [setV_ints, inV_ints]
      refine ite2 (fun hb => ?_) (fun hb => ?_)
      · exact raise (decide_eq_false (by simpa using hb))
      · exact q2 (decide_eq_true (by simpa using hb))
    · refine iteT ?_
      exact raise rfl
theorem ok_clucheckcanfail (T : Txt K mg) {j : Nat} : FnOk P w K mg base (L2.CX P w) (j + 4) T.fCluCheckCanFail T.fdCluCheckCanFail ["self", "value"] (spCluCan K T.cClu T.cNotL T.cTooF) := by
  refine T.FCluCheckCanFail.okX scCluCheckCanFail (fun vs H Q E h => ?_) (fun cdv A outer s H vs Q E hr h => ?_)
  · obtain ⟨p, pl, n, fl, fa, c, L, qs, v, o, rfl, _⟩ := h
    rfl
  · obtain ⟨p, pl, n, fl, fa, c, L, qs, v, o, rfl, B, ok, hv, q1, q2, q3⟩ := h
    obtain ⟨⟨dx, tl, h1, h2⟩, us, h3, h4⟩ := id B
    have hn := ok.fn
    refine ⟨_, pss_cons (ps_expr (pe_meth (pv 0) T.clClu T.mtCluCheckLive (ok_cluchecklive T) hr T.bCluCheckLive .nil (passes_call (takes_of rfl rfl rfl rfl) (fun _ _ _ _ h => h)) (pa_cons (pv 1) pa_nil))) (pss_one (ps_if (pt_cmpR op_lt (pe_op op_sub (pe_callB (call_lenK K) (by rfl) T.n_len PySem.boot_len (pa_cons (pe_fld (pv 0) rfl) pa_nil)) pe_int) (pe_op op_sub (pe_fld (pv 0) rfl) (pe_fld (pv 0) rfl)) (nomark _)) (pss_one (ps_raise rfl (takes_of rfl rfl rfl rfl) (pmk_oex T.eTooF.ox T.eTooF.iC T.eTooF.tI (ok_toof T) hr T.bTooF .nil pass0 (by rfl) T.gcTooF (pa_cons (pe_callB (call_lenK K) (by rfl) T.n_len PySem.boot_len (pa_cons (pe_fld (pv 0) rfl) pa_nil)) pa_nil)))) pss_nil)), ?_⟩
    refine ⟨.ref p, rfl, p, dx, _, rfl, h1, fldC_no (by decide +kernel), v, rfl, p, pl, n, fl, fa, c, L, qs, v, o, rfl, B, hv, q1, fun hl => ?_⟩
    refine ⟨.ref p, rfl, p, T.cClu, dx, _, _, rfl, h1, T.clClu, T.naClu_living, fldC_living, tl, _, rfl, .inr (SqT.of h2), _, _, rfl, rfl, .ref p, rfl, p, T.cClu, dx, _, _, rfl, h1, T.clClu, T.naClu_n, fldC_n, .ref p, rfl, p, T.cClu, dx, _, _, rfl, h1, T.clClu, T.naClu_failures, fldC_failures, _, _, rfl, rfl, _, _, rfl, rfl, _, rfl, ?_⟩
    rw [setV_len]
    refine ite2 (fun hb => ?_) (fun hb => ?_)
    · have hb2 : (L.length : Int) - 1 < (n : Int) - (fl : Int) := of_decide_eq_true hb
      refine ⟨.ref p, rfl, p, T.cClu, dx, _, _, rfl, h1, T.clClu, T.naClu_living, fldC_living, tl, _, rfl, .inr (SqT.of h2), (by show 1 ≤ 1000; decide), fun a na => ⟨a, _, rfl, upd_same, fun dx nd ne => ?_⟩⟩
      obtain ⟨e1, e2, e3, e4, e5⟩ := err_end (f := "alive") (v := .int ((setV L).length : Nat)) na nd ne
      have q4 := q2 hl (by omega)
      rw [show V.int ((L.length : Nat) : Int) = V.int (((setV L).length : Nat) : Int) by rw [setV_len]] at q4
      exact ⟨rfl, dx, _, e1, e2, e3, q4 _ dx e4 e5 e3⟩
    · have hb2 : ¬ (L.length : Int) - 1 < (n : Int) - (fl : Int) := fun z => hb (decide_eq_true z)
      exact q3 hl (by omega)
theorem ok_cluturn (T : Txt K mg) {j : Nat} : FnOk P w K mg base CX0 (j + 2) T.fCluTurn T.fdCluTurn ["self", "server"] (spCluTurn K T.cClu) := by
  refine T.FCluTurn.ok scCluTurn (fun vs H Q E h => ?_) (fun cdv A outer s H vs Q E hr h => ?_)
  · obtain ⟨p, pl, n, fl, fa, c, L, qs, x, rfl, _⟩ := h
    rfl
  · obtain ⟨p, pl, n, fl, fa, c, L, qs, x, rfl, B, hl, q⟩ := h
    obtain ⟨⟨dx, tl, h1, h2⟩, us, h3, h4⟩ := id B
    refine ⟨_, pss_one (ps_if (pt_cmpR (op_inK K) (pv 1) (pe_fld (pv 0) rfl) (by rfl)) (pss_one (ps_fld (pv 0) (pe_callTy (call_tupleK K) (by rfl) T.n_tuple (by decide +kernel) (pa_cons (pe_lc (own := [("other", 2)]) (g := (gName 2)) rfl scCluTurn.nd (pi_tup (pe_fld (pv 0) rfl)) (blkOk_by (own := [("other", 2)]) (N := NCluTurn) (sc := defScope sCluTurn) (by decide +kernel)) (fun _ _ _ _ _ => (pg_name (i := 2) scCluTurn.nd rfl (.inl rfl))) (fun _ _ _ _ _ => pts_one (pt_cmpR op_ne (pv 2) (pv 1) (nomark _))) (fun _ _ _ _ _ => (pv 2))) pa_nil)) rfl)) (pss_one (ps_fld (pv 0) (pe_call (ok_joined T) hr (by rfl) T.gJoined T.FJoined.kp T.bJoined .nil pass0 (pa_cons (pe_fld (pv 0) rfl) (pa_cons (pv 1) pa_nil))) rfl))), ?_⟩
    refine ⟨_, rfl, .ref p, rfl, p, T.cClu, dx, _, _, rfl, h1, T.clClu, T.naClu_living, fldC_living, tl, _, rfl, .inr (SqT.of h2), rfl, setV_flat _, _, rfl, ?_⟩
    rw [inV_setV]
    refine ite2 (fun hb => ?_) (fun hb => ?_)
    · have hx : x ∈ L := by simpa using hb
      rw [turn_in hx] at q
      refine ⟨.ref p, rfl, p, T.cClu, dx, _, _, rfl, h1, T.clClu, T.naClu_living, fldC_living, tl, rfl, ⟨_, SqT.of h2⟩, fun D nD => ?_⟩
      refine lc_tup (K := K) (a := tl) (xs := setV L) (fun z H3 => Same H H3 ∧ H3 D = some (.lst (setV ((L.take z).filter fun y => !decide (y = x))))) ⟨same_new nD, upd_same⟩ (fun _ H3 _ h => Same.seqT h.1 (SqT.of h2)) ?_ ?_
      · rintro z v H3 hz ⟨s3, hD⟩
        obtain ⟨m, hm, rfl⟩ := setV_get hz
        have st := oth_stepC (x := x) hm
        have fl := List.length_filter_le (fun y => !decide (y = x)) (L.take z)
        rw [List.length_take] at fl
        refine ⟨rfl, _, rfl, _, rfl, rfl, _, rfl, ?_⟩
        have ev : decide (V.int (m : Int) = V.int (x : Int)) = decide (m = x) := decide_eq_decide.mpr ⟨fun e => by injection e with e; omega, fun e => by rw [e]⟩
        rw [ev]
        refine ite2 (fun hb => ?_) (fun hb => ?_)
        · refine ⟨_, rfl, _, hD, by rw [setV_len]; exact small1000 (by omega), keep_upd s3 nD, ?_⟩
          rw [upd_same, st, if_pos hb, setV_app]
          rfl
        · refine ⟨s3, ?_⟩
          rw [st, if_neg hb, List.append_nil]
          exact hD
      · rintro H3 ⟨s3, hD⟩
        rw [setV_len, List.take_length] at hD
        refine ⟨D, _, rfl, .inl ⟨SqL.of hD, fun t nt => ?_⟩⟩
        have s4 := s3.trans (same_new (o := .tup (setV (L.filter fun y => !decide (y = x)))) nt)
        obtain ⟨B2, b2⟩ := B.turn h1 s4 upd_same (s3.free nt)
        exact ⟨.ref p, rfl, p, T.cClu, dx, _, rfl, s4 _ _ h1, T.clClu, T.naClu_living, (by show 6 < 1000; decide), q _ b2 B2⟩
    · have hx : x ∉ L := by simpa using hb
      rw [turn_out hx] at q
      refine ⟨.ref p, rfl, p, T.cClu, dx, _, _, rfl, h1, T.clClu, T.naClu_living, fldC_living, _, rfl, tl, L, x, rfl, SqT.of h2, hl, fun H3 t s3 nt ht => ?_⟩
      obtain ⟨B2, b2⟩ := B.turn h1 s3 ht nt
      exact ⟨.ref p, rfl, p, T.cClu, dx, _, rfl, s3 _ _ h1, T.clClu, T.naClu_living, (by show 6 < 1000; decide), q _ b2 B2⟩
theorem ok_clucopied (T : Txt K mg) {j : Nat} : FnOk P w K mg base CX0 (j + 1) T.fCluCopied T.fdCluCopied ["self"] (spCluCopied T.cClu) := by
  refine T.FCluCopied.ok scCluCopied (fun vs H Q E h => ?_) (fun cdv A outer s H vs Q E hr h => ?_)
  · obtain ⟨p, pl, n, fl, fa, c, L, qs, rfl, _⟩ := h
    rfl
  · obtain ⟨p, pl, n, fl, fa, c, L, qs, rfl, B, q⟩ := h
    obtain ⟨⟨dx, tl, h1, h2⟩, us, h3, h4⟩ := id B
    have ul := h4.len
    refine ⟨_, pss_cons (ps_if (pt_cmpR op_eq (pe_callB (call_lenK K) (by rfl) T.n_len PySem.boot_len (pa_cons (pe_fld (pv 0) rfl) pa_nil)) pe_int (nomark _)) (pss_one (ps_ret pe_int)) pss_nil) (pss_one (ps_ret (pe_ix (ix_tupK K) (pe_ix (ix_listK K) (pe_fld (pv 0) rfl) (pe_un un_neg pe_int) (fun _ _ => rfl)) pe_int (fun _ _ => rfl)))), ?_⟩
    refine ⟨.ref p, rfl, p, T.cClu, dx, _, _, rfl, h1, T.clClu, T.naClu_past, fldC_past, pl, _, rfl, .inl (SqL.of h3), rfl, _, rfl, ?_⟩
    refine ite2 (fun hb => ?_) (fun hb => ?_)
    · have e : V.int ((us.length : Nat) : Int) = V.int 0 := of_decide_eq_true hb
      have e2 : ((us.length : Nat) : Int) = 0 := by injection e
      obtain rfl : qs = [] := List.eq_nil_of_length_eq_zero (by omega)
      exact q
    · have ne : qs ≠ [] := fun z => hb (decide_eq_true (by rw [ul, z]; rfl))
      obtain ⟨ws, u, y, rfl, hu, hy⟩ := h4.last ne
      have ly : lastC qs = y.2 := by
        unfold lastC
        rw [hy]
      rw [ly] at q
      refine ⟨.ref p, rfl, p, T.cClu, dx, _, _, rfl, h1, T.clClu, T.naClu_past, fldC_past, _, rfl, pl, _, _, .ref u, rfl, rfl, SqL.of h3, ?_, u, _, _, _, rfl, rfl, SqT.of hu, rfl, q⟩
      exact atI_endC (by rw [List.length_append]; simp)
theorem ok_cluchanges (T : Txt K mg) {j : Nat} : FnOk P w K mg base CX0 (j + 1) T.fCluChanges T.fdCluChanges ["self"] (spCluChanges T.cClu) := by
  refine T.FCluChanges.ok scCluChanges (fun vs H Q E h => ?_) (fun cdv A outer s H vs Q E hr h => ?_)
  · obtain ⟨p, pl, n, fl, fa, c, L, qs, rfl, _⟩ := h
    rfl
  · obtain ⟨p, pl, n, fl, fa, c, L, qs, rfl, B, q⟩ := h
    obtain ⟨⟨dx, tl, h1, h2⟩, us, h3, h4⟩ := id B
    have ul := h4.len
    refine ⟨_, pss_one (ps_ret (pe_callB (call_lenK K) (by rfl) T.n_len PySem.boot_len (pa_cons (pe_fld (pv 0) rfl) pa_nil))), ?_⟩
    refine ⟨.ref p, rfl, p, T.cClu, dx, _, _, rfl, h1, T.clClu, T.naClu_past, fldC_past, pl, _, rfl, .inl (SqL.of h3), ?_⟩
    rw [ul]
    exact q
theorem ok_clulen (T : Txt K mg) {j : Nat} : FnOk P w K mg base CX0 (j + 1) T.fCluLen T.fdCluLen ["self"] (spCluLen T.cClu) := by
  refine T.FCluLen.ok scCluLen (fun vs H Q E h => ?_) (fun cdv A outer s H vs Q E hr h => ?_)
  · obtain ⟨p, pl, n, fl, fa, c, L, qs, rfl, _⟩ := h
    rfl
  · obtain ⟨p, pl, n, fl, fa, c, L, qs, rfl, B, q⟩ := h
    obtain ⟨⟨dx, tl, h1, h2⟩, us, h3, h4⟩ := id B
    refine ⟨_, pss_one (ps_ret (pe_callB (call_lenK K) (by rfl) T.n_len PySem.boot_len (pa_cons (pe_fld (pv 0) rfl) pa_nil))), ?_⟩
    refine ⟨.ref p, rfl, p, T.cClu, dx, _, _, rfl, h1, T.clClu, T.naClu_living, fldC_living, tl, _, rfl, .inr (SqT.of h2), ?_⟩
    rw [setV_len]
    exact q
theorem ok_cluload (T : Txt K mg) {j : Nat} : FnOk P w K mg base (L2.CX P w) (j + 7) T.fCluLoad T.fdCluLoad ["self", "server"] (spCluLoad K T.cClu T.cNotL) := by
  refine T.FCluLoad.okX scCluLoad (fun vs H Q E h => ?_) (fun cdv A outer s H vs Q E hr h => ?_)
  · obtain ⟨p, pl, n, fl, fa, c, L, qs, v, o, rfl, _⟩ := h
    rfl
  · obtain ⟨p, pl, n, fl, fa, c, L, qs, v, o, rfl, B, ok, hv, q1, q2⟩ := h
    obtain ⟨⟨dx, tl, h1, h2⟩, us, h3, h4⟩ := id B
    refine ⟨_, pss_cons (ps_expr (pe_meth (pv 0) T.clClu T.mtCluCheckLive (ok_cluchecklive T) hr T.bCluCheckLive .nil (passes_call (takes_of rfl rfl rfl rfl) (fun _ _ _ _ h => h)) (pa_cons (pv 1) pa_nil))) (pss_cons (ps_set (i := 2) scCluLoad.nd rfl (.inl rfl) (pe_callB (call_lenK K) (by rfl) T.n_len PySem.boot_len (pa_cons (pe_fld (pv 0) rfl) pa_nil))) (pss_one (ps_ret (pe_call (ok_hbsrv T) hr (by rfl) T.gHbSrv T.FHbSrv.kp T.bHbSrv .nil (passes_call (takes_of rfl rfl rfl rfl) (fun _ _ _ _ h => h)) (pa_cons (pe_fld (pv 0) rfl) (pa_cons (pe_fld (pv 0) rfl) (pa_cons (pv 2) (pa_cons (pe_callB (call_min2 rfl) (by rfl) T.n_min (by decide +kernel) (pa_cons (pe_fld (pv 0) rfl) (pa_cons (pv 2) pa_nil))) pa_nil)))))))), ?_⟩
    refine ⟨.ref p, rfl, p, dx, _, rfl, h1, fldC_no (by decide +kernel), v, rfl, p, pl, n, fl, fa, c, L, qs, v, o, rfl, B, hv, q1, fun hl => ?_⟩
    obtain ⟨x, rfl, hx⟩ := liveB_some hl
    have l1 : 1 ≤ L.length := List.length_pos_of_mem hx
    have ln := ok.len
    have n6 := ok.std.n60
    have n1 := ok.n2
    have few := ok.few
    have fn := ok.fn
    have a1 := ok.a1
    have an := ok.an
    refine ⟨.ref p, rfl, p, T.cClu, dx, _, _, rfl, h1, T.clClu, T.naClu_living, fldC_living, tl, _, rfl, .inr (SqT.of h2), ?_⟩
    dsimp only
    rw [setV_len]
    refine ⟨.ref p, rfl, p, T.cClu, dx, _, _, rfl, h1, T.clClu, T.naClu_n, fldC_n, .ref p, rfl, p, T.cClu, dx, _, _, rfl, h1, T.clClu, T.naClu_count, fldC_count, _, rfl, .ref p, rfl, p, T.cClu, dx, _, _, rfl, h1, T.clClu, T.naClu_factor, fldC_factor, _, rfl, _, _, rfl, ?_⟩
    have em : (if (L.length : Int) < (fa : Int) then (L.length : Int) else (fa : Int)) = ((min fa L.length : Nat) : Int) := by
      split <;> omega
    dsimp only
    rw [em]
    have sd : Std n (n - L.length + min fa L.length + 0) c := std_less ok.std (by omega) (least_le (by omega) n6 (by omega) (by omega))
    refine ⟨n, .int c, some (c : Int), L.length, min fa L.length, rfl, n6, ln, by omega, by omega, .inl ⟨_, rfl, rfl⟩, fun hp => ?_, fun c' e _ H2 s2 => ?_⟩
    · rw [std_poss sd] at hp
      cases hp
    · have e2 := Option.some.inj e
      obtain rfl : c = c' := by omega
      exact q2 hl H2 s2
end
/-! ### a new cluster -/
theorem field_nat {lo hi : Int} {o : Option Int} (h0 : 0 ≤ lo) (h : fieldB lo hi o = true) : ∃ k : Nat, o = some (k : Int) ∧ lo ≤ (k : Int) ∧ (k : Int) ≤ hi := by
  cases o with
  | none => cases h
  | some c =>
    have h2 : (decide (lo ≤ c) && decide (c ≤ hi)) = true := h
    rw [Bool.and_eq_true] at h2
    have a := of_decide_eq_true h2.1
    have b := of_decide_eq_true h2.2
    obtain ⟨k, rfl⟩ := Int.eq_ofNat_of_zero_le (show 0 ≤ c by omega)
    exact ⟨k, rfl, a, b⟩
theorem field_yes {lo hi : Int} {k : Nat} (h1 : lo ≤ (k : Int)) (h2 : (k : Int) ≤ hi) : fieldB lo hi (some (k : Int)) = true := by
  show (decide (lo ≤ (k : Int)) && decide ((k : Int) ≤ hi)) = true
  rw [decide_eq_true h1, decide_eq_true h2]
  rfl
def spCluInit (K : PySem.W.Frag) (C CN CP : Addr) : Sp := fun vs H Q E => ∃ (p dx : Addr) (v1 v2 v3 v4 : V) (o1 o2 o3 o4 : Option Int), vs = [.ref p, v1, v2, v3, v4] ∧ H p = some (.ins C dx []) ∧ CountV K H v1 o1 ∧ CountV K H v2 o2 ∧ CountV K H v3 o3 ∧ CountV K H v4 o4 ∧
  (fieldB 2 60 o1 = false → Raised "field" CN (.str "n") H E) ∧
  (∀ n : Nat, o1 = some (n : Int) → 2 ≤ n → n ≤ 60 → (fieldB 1 ((n : Int) - 1) o2 = false → Raised "field" CN (.str "failures") H E) ∧
    (∀ fl : Nat, o2 = some (fl : Int) → 1 ≤ fl → fl < n → (fieldB 1 (n : Int) o3 = false → Raised "field" CN (.str "factor") H E) ∧
      (∀ fa : Nat, o3 = some (fa : Int) → 1 ≤ fa → fa ≤ n → (possB (leastL n (min n (fl + fa))) o4 = false → Raised "count" CP v4 H E) ∧
        (∀ c : Nat, o4 = some (c : Int) → Std n (min n (fl + fa)) c → ∀ H' pl, But p H H' → H pl = none → CluB C H' p pl n fl fa c (List.range' 0 n) [] → Q .non H'))))
section
variable {P : Program} {w : World} {K : PySem.W.Frag} {mg : Str → Option Value} {base : Heap}
theorem ok_cluinit (T : Txt K mg) {j : Nat} : FnOk P w K mg base (L2.CX P w) (j + 6) T.fCluInit T.fdCluInit ["self", "n", "failures", "factor", "count"] (spCluInit K T.cClu T.cNoC T.cNotP) := by
  refine T.FCluInit.okX scCluInit (fun vs H Q E h => ?_) (fun cdv A outer s H vs Q E hr h => ?_)
  · obtain ⟨p, dx, v1, v2, v3, v4, o1, o2, o3, o4, rfl, _⟩ := h
    rfl
  · obtain ⟨p, dx, v1, v2, v3, v4, o1, o2, o3, o4, rfl, hp, c1, c2, c3, c4, q1, q2⟩ := h
    refine ⟨_, pss_cons (ps_expr (pe_call (ok_chkf T) hr (by rfl) T.gChkF T.FChkF.kp T.bChkF .nil (passes_call (takes_of rfl rfl rfl rfl) (fun _ _ _ _ h => h)) (pa_cons pe_str (pa_cons (pv 1) (pa_cons (pe_glob (v := .int 2) (by rfl) T.gLEAST_SERVERS ⟨_, rfl⟩) (pa_cons (pe_glob (v := .int 60) (by rfl) T.gMOST_SERVERS ⟨_, rfl⟩) pa_nil)))))) (pss_cons (ps_expr (pe_call (ok_chkf T) hr (by rfl) T.gChkF T.FChkF.kp T.bChkF .nil (passes_call (takes_of rfl rfl rfl rfl) (fun _ _ _ _ h => h)) (pa_cons pe_str (pa_cons (pv 2) (pa_cons pe_int (pa_cons (pe_op op_sub (pv 1) pe_int) pa_nil)))))) (pss_cons (ps_expr (pe_call (ok_chkf T) hr (by rfl) T.gChkF T.FChkF.kp T.bChkF .nil (passes_call (takes_of rfl rfl rfl rfl) (fun _ _ _ _ h => h)) (pa_cons pe_str (pa_cons (pv 3) (pa_cons pe_int (pa_cons (pv 1) pa_nil)))))) (pss_cons (ps_expr (pe_call (ok_chkp T) hr (by rfl) T.gChkP T.FChkP.kp T.bChkP .nil (passes_call (takes_of rfl rfl rfl rfl) (fun _ _ _ _ h => h)) (pa_cons (pv 1) (pa_cons (pe_call (ok_reachof T) hr (by rfl) T.gReachOf T.FReachOf.kp T.bReachOf .nil pass0 (pa_cons (pv 1) (pa_cons (pv 2) (pa_cons (pv 3) pa_nil)))) (pa_cons (pv 4) pa_nil))))) (pss_cons (ps_fld (pv 0) (pv 1) rfl) (pss_cons (ps_fld (pv 0) (pv 2) rfl) (pss_cons (ps_fld (pv 0) (pv 3) rfl) (pss_cons (ps_fld (pv 0) (pv 4) rfl) (pss_cons (ps_fld (pv 0) (pe_tupRg rfl (by rfl) T.n_tuple (prg_1 (by rfl) T.n_range (pv 1))) rfl) (pss_one (ps_fld (pv 0) (pe_lst pa_nil) rfl)))))))))), ?_⟩
    refine ⟨v1, rfl, _, v1, o1, 2, 60, rfl, c1, fun b1 => ?_, q1⟩
    obtain ⟨n, rfl, n2, n6⟩ := field_nat (by decide) b1
    obtain rfl := c1.isInt
    obtain ⟨q3, q4⟩ := q2 n rfl (by omega) (by omega)
    refine ⟨v2, rfl, _, rfl, _, _, rfl, rfl, _, v2, o2, 1, (n : Int) - 1, rfl, c2, fun b2 => ?_, q3⟩
    obtain ⟨fl, rfl, f1, fn⟩ := field_nat (by decide) b2
    obtain rfl := c2.isInt
    obtain ⟨q5, q6⟩ := q4 fl rfl (by omega) (by omega)
    refine ⟨v3, rfl, _, rfl, _, v3, o3, 1, (n : Int), rfl, c3, fun b3 => ?_, q5⟩
    obtain ⟨fa, rfl, a1, an⟩ := field_nat (by decide) b3
    obtain rfl := c3.isInt
    obtain ⟨q7, q8⟩ := q6 fa rfl (by omega) (by omega)
    refine ⟨_, rfl, _, rfl, _, rfl, _, rfl, n, fl, fa, rfl, v4, rfl, n, min n (fl + fa), v4, o4, rfl, by omega, by omega, by omega, c4, fun b4 H1 s1 => ?_, q7⟩
    obtain ⟨c, rfl, st⟩ := poss_std (by omega) (by omega) (by omega) b4
    obtain rfl := c4.isInt
    have q9 := q8 c rfl st
    refine ⟨_, rfl, .ref p, rfl, p, T.cClu, dx, _, rfl, s1 _ _ hp, T.clClu, T.naClu_n, (by show 0 < 1000; decide), ?_⟩
    refine ⟨_, rfl, .ref p, rfl, p, T.cClu, dx, _, rfl, upd_same, T.clClu, T.naClu_failures, (by show 1 < 1000; decide), ?_⟩
    refine ⟨_, rfl, .ref p, rfl, p, T.cClu, dx, _, rfl, upd_same, T.clClu, T.naClu_factor, (by show 2 < 1000; decide), ?_⟩
    refine ⟨_, rfl, .ref p, rfl, p, T.cClu, dx, _, rfl, upd_same, T.clClu, T.naClu_count, (by show 3 < 1000; decide), ?_⟩
    refine ⟨_, rfl, _, rfl, .of_le (by omega) (by omega) (by omega) (by omega), fun tl ntl => ?_⟩
    dsimp only
    rw [setV_range]
    have ntp : p ≠ tl := ne_of_none upd_same ntl
    refine ⟨.ref p, rfl, p, T.cClu, dx, _, rfl, (upd_ne ntp).trans upd_same, T.clClu, T.naClu_living, (by show 4 < 1000; decide), ?_⟩
    refine ⟨Nat.zero_le _, fun pl npl => ?_⟩
    have npp : p ≠ pl := ne_of_none upd_same npl
    have ntpl : tl ≠ pl := ne_of_none ((upd_ne ntp.symm).trans upd_same) npl
    refine ⟨.ref p, rfl, p, T.cClu, dx, _, rfl, (upd_ne npp).trans upd_same, T.clClu, T.naClu_past, (by show 5 < 1000; decide), ?_⟩
    have htl : H tl = none := by
      have z := ntl
      rw [upd_ne ntp.symm, upd_ne ntp.symm, upd_ne ntp.symm, upd_ne ntp.symm] at z
      exact s1.free z
    have hpl : H pl = none := by
      have z := npl
      rw [upd_ne npp.symm, upd_ne ntpl.symm, upd_ne npp.symm, upd_ne npp.symm, upd_ne npp.symm, upd_ne npp.symm] at z
      exact s1.free z
    refine q9 _ pl ?_ hpl ⟨⟨dx, tl, upd_same, ?_⟩, [], ?_, .nil⟩
    · refine But.upd (but_new (But.upd (but_new ?_ htl)) hpl)
      exact ((((But.of s1).upd).upd).upd).upd
    · rw [upd_ne ntp.symm, upd_ne ntpl, upd_ne ntp.symm, upd_same]
    · rw [upd_ne npp.symm, upd_same]
end
/-! ### NoText's __init__ -/
section
variable {P : Program} {w : World} {K : PySem.W.Frag} {mg : Str → Option Value} {base : Heap}
theorem ok_not (T : Txt K mg) {j : Nat} : FnOk P w K mg base CX0 (j + 1) T.fNoT T.fdNoT ["self", "row"] (spErr K T.cNoT "row") := by
  refine T.FNoT.ok scNoT (fun vs H Q E h => ?_) (fun cdv A outer s H vs Q E hr h => ?_)
  · obtain ⟨a, v, rfl, _⟩ := h
    rfl
  · obtain ⟨a, v, rfl, ha, q⟩ := h
    refine ⟨_, pss_cons (ps_expr (pe_baseInit (by rfl) T.gcBase T.btBase.sp T.btBase.ty T.btBase.rd T.btBase.fc (pa_cons (pv 0) (pa_cons pe_str pa_nil)))) (pss_one (ps_ost (pv 0) (pv 1))), ?_⟩
    refine ⟨.ref a, rfl, a, T.cNoT, _, rfl, (by show 1 ≤ 1000; decide), T.eNoT.ox, ha, ?_⟩
    refine ⟨v, rfl, .ref a, rfl, a, T.cNoT, rfl, T.eNoT.ox, T.eNoT.no, .inl ⟨ha, fun dx nd ne => q dx nd ne⟩⟩
end
/-! ### read_head, of fields that a cluster can have -/
def clusterS : Str := "cluster"
def rowC (n fl fa c : Nat) : Prop := 2 ≤ n ∧ n ≤ 60 ∧ 1 ≤ fl ∧ fl < n ∧ 1 ≤ fa ∧ fa ≤ n ∧ Std n (min n (fl + fa)) c
theorem fields_four {row name : Str} {ns : List Nat} (h : fieldsW row name 4 = some ns) : ∃ a b c d, ns = [a, b, c, d] := by
  unfold fieldsW at h
  split at h
  · rename_i z
    have e := Option.some.inj h
    have l : ns.length = 4 := by
      rw [← e, List.length_map, List.length_tail, z.2.1]
    match ns, l with
    | [a, b, c, d], _ => exact ⟨a, b, c, d, rfl⟩
  · cases h
def spReadH (K : PySem.W.Frag) (C CT : Addr) : Sp := fun vs H Q E => ∃ row : Str, vs = [.str row] ∧ row.length + 2 ≤ sizeLine ∧ (fieldsW row clusterS 4 = none → Raised "row" CT (.int 0) H E) ∧
  ∀ n fl fa c : Nat, fieldsW row clusterS 4 = some [n, fl, fa, c] → rowC n fl fa c ∧ ∀ H' p pl, Same H H' → H p = none → H pl = none → CluB C H' p pl n fl fa c (List.range' 0 n) [] → Q (.ref p) H'
section
variable {P : Program} {w : World} {K : PySem.W.Frag} {mg : Str → Option Value} {base : Heap}
theorem ok_readh (T : Txt K mg) {j : Nat} : FnOk P w K mg base (L2.CX P w) (j + 8) T.fReadH T.fdReadH ["row"] (spReadH K T.cClu T.cNoT) := by
  refine T.FReadH.okX scReadH (fun vs H Q E h => ?_) (fun cdv A outer s H vs Q E hr h => ?_)
  · obtain ⟨row, rfl, _⟩ := h
    rfl
  · obtain ⟨row, rfl, hl, q0, q⟩ := h
    refine ⟨_, pss_cons (ps_set (i := 1) scReadH.nd rfl (.inl rfl) (pe_call (ok_readf T) hr (by rfl) T.gReadF T.FReadF.kp T.bReadF .nil pass0 (pa_cons (pv 0) (pa_cons pe_str (pa_cons pe_int pa_nil))))) (pss_cons (ps_if (pt_cmpR op_isN (pv 1) pe_non (nomark _)) (pss_one (ps_raise rfl (takes_of rfl rfl rfl rfl) (pmk_oex T.eNoT.ox T.eNoT.iC T.eNoT.tI (ok_not T) hr T.bNoT .nil pass0 (by rfl) T.gcNoT (pa_cons pe_int pa_nil)))) pss_nil) (pss_cons (ps_asg (pv 1) (pg_tup rfl (pgs_cons (pg_name (i := 2) scReadH.nd rfl (.inl rfl)) (pgs_cons (pg_name (i := 3) scReadH.nd rfl (.inl rfl)) (pgs_cons (pg_name (i := 4) scReadH.nd rfl (.inl rfl)) (pgs_cons (pg_name (i := 5) scReadH.nd rfl (.inl rfl)) pgs_nil)))))) (pss_one (ps_try_never (fun _ _ _ _ => (pss_one (ps_ret (pe_make T.mkClu (ok_cluinit T) hr (by rfl) T.gcClu T.bCluInit .nil passF (pa_cons (pv 2) (pa_cons (pv 3) (pa_cons (pv 4) (pa_cons (pv 5) pa_nil)))))))))))), ?_⟩
    refine ⟨_, rfl, row, clusterS, 4, rfl, hl, fun fs hf H2 t2 s2 nt2 ht2 => ?_, fun hf H2 s2 => ?_⟩
    rotate_left
    · refine ⟨.non, rfl, rfl, _, rfl, iteT ⟨(by show 1 ≤ 1000; decide), fun a na => ⟨a, .int 0, rfl, upd_same, fun dx nd ne => ?_⟩⟩⟩
      obtain ⟨e1, e2, e3, e4, e5⟩ := err_end (f := "row") (v := .int 0) na nd ne
      exact ⟨rfl, dx, _, e1, e2, e3, (q0 hf).on s2 _ dx e4 e5 e3⟩
    obtain ⟨n, fl, fa, c, rfl⟩ := fields_four hf
    obtain ⟨⟨n2, n6, f1, fn, a1, an, st⟩, qq⟩ := q n fl fa c hf
    refine ⟨.ref t2, rfl, rfl, _, rfl, iteF ?_⟩
    refine ⟨.ref t2, rfl, t2, _, rfl, SqT.of ht2, rfl, _, _, rfl, _, _, rfl, _, _, rfl, _, _, rfl, rfl, ?_⟩
    refine ⟨_, rfl, _, rfl, _, rfl, _, rfl, fun p dx np' ndx nex => ?_⟩
    have sD : Same H2 (upd (upd H2 dx (.own p)) p (.ins T.cClu dx [])) := fun b o e => by
      rw [upd_ne (ne_of_none e np'), upd_ne (ne_of_none e ndx)]
      exact e
    refine ⟨p, dx, _, _, _, _, some (n : Int), some (fl : Int), some (fa : Int), some (c : Int), rfl, upd_same, .inl ⟨_, rfl, rfl⟩, .inl ⟨_, rfl, rfl⟩, .inl ⟨_, rfl, rfl⟩, .inl ⟨_, rfl, rfl⟩, fun z => ?_, fun n' e _ _ => ?_⟩
    · rw [field_yes (by omega) (by omega)] at z
      cases z
    obtain rfl : n = n' := by have := Option.some.inj e; omega
    refine ⟨fun z => ?_, fun fl' e _ _ => ?_⟩
    · rw [field_yes (by omega) (by omega)] at z
      cases z
    obtain rfl : fl = fl' := by have := Option.some.inj e; omega
    refine ⟨fun z => ?_, fun fa' e _ _ => ?_⟩
    · rw [field_yes (by omega) (by omega)] at z
      cases z
    obtain rfl : fa = fa' := by have := Option.some.inj e; omega
    refine ⟨fun z => ?_, fun c' e _ H9 pl b9 npl B9 => ⟨rfl, ?_⟩⟩
    · rw [std_poss st] at z
      cases z
    obtain rfl : c = c' := by have := Option.some.inj e; omega
    have s9 : Same H2 H9 := fun b o e => b9 b o (ne_of_none e np') (sD b o e)
    exact qq H9 p pl (s2.trans s9) (s2.free np') (s2.free (sD.free npl)) B9
end
/-! ### the others, as a set -/
theorem out_set (n : Nat) (ms : List Nat) : (outL n (ms.map fun (m : Nat) => (m : Int))).map V.int = setV ((List.range' 0 n).filter fun x => !decide (x ∈ ms)) := by
  unfold outL subL setV
  rw [List.map_map, List.range_eq_range']
  have e : (fun i : Nat => !decide ((i : Int) ∈ ms.map fun (m : Nat) => (m : Int))) = fun x : Nat => !decide (x ∈ ms) := by
    funext i
    congr 1
    refine decide_eq_decide.mpr ⟨fun h => ?_, fun h => List.mem_map.mpr ⟨i, h, rfl⟩⟩
    obtain ⟨y, hy, z⟩ := List.mem_map.mp h
    have : y = i := by omega
    rw [← this]
    exact hy
  rw [e]
  rfl
theorem compl_of {n : Nat} {ms : List Nat} (a : Asc ms) (h : ∀ x ∈ ms, x < n) : Compl n ms ((List.range' 0 n).filter fun x => !decide (x ∈ ms)) := ⟨a, (asc_range' n 0).filter _, h, fun x => by
  rw [List.mem_filter, mem_range0]
  simp⟩
theorem Compl.len {n : Nat} {I L : List Nat} (h : Compl n I L) : I.length + L.length = n := by
  have p : (I ++ L).Perm (List.range' 0 n) := by
    refine (List.perm_ext_iff_of_nodup ?_ (asc_nodup (asc_range' n 0))).mpr fun x => ?_
    · refine List.nodup_append.mpr ⟨asc_nodup h.aI, asc_nodup h.aL, fun x hx y hy e => ?_⟩
      subst e
      exact ((h.mem x).mp hy).2 hx
    · rw [List.mem_append, mem_range0, h.mem]
      constructor
      · rintro (z | z)
        · exact h.bI x z
        · exact z.1
      · intro z
        by_cases c : x ∈ I
        · exact .inl c
        · exact .inr ⟨z, c⟩
  have := p.length_eq
  rw [List.length_append, List.length_range'] at this
  exact this
/-! ### a cluster as a text -/
def deadS : Str := "dead"
def dashS : Str := "-"
/-- who is not live -/
def goneL (n : Nat) (L : List Nat) : List Nat := (List.range' 0 n).filter fun x => !decide (x ∈ L)
def headT (n fl fa c : Nat) : Str := Txt.join blankS [clusterS, natS n, natS fl, natS fa, natS c]
def deadT (ds : List Nat) : Str := Txt.join blankS (deadS :: if ds = [] then [dashS] else ds.map natS)
def clusT (n fl fa c : Nat) (L : List Nat) : Str := Txt.join lineS [headT n fl fa c, deadT (goneL n L)]
theorem natS_small {k : Nat} (h : k < 2 ^ 1000) : (natS k).length ≤ 400 := natS_len (by decide) (Nat.lt_trans h (by decide +kernel))
def spShowC (C : Addr) : Sp := fun vs H Q _ => ∃ (p pl : Addr) (n fl fa c : Nat) (L : List Nat) (qs : List (Nat × Nat)), vs = [.ref p] ∧ CluB C H p pl n fl fa c L qs ∧ n ≤ 60 ∧ fl ≤ 60 ∧ fa ≤ 60 ∧ c < 2 ^ 500 ∧ L.length ≤ 60 ∧ ∀ H', Same H H' → Q (.str (clusT n fl fa c L)) H'
section
variable {P : Program} {w : World} {K : PySem.W.Frag} {mg : Str → Option Value} {base : Heap}
theorem ok_showc (T : Txt K mg) {j : Nat} : FnOk P w K mg base CX0 (j + 2) T.fShowC T.fdShowC ["cluster"] (spShowC T.cClu) := by
  refine T.FShowC.ok scShowC (fun vs H Q E h => ?_) (fun cdv A outer s H vs Q E hr h => ?_)
  · obtain ⟨p, pl, n, fl, fa, c, L, qs, rfl, _⟩ := h
    rfl
  · obtain ⟨p, pl, n, fl, fa, c, L, qs, rfl, B, n60, fl60, fa60, cb, l60, q⟩ := h
    obtain ⟨⟨dx, tl, h1, h2⟩, us, h3, h4⟩ := id B
    refine ⟨_, pss_cons (ps_set (i := 1) scShowC.nd rfl (.inl rfl) (pe_call (ok_out T) hr (by rfl) T.gOut T.FOut.kp T.bOut .nil pass0 (pa_cons (pe_fld (pv 0) rfl) (pa_cons (pe_meth0 (pv 0) T.clClu T.mtCluLive (ok_clulive T) hr T.bCluLive .nil pass0) pa_nil)))) (C8.pss_cut (ps_if (pt_cmpR op_eq (pe_callB (call_lenK K) (by rfl) T.n_len PySem.boot_len (pa_cons (pv 1) pa_nil)) pe_int (nomark _)) (pss_one (ps_set (i := 1) scShowC.nd rfl (.inl rfl) (pe_tup (pa_cons pe_str pa_nil)))) pss_nil) (pss_cons (ps_set (i := 2) scShowC.nd rfl (.inl rfl) (pe_tup (pa_cons pe_str (pa_cons (pe_fld (pv 0) rfl) (pa_cons (pe_fld (pv 0) rfl) (pa_cons (pe_fld (pv 0) rfl) (pa_cons (pe_fld (pv 0) rfl) pa_nil))))))) (pss_one (ps_ret (pe_join pe_str (pe_lst (pa_cons (pe_call (ok_showr T) hr (by rfl) T.gShowR T.FShowR.kp T.bShowR .nil pass0 (pa_cons (pv 2) pa_nil)) (pa_cons (pe_call (ok_showr T) hr (by rfl) T.gShowR T.FShowR.kp T.bShowR .nil pass0 (pa_cons (pe_op (op_catS K) (pe_tup (pa_cons pe_str pa_nil)) (pv 1)) pa_nil)) pa_nil)))))))), ?_⟩
    have g60 : ∀ x ∈ goneL n L, x < 60 := fun x hx => by
      have := mem_range0.mp (List.mem_filter.mp hx).1
      omega
    have gl : (goneL n L).length ≤ 60 := by
      have := List.length_filter_le (fun x => !decide (x ∈ L)) (List.range' 0 n)
      rw [List.length_range'] at this
      exact Nat.le_trans this n60
    refine ⟨.ref p, rfl, p, T.cClu, dx, _, _, rfl, h1, T.clClu, T.naClu_n, fldC_n, .ref p, rfl, p, dx, _, rfl, h1, fldC_no (by decide +kernel), p, pl, n, fl, fa, c, L, qs, rfl, B, fun u hu => ?_⟩
    rw [setV_ints] at hu
    refine ⟨n, u, _, rfl, SqT.of hu, by omega, by rw [List.length_map]; omega, fun H1 t s1 nt ht => ?_⟩
    rw [out_set] at ht
    have ht : H1 t = some (.tup (setV (goneL n L))) := ht
    generalize hg : goneL n L = ds at ht g60 gl
    refine ⟨fun σ H2 => ∃ (t2 : Addr) (vs : List V) (ws : List Str), σ = [some (.ref p), some (.ref t2), none] ∧ Same H H2 ∧ H2 t2 = some (.tup vs) ∧ PySem.Paired WordV vs ws ∧ ws = (if ds = [] then [dashS] else ds.map natS) ∧ ws.length ≤ 60 ∧ ∀ w ∈ ws, w.length ≤ 400, ?_, ?_⟩
    · refine ⟨.ref t, rfl, t, _, rfl, .inr (SqT.of ht), rfl, _, rfl, ?_⟩
      rw [setV_len]
      cases ds with
      | nil =>
        refine iteT ⟨by show 1 ≤ sizeLine; decide, fun t2 n2 => ?_⟩
        refine ⟨t2, _, [dashS], rfl, s1.trans (same_new n2), upd_same, .cons (.inl rfl) .nil, (if_pos rfl).symm, by decide, fun w hw => ?_⟩
        rw [List.mem_singleton.mp hw]
        decide +kernel
      | cons d ds =>
        refine iteF ?_
        refine ⟨t, _, (d :: ds).map natS, rfl, s1, ht, ?_, (if_neg (List.cons_ne_nil _ _)).symm, by rw [List.length_map]; exact gl, fun w hw => ?_⟩
        · have key : ∀ l : List Nat, (∀ x ∈ l, x < 60) → PySem.Paired WordV (setV l) (l.map natS) := fun l => by
            induction l with
            | nil => exact fun _ => .nil
            | cons x l ih => exact fun h => .cons (.inr ⟨x, rfl, Nat.lt_trans (h x List.mem_cons_self) (by decide +kernel), rfl⟩) (ih fun y hy => h y (List.mem_cons_of_mem _ hy))
          exact key _ g60
        · obtain ⟨x, hx, rfl⟩ := List.mem_map.mp hw
          exact natS_small (Nat.lt_trans (g60 x hx) (by decide +kernel))
    rintro σ H2 ⟨t2, vs, ws, rfl, s2, ht2, pw, ew, wl, wb⟩
    have h1b := s2 _ _ h1
    refine ⟨.ref p, rfl, p, T.cClu, dx, _, _, rfl, h1b, T.clClu, T.naClu_n, fldC_n, .ref p, rfl, p, T.cClu, dx, _, _, rfl, h1b, T.clClu, T.naClu_failures, fldC_failures, .ref p, rfl, p, T.cClu, dx, _, _, rfl, h1b, T.clClu, T.naClu_factor, fldC_factor, .ref p, rfl, p, T.cClu, dx, _, _, rfl, h1b, T.clClu, T.naClu_count, fldC_count, (by show 5 ≤ sizeLine; decide), fun t3 n3 => ?_⟩
    have s3 := same_new (o := .tup [V.str "cluster", V.int n, V.int fl, V.int fa, V.int c]) n3
    have w1000 : ∀ k : Nat, k ≤ 60 → k < 2 ^ 1000 := fun k hk => Nat.lt_of_le_of_lt hk (by decide +kernel)
    have c1000 : c < 2 ^ 1000 := Nat.lt_trans cb (by decide +kernel)
    refine ⟨⟨lineS, rfl⟩, .ref t3, rfl, t3, _, [clusterS, natS n, natS fl, natS fa, natS c], rfl, SqT.of upd_same, .cons (.inl rfl) (.cons (.inr ⟨n, rfl, w1000 n n60, rfl⟩) (.cons (.inr ⟨fl, rfl, w1000 fl fl60, rfl⟩) (.cons (.inr ⟨fa, rfl, w1000 fa fa60, rfl⟩) (.cons (.inr ⟨c, rfl, c1000, rfl⟩) .nil)))), (by show 5 ≤ 1000; decide), fun w hw => ?_, fun H3 s4 => ?_⟩
    · simp only [List.mem_cons, List.not_mem_nil, or_false] at hw
      have k : ∀ k : Nat, k < 2 ^ 1000 → (natS k).length ≤ 1000 := fun k hk => Nat.le_trans (natS_small hk) (by decide)
      rcases hw with rfl | rfl | rfl | rfl | rfl
      · decide +kernel
      · exact k _ (w1000 n n60)
      · exact k _ (w1000 fl fl60)
      · exact k _ (w1000 fa fa60)
      · exact k _ c1000
    have ht3 := s4 _ _ (s3 _ _ ht2)
    refine ⟨(by show 1 ≤ sizeLine; decide), fun t5 n5 => ?_⟩
    have s5 := same_new (o := .tup [V.str "dead"]) n5
    have vl : vs.length ≤ 60 := by rw [PySem.Paired.length pw]; exact wl
    refine ⟨.ref t2, rfl, t5, t2, _, _, rfl, rfl, SqT.of upd_same, SqT.of (s5 _ _ ht3), ?_, fun t6 H4 s6 ht6 => ?_⟩
    · show 1 + vs.length ≤ sizeLine
      rw [sizeLine_eq]
      omega
    refine ⟨t6, _, deadS :: ws, rfl, ht6, .cons (.inl rfl) pw, by rw [List.length_cons]; omega, fun w hw => ?_, fun H5 s7 => ?_⟩
    · rcases List.mem_cons.mp hw with rfl | hw
      · decide +kernel
      · exact Nat.le_trans (wb w hw) (by decide)
    refine ⟨(by show 2 ≤ sizeLine; decide), fun l nl => ?_⟩
    refine ⟨lineS, l, [headT n fl fa c, Txt.join blankS (deadS :: ws)], rfl, rfl, .inl (SqL.of upd_same), ?_, ?_⟩
    · have j1 := join_len blankS [clusterS, natS n, natS fl, natS fa, natS c]
      have j2 := join_len blankS (deadS :: ws)
      have m1 := sum_le (f := fun x : Str => x.length) wb
      have a0 : clusterS.length = 7 := by decide +kernel
      have a1 : deadS.length = 4 := by decide +kernel
      have a2 : blankS.length = 1 := by decide +kernel
      have a3 : lineS.length = 1 := by decide +kernel
      have a4 := natS_small (w1000 n n60)
      have a5 := natS_small (w1000 fl fl60)
      have a6 := natS_small (w1000 fa fa60)
      have a7 := natS_small c1000
      simp only [List.map_cons, List.map_nil, List.sum_cons, List.sum_nil, List.length_cons, List.length_nil, a0, a1, a2, a3] at j1 j2 ⊢
      show (headT n fl fa c).length + _ + _ ≤ _
      unfold headT
      omega
    · have e : clusT n fl fa c L = Txt.join lineS [headT n fl fa c, Txt.join blankS (deadS :: ws)] := by
        unfold clusT deadT
        rw [hg, ← ew]
      rw [← e]
      exact q _ ((((((s2.trans s3).trans s4).trans s5).trans s6).trans s7).trans (same_new nl))
end
/-! ### rows_of -/
theorem kit_str {K : PySem.W.Frag} {t : String} (h : t ∈ tyNames) : PySem.W.kitOne K (.type t) (.type "str") = some (t == "str") := by
  rcases ty_cases h with rfl | rfl | rfl | rfl | rfl | rfl | rfl <;> exact kit_ty (by decide +kernel)
def spRowsOf (K : PySem.W.Frag) (CT : Addr) : Sp := fun vs H Q E => ∃ v : V, vs = [v] ∧
  ((∃ x : Str, v = .str x ∧ x.length + 2 ≤ sizeLine ∧ ∀ H' p, Same H H' → H p = none → H' p = some (.lst ((Txt.split x lineS).map V.str)) → Q (.ref p) H') ∨
   (∃ t, TyX K H v (.type t) ∧ t ∈ tyNames ∧ (t == "str") = false ∧ Raised "row" CT (.int 0) H E))
section
variable {P : Program} {w : World} {K : PySem.W.Frag} {mg : Str → Option Value} {base : Heap}
theorem ok_rowsof (T : Txt K mg) {j : Nat} : FnOk P w K mg base (L2.CX P w) (j + 3) T.fRowsOf T.fdRowsOf ["text"] (spRowsOf K T.cNoT) := by
  refine T.FRowsOf.okX scRowsOf (fun vs H Q E h => ?_) (fun cdv A outer s H vs Q E hr h => ?_)
  · obtain ⟨v, rfl, _⟩ := h
    rfl
  · obtain ⟨v, rfl, h⟩ := h
    refine ⟨_, pss_cons (ps_if (pt_not (pt_val (pe_callB (call_isiK1 K) (by rfl) T.n_isinstance (by decide +kernel) (pa_cons (pv 0) (pa_cons (pe_bltn (v := .ty "str") (by rfl) T.n_str (by decide +kernel) rfl) pa_nil))))) (pss_one (ps_raise rfl (takes_of rfl rfl rfl rfl) (pmk_oex T.eNoT.ox T.eNoT.iC T.eNoT.tI (ok_not T) hr T.bNoT .nil pass0 (by rfl) T.gcNoT (pa_cons pe_int pa_nil)))) pss_nil) (pss_one (ps_ret (pe_split (pv 0) pe_str))), ?_⟩
    rcases h with ⟨x, rfl, hl, q⟩ | ⟨t, ty, ht, ns, q⟩
    · refine ⟨_, rfl, .str x, .ty "str", _, _, _, rfl, .ty _, .base (.str x), kit_str (t := "str") (by decide), _, rfl, ?_⟩
      refine iteF ⟨_, rfl, ⟨x, rfl⟩, x, lineS, rfl, rfl, rfl, hl, fun a na => ?_⟩
      exact q _ a (same_new na) na upd_same
    · refine ⟨_, rfl, v, .ty "str", _, _, _, rfl, .ty _, ty, kit_str ht, _, rfl, ?_⟩
      rw [ns]
      refine iteT ⟨(by show 1 ≤ 1000; decide), fun a na => ⟨a, .int 0, rfl, upd_same, fun dx nd ne => ?_⟩⟩
      obtain ⟨e1, e2, e3, e4, e5⟩ := err_end (f := "row") (v := .int 0) na nd ne
      exact ⟨rfl, dx, _, e1, e2, e3, q _ dx e4 e5 e3⟩
end
/-! ### read_dead -/
def deadRowS : Str := "dead -"
/-- the row of those that are not live, read -/
def deadW (n fl : Nat) (row : Str) : Option (List Nat) :=
  if row = deadRowS then some []
  else if (Txt.split row blankS).head? = some deadS ∧ (Txt.split row blankS).tail ≠ [] ∧ (Txt.split row blankS).tail.all numW = true ∧ chk (n : Int) 0 (natD ((Txt.split row blankS).tail.map valW)) = true ∧ (Txt.split row blankS).tail.length ≤ fl then some ((Txt.split row blankS).tail.map valW)
  else none
theorem fold_lt52 : ∀ (l : List Nat) (a : Nat), PySem.NumText.AllDigits l → l.foldl (fun v c => v * 10 + (c - 48)) a < (a + 1) * 10 ^ l.length
  | [], a, _ => by simp
  | c :: l, a, h => by
    have h1 := h c List.mem_cons_self
    have ih := fold_lt52 l (a * 10 + (c - 48)) fun x hx => h x (List.mem_cons_of_mem _ hx)
    rw [List.foldl_cons]
    refine Nat.lt_of_lt_of_le ih ?_
    rw [List.length_cons, Nat.pow_succ, ← Nat.mul_assoc, Nat.mul_right_comm]
    exact Nat.mul_le_mul_right _ (by omega)
theorem valW_lt {x : Str} (h : numW x = true) : valW x < 2 ^ 500 := by
  obtain ⟨h1, h2, h3⟩ := numW_digits h
  have e := fold_lt52 x.cps.toList 0 h1
  rw [Nat.zero_add, Nat.one_mul] at e
  have l : x.cps.toList.length ≤ 40 := h3
  have : valW x = x.cps.toList.foldl (fun v c => v * 10 + (c - 48)) 0 := rfl
  rw [this]
  exact Nat.lt_of_lt_of_le e (Nat.le_trans (Nat.pow_le_pow_right (by decide) l) (by decide +kernel))
def spReadD (K : PySem.W.Frag) (C CT : Addr) : Sp := fun vs H Q E => ∃ (p pl : Addr) (n fl fa c : Nat) (L : List Nat) (qs : List (Nat × Nat)) (row : Str), vs = [.ref p, .str row] ∧ CluB C H p pl n fl fa c L qs ∧ row.length + 2 ≤ sizeLine ∧ (Txt.split row blankS).length ≤ 100 ∧
  (∀ ds, deadW n fl row = some ds → ∀ H' t, Same H H' → H' t = some (.tup (setV ds)) → Q (.ref t) H') ∧
  (deadW n fl row = none → Raised "row" CT (.int 1) H E)
section
variable {P : Program} {w : World} {K : PySem.W.Frag} {mg : Str → Option Value} {base : Heap}
theorem ok_readd (T : Txt K mg) {j : Nat} : FnOk P w K mg base (L2.CX P w) (j + 4) T.fReadD T.fdReadD ["cluster", "row"] (spReadD K T.cClu T.cNoT) := by
  refine T.FReadD.okX scReadD (fun vs H Q E h => ?_) (fun cdv A outer s H vs Q E hr h => ?_)
  · obtain ⟨p, pl, n, fl, fa, c, L, qs, row, rfl, _⟩ := h
    rfl
  · obtain ⟨p, pl, n, fl, fa, c, L, qs, row, rfl, B, rl, sl, q, q0⟩ := h
    have hu64 : (A.deeper (envOfC "read_dead" (defScope sReadD) s.heap.objs.size T.fReadD cdv)).units + 64 < cLine := by
      have := hr.un
      omega
    obtain ⟨⟨dx, tl, h1, h2⟩, us, h3, h4⟩ := id B
    refine ⟨_, pss_cons (ps_if (pt_cmpR op_eq (pv 1) pe_str (nomark _)) (pss_one (ps_ret (pe_tup pa_nil))) pss_nil) (pss_cons (ps_set (i := 2) scReadD.nd rfl (.inl rfl) (pe_split (pv 1) pe_str)) (pss_cons (ps_set (i := 3) scReadD.nd rfl (.inl rfl) (pe_call (ok_readn T) hr (by rfl) T.gReadN T.FReadN.kp T.bReadN .nil pass0 (pa_cons (pe_slice (sl_listK (K := K)) (pv 2) (po_some pe_int) po_none) pa_nil))) (pss_cons (ps_if (PW.pt (pw_or (pt_cmpR op_ne (pe_ix (ix_listK K) (pv 2) pe_int (fun _ _ => rfl)) pe_str (nomark _)) (pw_or (pt_cmpR (op_eqDK K hu64) (pv 3) (pe_tup pa_nil) (nomark _)) (pw_or (pt_not (pt_val (pe_call (ok_set T) hr (by rfl) T.gSet T.FSet.kp T.bSet .nil pass0 (pa_cons (pe_fld (pv 0) rfl) (pa_cons (pv 3) pa_nil))))) (pw_or1 (pt_cmpR op_gt (pe_callB (call_lenK K) (by rfl) T.n_len PySem.boot_len (pa_cons (pv 3) pa_nil)) (pe_fld (pv 0) rfl) (nomark _))))))) (pss_one (ps_raise rfl (takes_of rfl rfl rfl rfl) (pmk_oex T.eNoT.ox T.eNoT.iC T.eNoT.tI (ok_not T) hr T.bNoT .nil pass0 (by rfl) T.gcNoT (pa_cons pe_int pa_nil)))) pss_nil) (pss_one (ps_ret (pv 3)))))), ?_⟩
    refine ⟨_, rfl, rfl, _, rfl, ?_⟩
    refine ite2 (fun hb => ?_) (fun hb => ?_)
    · have e : row = deadRowS := by
        have h : V.str row = V.str "dead -" := of_decide_eq_true hb
        injection h
      exact ⟨Nat.zero_le _, fun t nt => q [] (if_pos e) _ t (same_new nt) upd_same⟩
    have ne : row ≠ deadRowS := fun e => hb (decide_eq_true (by rw [e]; rfl))
    have n1 := split_blank row
    have hsz : (Txt.split row blankS).length ≤ sizeLine := by rw [sizeLine_eq]; omega
    have hp : ∀ p ∈ Txt.split row blankS, p.length ≤ sizeLine := fun p h => by
      have := split_part h
      omega
    have ed : deadW n fl row = if (Txt.split row blankS).head? = some deadS ∧ (Txt.split row blankS).tail ≠ [] ∧ (Txt.split row blankS).tail.all numW = true ∧ chk (n : Int) 0 (natD ((Txt.split row blankS).tail.map valW)) = true ∧ (Txt.split row blankS).tail.length ≤ fl then some ((Txt.split row blankS).tail.map valW) else none := if_neg ne
    refine ⟨_, rfl, ⟨row, rfl⟩, row, blankS, rfl, rfl, rfl, rl, fun a na => ?_⟩
    have hA : (upd H a (.lst ((Txt.split row blankS).map V.str))) a = some (.lst ((Txt.split row blankS).map V.str)) := upd_same
    have sA := same_new (o := .lst ((Txt.split row blankS).map V.str)) na
    dsimp only [gName]
    generalize upd H a (.lst ((Txt.split row blankS).map V.str)) = HA at sA hA ⊢
    obtain ⟨w0, r, e0⟩ : ∃ w0 r, Txt.split row blankS = w0 :: r := by
      cases e : Txt.split row blankS with
      | nil => rw [e] at n1; exact absurd n1 (by decide)
      | cons w0 r => exact ⟨w0, r, rfl⟩
    rw [e0] at hA hsz hp ed sl
    rw [List.length_cons] at hsz sl
    have ed : deadW n fl row = if w0 = deadS ∧ r ≠ [] ∧ r.all numW = true ∧ chk (n : Int) 0 (natD (r.map valW)) = true ∧ r.length ≤ fl then some (r.map valW) else none := by
      rw [ed]
      show (if some w0 = some deadS ∧ r ≠ [] ∧ r.all numW = true ∧ chk (n : Int) 0 (natD (r.map valW)) = true ∧ r.length ≤ fl then some (r.map valW) else none) = _
      by_cases c : w0 = deadS ∧ r ≠ [] ∧ r.all numW = true ∧ chk (n : Int) 0 (natD (r.map valW)) = true ∧ r.length ≤ fl
      · rw [if_pos c, if_pos ⟨congrArg some c.1, c.2⟩]
      · rw [if_neg c, if_neg fun z => c ⟨Option.some.inj z.1, z.2⟩]
    refine ⟨.ref a, rfl, (1 : Int), rfl, a, _, rfl, SqL.of hA, fun b nb => ?_⟩
    rw [cut_tail (by rw [List.length_map, List.length_cons]; omega)]
    have sb := same_new (o := .lst (((w0 :: r).map V.str).tail)) nb
    have hA2 := sb _ _ hA
    have h1b := sb _ _ (sA _ _ h1)
    have hw0 : ∀ {H' : Hp} {v : V} {K2 : PySem.W.Frag}, Same (upd HA b (.lst (((w0 :: r).map V.str).tail))) H' → H' a = some (.lst ((w0 :: r).map V.str)) := fun {H' v K2} s => s _ _ hA2
    refine ⟨b, r, rfl, SqL.of upd_same, by omega, fun x hx => hp x (List.mem_cons_of_mem _ hx), fun ha H' t s' nt ht => ?_, fun ha => ?_⟩
    · have sH := (sA.trans sb).trans s'
      have hA3 := s' _ _ hA2
      refine ⟨.ref a, rfl, a, _, 0, .str w0, rfl, rfl, SqL.of hA3, atI_nat (j := 0) rfl, rfl, _, rfl, ?_⟩
      refine ite2 (fun hb1 => ?_) (fun hb1 => ?_)
      · have nw : w0 ≠ deadS := fun e => by
          rw [e] at hb1
          simp [deadS] at hb1
        refine iteT ⟨(by show 1 ≤ 1000; decide), fun a2 na2 => ⟨a2, .int 1, rfl, upd_same, fun dx2 nd2 ne2 => ?_⟩⟩
        obtain ⟨e1, e2, e3, e4, e5⟩ := err_end (f := "row") (v := .int 1) na2 nd2 ne2
        exact ⟨rfl, dx2, _, e1, e2, e3, (q0 (by rw [ed, if_neg (fun z => nw z.1)])).on (sH) _ dx2 e4 e5 e3⟩
      have ew : w0 = deadS := by
        refine Classical.byContradiction fun z => hb1 ?_
        have : ¬ (V.str w0 = V.str "dead") := fun e => z (by injection e)
        rw [decide_eq_false this]
        rfl
      have shr : Sh 60 80000 (.tuple (natD (r.map valW))) := (Sh.tup ((sh_nat (b := 500) (by decide) (by decide) (ms := r.map valW) fun x hx => by
        obtain ⟨y, hy, rfl⟩ := List.mem_map.mp hx
        exact valW_lt (List.all_eq_true.mp ha y hy)).mono (dp' := 0) (wt' := 60000) (by decide) (by rw [List.length_map]; omega))).mono (by decide) (by decide)
      refine ⟨.ref t, rfl, Nat.zero_le _, fun t2 nt2 => ?_⟩
      have s2 := same_new (o := .tup []) nt2
      refine ⟨.tuple (natD (r.map valW)), .tuple (natD []), .tup (SqT.of (s2 _ _ ht)) (dp_set _), .tup (SqT.of upd_same) .nil, shr.shaped (by decide), (⟨by decide +kernel, by decide +kernel, by decide +kernel, by decide +kernel, by decide +kernel⟩ : Sh 60 80000 (.tuple (natD []))).shaped (by decide), _, rfl, ?_⟩
      rw [eqv_natT]
      refine ite2 (fun hb2 => ?_) (fun hb2 => ?_)
      · have er : r = [] := List.map_eq_nil_iff.mp (of_decide_eq_true hb2)
        refine iteT ⟨(by show 1 ≤ 1000; decide), fun a2 na2 => ⟨a2, .int 1, rfl, upd_same, fun dx2 nd2 ne2 => ?_⟩⟩
        obtain ⟨e1, e2, e3, e4, e5⟩ := err_end (f := "row") (v := .int 1) na2 nd2 ne2
        exact ⟨rfl, dx2, _, e1, e2, e3, (q0 (by rw [ed, if_neg (fun z => z.2.1 er)])).on (sH.trans s2) _ dx2 e4 e5 e3⟩
      have nr : r ≠ [] := fun e => hb2 (decide_eq_true (by rw [e]; rfl))
      have h1c := s2 _ _ (s' _ _ h1b)
      refine ⟨.ref p, rfl, p, T.cClu, dx, _, _, rfl, h1c, T.clClu, T.naClu_n, fldC_n, .ref t, rfl, (n : Int), .ref t, _, rfl, .inl ⟨.tup (SqT.of (s2 _ _ ht)) (dp_set _), shr⟩, _, rfl, ?_⟩
      show if (!chk (n : Int) 0 (natD (r.map valW))) = true then _ else _
      cases hk : chk (n : Int) 0 (natD (r.map valW)) with
      | false =>
        refine iteT ⟨(by show 1 ≤ 1000; decide), fun a2 na2 => ⟨a2, .int 1, rfl, upd_same, fun dx2 nd2 ne2 => ?_⟩⟩
        obtain ⟨e1, e2, e3, e4, e5⟩ := err_end (f := "row") (v := .int 1) na2 nd2 ne2
        exact ⟨rfl, dx2, _, e1, e2, e3, (q0 (by rw [ed, if_neg (fun z => by rw [hk] at z; exact absurd z.2.2.2.1 (by decide))])).on (sH.trans s2) _ dx2 e4 e5 e3⟩
      | true =>
        refine iteF ?_
        refine ⟨.ref t, rfl, t, _, rfl, .inr (SqT.of (s2 _ _ ht)), .ref p, rfl, p, T.cClu, dx, _, _, rfl, h1c, T.clClu, T.naClu_failures, fldC_failures, _, _, rfl, rfl, _, rfl, ?_⟩
        rw [setV_len, List.length_map]
        refine ite2 (fun hb3 => ?_) (fun hb3 => ?_)
        · have lt : (fl : Int) < (r.length : Int) := of_decide_eq_true hb3
          refine ⟨(by show 1 ≤ 1000; decide), fun a2 na2 => ⟨a2, .int 1, rfl, upd_same, fun dx2 nd2 ne2 => ?_⟩⟩
          obtain ⟨e1, e2, e3, e4, e5⟩ := err_end (f := "row") (v := .int 1) na2 nd2 ne2
          exact ⟨rfl, dx2, _, e1, e2, e3, (q0 (by rw [ed, if_neg (fun z => by have := z.2.2.2.2; omega)])).on (sH.trans s2) _ dx2 e4 e5 e3⟩
        · have ge : ¬ (fl : Int) < (r.length : Int) := fun z => hb3 (decide_eq_true z)
          exact ⟨_, rfl, q _ (by rw [ed, if_pos ⟨ew, nr, ha, hk, by omega⟩]) _ t (sH.trans s2) (s2 _ _ ht)⟩
    · have sH := sA.trans sb
      have no : deadW n fl row = none := by rw [ed, if_neg (fun z => by rw [ha] at z; exact absurd z.2.2.1 (by decide))]
      refine ⟨.ref a, rfl, a, _, 0, .str w0, rfl, rfl, SqL.of hA2, atI_nat (j := 0) rfl, rfl, _, rfl, ?_⟩
      refine ite2 (fun hb1 => ?_) (fun hb1 => ?_)
      · skip
        refine iteT ⟨(by show 1 ≤ 1000; decide), fun a2 na2 => ⟨a2, .int 1, rfl, upd_same, fun dx2 nd2 ne2 => ?_⟩⟩
        obtain ⟨e1, e2, e3, e4, e5⟩ := err_end (f := "row") (v := .int 1) na2 nd2 ne2
        exact ⟨rfl, dx2, _, e1, e2, e3, (q0 (no)).on (sH) _ dx2 e4 e5 e3⟩
      refine ⟨.non, rfl, Nat.zero_le _, fun t2 nt2 => ?_⟩
      have s2 := same_new (o := .tup []) nt2
      have h1c := s2 _ _ h1b
      refine ⟨.none, .tuple (natD []), .non, .tup (SqT.of upd_same) .nil, (⟨by decide +kernel, by decide +kernel, by decide +kernel, by decide +kernel, by decide +kernel⟩ : Sh 60 80000 .none).shaped (by decide), (⟨by decide +kernel, by decide +kernel, by decide +kernel, by decide +kernel, by decide +kernel⟩ : Sh 60 80000 (.tuple (natD []))).shaped (by decide), _, rfl, ?_⟩
      rw [show PyData.eqv .none (.tuple (natD [])) = false by simp [PyData.eqv]]
      refine iteF ?_
      refine ⟨.ref p, rfl, p, T.cClu, dx, _, _, rfl, h1c, T.clClu, T.naClu_n, fldC_n, .non, rfl, (n : Int), .non, .none, rfl, .inl ⟨.non, ⟨by decide +kernel, by decide +kernel, by decide +kernel, by decide +kernel, by decide +kernel⟩⟩, _, rfl, ?_⟩
      show if (!false) = true then _ else _
      refine iteT ⟨(by show 1 ≤ 1000; decide), fun a2 na2 => ⟨a2, .int 1, rfl, upd_same, fun dx2 nd2 ne2 => ?_⟩⟩
      obtain ⟨e1, e2, e3, e4, e5⟩ := err_end (f := "row") (v := .int 1) na2 nd2 ne2
      exact ⟨rfl, dx2, _, e1, e2, e3, (q0 (no)).on (sH.trans s2) _ dx2 e4 e5 e3⟩
end
/-! ### read_cluster -/
/-- the cluster that a text tells of -/
def rowsS (x : Str) : List Str := Txt.split x lineS
def spReadC (K : PySem.W.Frag) (C : Addr) : Sp := fun vs H Q _ => ∃ (x : Str) (row row2 : Str) (n fl fa c : Nat) (ds : List Nat), vs = [.str x] ∧ x.length + 2 ≤ sizeLine ∧ Txt.split x lineS = [row, row2] ∧ fieldsW row clusterS 4 = some [n, fl, fa, c] ∧ rowC n fl fa c ∧ (Txt.split row2 blankS).length ≤ 100 ∧ deadW n fl row2 = some ds ∧ ds.length ≤ 60 ∧
  ∀ H' p pl, Same H H' → H p = none → H pl = none → CluB C H' p pl n fl fa c (goneL n ds) [] → Q (.ref p) H'
section
variable {P : Program} {w : World} {K : PySem.W.Frag} {mg : Str → Option Value} {base : Heap}
theorem ok_readc (T : Txt K mg) {j : Nat} : FnOk P w K mg base (L2.CX P w) (j + 9) T.fReadC T.fdReadC ["text"] (spReadC K T.cClu) := by
  refine T.FReadC.okX scReadC (fun vs H Q E h => ?_) (fun cdv A outer s H vs Q E hr h => ?_)
  · obtain ⟨x, row, row2, n, fl, fa, c, ds, rfl, _⟩ := h
    rfl
  · obtain ⟨x, row, row2, n, fl, fa, c, ds, rfl, xl, e0, hf, rc, sl, hd, dl, q⟩ := h
    refine ⟨_, pss_cons (ps_set (i := 1) scReadC.nd rfl (.inl rfl) (pe_call (ok_rowsof T) hr (by rfl) T.gRowsOf T.FRowsOf.kp T.bRowsOf .nil (passes_call (takes_of rfl rfl rfl rfl) (fun _ _ _ _ h => h)) (pa_cons (pv 0) pa_nil))) (pss_cons (ps_set (i := 2) scReadC.nd rfl (.inl rfl) (pe_call (ok_readh T) hr (by rfl) T.gReadH T.FReadH.kp T.bReadH .nil (passes_call (takes_of rfl rfl rfl rfl) (fun _ _ _ _ h => h)) (pa_cons (pe_ix (ix_listK K) (pv 1) pe_int (fun _ _ => rfl)) pa_nil))) (pss_cons (ps_if (pt_cmpR op_lt (pe_callB (call_lenK K) (by rfl) T.n_len PySem.boot_len (pa_cons (pv 1) pa_nil)) pe_int (nomark _)) (pss_one (ps_raise rfl (takes_of rfl rfl rfl rfl) (pmk_oex T.eNoT.ox T.eNoT.iC T.eNoT.tI (ok_not T) hr T.bNoT .nil pass0 (by rfl) T.gcNoT (pa_cons (pe_callB (call_lenK K) (by rfl) T.n_len PySem.boot_len (pa_cons (pv 1) pa_nil)) pa_nil)))) pss_nil) (pss_cons (ps_set (i := 3) scReadC.nd rfl (.inl rfl) (pe_call (ok_readd T) hr (by rfl) T.gReadD T.FReadD.kp T.bReadD .nil (passes_call (takes_of rfl rfl rfl rfl) (fun _ _ _ _ h => h)) (pa_cons (pv 2) (pa_cons (pe_ix (ix_listK K) (pv 1) pe_int (fun _ _ => rfl)) pa_nil)))) (pss_cons (ps_if (pt_cmpR op_gt (pe_callB (call_lenK K) (by rfl) T.n_len PySem.boot_len (pa_cons (pv 1) pa_nil)) pe_int (nomark _)) (pss_one (ps_raise rfl (takes_of rfl rfl rfl rfl) (pmk_oex T.eNoT.ox T.eNoT.iC T.eNoT.tI (ok_not T) hr T.bNoT .nil pass0 (by rfl) T.gcNoT (pa_cons pe_int pa_nil)))) pss_nil) (pss_cons (ps_fld (pv 2) (pe_call (ok_out T) hr (by rfl) T.gOut T.FOut.kp T.bOut .nil pass0 (pa_cons (pe_fld (pv 2) rfl) (pa_cons (pv 3) pa_nil))) rfl) (pss_one (ps_ret (pv 2)))))))), ?_⟩
    have hr1 : row.length + 2 ≤ sizeLine := by
      have := split_part (x := x) (y := lineS) (p := row) (by rw [e0]; exact List.mem_cons_self)
      omega
    have hr2 : row2.length + 2 ≤ sizeLine := by
      have := split_part (x := x) (y := lineS) (p := row2) (by rw [e0]; simp)
      omega
    refine ⟨.str x, rfl, .str x, rfl, .inl ⟨x, rfl, xl, fun H1 p s1 np hp => ?_⟩⟩
    rw [e0] at hp
    dsimp only [gName]
    refine ⟨.ref p, rfl, p, _, 0, .str row, rfl, rfl, SqL.of hp, atI_nat (j := 0) rfl, row, rfl, hr1, fun hf' => (by rw [hf] at hf'; cases hf'), fun n' fl' fa' c' hf' => ?_⟩
    rw [hf] at hf'
    obtain ⟨rfl, rfl, rfl, rfl⟩ : n = n' ∧ fl = fl' ∧ fa = fa' ∧ c = c' := by
      have := Option.some.inj hf'
      simp only [List.cons.injEq, and_true] at this
      exact this
    refine ⟨rc, fun H2 pc pl s2 npc npl B2 => ?_⟩
    have hp2 := s2 _ _ hp
    have n60 : n ≤ 60 := rc.2.1
    refine ⟨.ref p, rfl, p, _, rfl, .inl (SqL.of hp2), _, _, rfl, rfl, _, rfl, iteF ?_⟩
    refine ⟨_, rfl, .ref p, rfl, p, _, 1, .str row2, rfl, rfl, SqL.of hp2, atI_nat (j := 1) rfl, ?_⟩
    refine ⟨pc, pl, n, fl, fa, c, _, _, row2, rfl, B2, hr2, sl, fun ds' hd' H3 t s3 ht => ?_, fun hd' => (by rw [hd] at hd'; cases hd')⟩
    obtain rfl : ds = ds' := Option.some.inj (hd.symm.trans hd')
    have hp3 := s3 _ _ hp2
    have B3 := B2.same s3
    obtain ⟨⟨dx, tl, h1, h2⟩, us, h3, h4⟩ := id B3
    refine ⟨.ref p, rfl, p, _, rfl, .inl (SqL.of hp3), _, _, rfl, rfl, _, rfl, iteF ?_⟩
    have hti : H3 t = some (.tup ((ds.map fun (m : Nat) => (m : Int)).map V.int)) := by rw [← setV_ints]; exact ht
    refine ⟨.ref pc, rfl, pc, T.cClu, dx, _, _, rfl, h1, T.clClu, T.naClu_n, fldC_n, .ref t, rfl, n, t, _, rfl, SqT.of hti, by omega, by rw [List.length_map]; omega, fun H4 t4 s4 nt4 ht4 => ?_⟩
    rw [out_set] at ht4
    have ht4 : H4 t4 = some (.tup (setV (goneL n ds))) := ht4
    refine ⟨.ref pc, rfl, pc, T.cClu, dx, _, rfl, s4 _ _ h1, T.clClu, T.naClu_living, (by show 6 < 1000; decide), ?_⟩
    obtain ⟨B5, b5⟩ := B3.turn h1 s4 ht4 nt4
    have k : Same H H3 := (s1.trans s2).trans s3
    have kp : H pc = none := s1.free npc
    exact ⟨_, rfl, q _ pc pl (fun b o e => b5 b o (ne_of_none e kp) (k b o e)) kp (s1.free npl) B5⟩
end
/-! ### the desk's words -/
def formsL : List (Str × Nat) := [("fail", 1), ("recover", 1), ("owners", 1), ("successor", 2), ("load", 1), ("live", 0), ("copied", 0), ("changes", 0), ("undo", 0), ("list", 1), ("text", 0)]
def formV (z : Str) : V := match formsL.lookup z with | some k => .int (k : Int) | none => .non
/-- the dict of the words, as it is written -/
structure FormsD (K : PySem.W.Frag) (w : World) (d : Addr) (es : Array DictEntry) (en : Nat) : Prop where
  dict : KDict K w d es en
  keys : es.toList.map He.keyOf = He.keysIn w.params (formsL.map (·.1))
  vals : ∀ q ∈ formsL, ∃ t : Tok, PySem.W.nsIn K d q.1 = some (some (.int (q.2 : Int) t))
theorem forms_keys {K : PySem.W.Frag} {d : Addr} {es : Array DictEntry} {en : Nat} {w : World} {ks : List Str} (D : KDict K w d es en) (h : He.dicW K d = some (He.keysIn w.params ks)) : es.toList.map He.keyOf = He.keysIn w.params ks := by
  unfold He.dicW at h
  rw [D.at_] at h
  simpa [D.low] using h
theorem forms_out {K : PySem.W.Frag} {d : Addr} {es : Array DictEntry} {en : Nat} {w : World} {z : Str} (F : FormsD K w d es en) (hz : formsL.lookup z = none) : PySem.W.nsIn K d z = some none := by
  have no : ∀ e ∈ es.toList, ∃ k t, e.key = .str k t ∧ k ≠ z := fun e he => by
    have m : He.keyOf e ∈ He.keysIn w.params (formsL.map (·.1)) := by
      rw [← F.keys]
      exact List.mem_map_of_mem he
    obtain ⟨k, hk, ek⟩ := List.mem_map.mp m
    unfold He.keyOf at ek
    split at ek
    · rename_i x t q
      obtain ⟨rfl, _⟩ := Prod.mk.inj (Option.some.inj ek)
      refine ⟨k, t, q, fun e2 => ?_⟩
      rw [← e2] at hz
      obtain ⟨q2, h2, e3⟩ := List.mem_map.mp hk
      rw [List.lookup_eq_none_iff] at hz
      have := hz q2 h2
      rw [e3] at this
      simp at this
    · cases ek
  unfold PySem.W.nsIn
  rw [F.dict.at_]
  have f1 : es.toList.find? (fun e => e.key.isStr z) = none := List.find?_eq_none.mpr fun e he => by
    obtain ⟨k, t, e1, e2⟩ := no e he
    rw [e1]
    simpa [Value.isStr] using e2
  have f2 : es.toList.any (fun e => e.refKey) = false := List.any_eq_false.mpr fun e he => by
    obtain ⟨k, t, e1, e2⟩ := no e he
    simp [DictEntry.refKey, e1]
  dsimp only
  rw [f1, f2]
  rfl
theorem forms_get {K : PySem.W.Frag} {d : Addr} {es : Array DictEntry} {en : Nat} {w : World} (F : FormsD K w d es en) (z : Str) : GetKD K d z (formV z) := by
  unfold formV
  cases h : formsL.lookup z with
  | none => exact ⟨none, forms_out F h, rfl⟩
  | some k =>
    obtain ⟨t, ht⟩ := F.vals (z, k) ((by obtain ⟨l1, l2, e, _⟩ := List.lookup_eq_some_iff.mp h; rw [e]; simp))
    exact ⟨_, ht, ⟨t, rfl⟩⟩
/-! ### NoLine's __init__ -/
section
variable {P : Program} {w : World} {K : PySem.W.Frag} {mg : Str → Option Value} {base : Heap}
theorem ok_noli (T : Txt K mg) {j : Nat} : FnOk P w K mg base CX0 (j + 1) T.fNoLi T.fdNoLi ["self", "value"] (spErr K T.cNoLi "value") := by
  refine T.FNoLi.ok scNoLi (fun vs H Q E h => ?_) (fun cdv A outer s H vs Q E hr h => ?_)
  · obtain ⟨a, v, rfl, _⟩ := h
    rfl
  · obtain ⟨a, v, rfl, ha, q⟩ := h
    refine ⟨_, pss_cons (ps_expr (pe_baseInit (by rfl) T.gcBase T.btBase.sp T.btBase.ty T.btBase.rd T.btBase.fc (pa_cons (pv 0) (pa_cons pe_str pa_nil)))) (pss_one (ps_ost (pv 0) (pv 1))), ?_⟩
    refine ⟨.ref a, rfl, a, T.cNoLi, _, rfl, (by show 1 ≤ 1000; decide), T.eNoLi.ox, ha, ?_⟩
    refine ⟨v, rfl, .ref a, rfl, a, T.cNoLi, rfl, T.eNoLi.ox, T.eNoLi.no, .inl ⟨ha, fun dx nd ne => q dx nd ne⟩⟩
end
/-! ### a line read -/
theorem cut_dropD {xs : List V} {j : Nat} (h : j ≤ xs.length) : cutV xs (some (j : Int)) none = xs.drop j := by
  unfold cutV
  rw [show HT.sIx xs.length 0 (some (j : Int)) = min j xs.length from HT.sIx_nat xs.length 0 j, show HT.sIx xs.length xs.length none = xs.length from rfl, Nat.min_eq_left h]
  exact List.take_of_length_le (by rw [List.length_drop]; exact Nat.le_refl _)
theorem formV_scal (z : Str) (i : Int) : scal (formV z) (.int i) = true := by
  unfold formV
  split <;> rfl
theorem formV_eq (z : Str) (k : Nat) : decide (formV z = .int (k : Int)) = decide (formsL.lookup z = some k) := by
  refine decide_eq_decide.mpr ?_
  unfold formV
  cases formsL.lookup z with
  | none => exact ⟨fun e => (by cases e), fun e => (by cases e)⟩
  | some m => exact ⟨fun e => (by injection e with e; rw [Int.ofNat.inj e]), fun e => (by rw [Option.some.inj e])⟩
/-- the first word and the integers of a line, if it has one of the forms -/
def lineW (x : Str) : Option (Str × List Nat) := match Txt.split x blankS with
  | [] => none
  | z :: ws => if ws.all numW = true ∧ formsL.lookup z = some ws.length then some (z, ws.map valW) else none
def spReadL (K : PySem.W.Frag) (CN : Addr) : Sp := fun vs H Q E => ∃ v : V, vs = [v] ∧
  ((∃ x : Str, v = .str x ∧ x.length + 2 ≤ sizeLine ∧ (lineW x = none → Raised "value" CN (.str x) H E) ∧
      ∀ z ks, lineW x = some (z, ks) → ∀ H' t e, Same H H' → H t = none → H' t = some (.tup [.str z, .ref e]) → H' e = some (.tup (setV ks)) → Q (.ref t) H') ∨
   (∃ t, TyX K H v (.type t) ∧ t ∈ tyNames ∧ (t == "str") = false ∧ Raised "value" CN v H E))
section
variable {P : Program} {w : World} {K : PySem.W.Frag} {mg : Str → Option Value} {base : Heap}
theorem ok_readl (T : Txt K mg) {es : Array DictEntry} {en : Nat} (D : FormsD K w T.dForms es en) {j : Nat} : FnOk P w K mg base (L2.CX P w) (j + 5) T.fReadL T.fdReadL ["line"] (spReadL K T.cNoLi) := by
  refine T.FReadL.okX scReadL (fun vs H Q E h => ?_) (fun cdv A outer s H vs Q E hr h => ?_)
  · obtain ⟨v, rfl, _⟩ := h
    rfl
  · obtain ⟨v, rfl, h⟩ := h
    refine ⟨_, pss_cons (ps_if (pt_not (pt_val (pe_callB call_isi (by rfl) T.n_isinstance (by decide +kernel) (pa_cons (pv 0) (pa_cons (pe_bltn (v := .ty "str") (by rfl) T.n_str (by decide +kernel) rfl) pa_nil))))) (pss_one (ps_raise rfl (takes_of rfl rfl rfl rfl) (pmk_oex T.eNoLi.ox T.eNoLi.iC T.eNoLi.tI (ok_noli T) hr T.bNoLi .nil pass0 (by rfl) T.gcNoLi (pa_cons (pv 0) pa_nil)))) pss_nil) (pss_cons (ps_set (i := 1) scReadL.nd rfl (.inl rfl) (pe_split (pv 0) pe_str)) (pss_cons (ps_set (i := 2) scReadL.nd rfl (.inl rfl) (pe_call (ok_readn T) hr (by rfl) T.gReadN T.FReadN.kp T.bReadN .nil pass0 (pa_cons (pe_slice (sl_listK (K := K)) (pv 1) (po_some pe_int) po_none) pa_nil))) (pss_cons (ps_if (PW.pt (pw_or (pt_cmpR op_isN (pv 2) pe_non (nomark _)) (pw_or1 (pt_cmpR op_ne (pe_getKD D.dict (by rfl) T.gForms (pa_cons (pe_ix (ix_listK K) (pv 1) pe_int (fun _ _ => rfl)) pa_nil)) (pe_callB (call_lenK K) (by rfl) T.n_len PySem.boot_len (pa_cons (pv 2) pa_nil)) (nomark _))))) (pss_one (ps_raise rfl (takes_of rfl rfl rfl rfl) (pmk_oex T.eNoLi.ox T.eNoLi.iC T.eNoLi.tI (ok_noli T) hr T.bNoLi .nil pass0 (by rfl) T.gcNoLi (pa_cons (pv 0) pa_nil)))) pss_nil) (pss_one (ps_ret (pe_tup (pa_cons (pe_ix (ix_listK K) (pv 1) pe_int (fun _ _ => rfl)) (pa_cons (pv 2) pa_nil)))))))), ?_⟩
    rcases h with ⟨x, rfl, hl, q0, q⟩ | ⟨t, ty, ht, ns, q⟩
    rotate_left
    · refine ⟨_, rfl, v, .ty "str", _, _, _, rfl, .ty _, ty, kit_str ht, _, rfl, ?_⟩
      rw [ns]
      refine iteT ⟨v, rfl, (by show 1 ≤ 1000; decide), fun a na => ⟨a, v, rfl, upd_same, fun dx nd ne => ?_⟩⟩
      obtain ⟨e1, e2, e3, e4, e5⟩ := err_end (f := "value") (v := v) na nd ne
      exact ⟨rfl, dx, _, e1, e2, e3, q _ dx e4 e5 e3⟩
    refine ⟨_, rfl, .str x, .ty "str", _, _, _, rfl, .ty _, .base (.str x), kit_str (t := "str") (by decide), _, rfl, ?_⟩
    refine iteF ⟨_, rfl, ⟨x, rfl⟩, x, blankS, rfl, rfl, rfl, hl, fun a na => ?_⟩
    obtain ⟨z, ws, hsp⟩ : ∃ z ws, Txt.split x blankS = z :: ws := List.exists_cons_of_length_pos (split_blank x)
    have parts : ∀ y ∈ z :: ws, y.length ≤ x.length := fun y hy => split_part (y := blankS) (by rw [hsp]; exact hy)
    have many : (z :: ws).length ≤ x.length + 2 := by rw [← hsp]; exact PyProof.Rows.split_le x blankS
    rw [hsp]
    have sA := same_new (o := .lst ((z :: ws).map V.str)) na
    have hA : (upd H a (.lst ((z :: ws).map V.str))) a = some (.lst ((z :: ws).map V.str)) := upd_same
    dsimp only [gName]
    generalize upd H a (.lst ((z :: ws).map V.str)) = HA at sA hA ⊢
    refine ⟨.ref a, rfl, _, rfl, a, _, rfl, SqL.of hA, fun b nb => ?_⟩
    have ec : cutV ((z :: ws).map V.str) (some 1) none = ws.map V.str := cut_dropD (j := 1) (by simp)
    have sB := same_new (o := .lst (cutV ((z :: ws).map V.str) (some 1) none)) nb
    have hB : (upd HA b (.lst (cutV ((z :: ws).map V.str) (some 1) none))) b = some (.lst (ws.map V.str)) := by rw [upd_same, ec]
    have sAB := sA.trans sB
    dsimp only [gName]
    generalize upd HA b (.lst (cutV ((z :: ws).map V.str) (some 1) none)) = HB at sB hB sAB ⊢
    have hAB := sB _ _ hA
    have hln : lineW x = if ws.all numW = true ∧ formsL.lookup z = some ws.length then some (z, ws.map valW) else none := by
      unfold lineW
      rw [hsp]
    have raise : ∀ (σ : L2.St) (HC : Hp), σ[0]? = some (some (.str x)) → Same HB HC → lineW x = none → (tMkO T.cNoLi (spErr K T.cNoLi "value") [] (tCons (tVar 0) tNil)) σ HC (fun cls d H' => E cls d H') := fun σ HC h0 sC hn => by
      refine ⟨.str x, h0, (by show 1 ≤ 1000; decide), fun a na => ⟨a, .str x, rfl, upd_same, fun dx nd ne => ?_⟩⟩
      obtain ⟨e1, e2, e3, e4, e5⟩ := err_end (f := "value") (v := .str x) na nd ne
      exact ⟨rfl, dx, _, e1, e2, e3, q0 hn _ dx (sAB.trans (sC.trans e4)) e5 (sAB.free (sC.free e3))⟩
    refine ⟨b, ws, rfl, SqL.of hB, by rw [List.length_cons] at many; omega, fun y hy => Nat.le_trans (parts y (List.mem_cons_of_mem _ hy)) (by omega), fun hall H2 e s2 ne he => ?_, fun hall => ?_⟩
    rotate_left
    · refine ⟨_, rfl, rfl, _, rfl, iteT ?_⟩
      refine iteT (raise _ HB rfl (Same.refl _) ?_)
      rw [hln, if_neg fun z => by rw [hall] at z; cases z.1]
    have hA2 := s2 _ _ hAB
    refine ⟨.ref e, rfl, rfl, _, rfl, iteF ?_⟩
    refine ⟨.ref a, rfl, a, _, 0, V.str z, rfl, rfl, SqL.of hA2, L2.atI_nat (j := 0) rfl, ?_⟩
    refine ⟨z, formV z, rfl, forms_get D z, ?_⟩
    refine ⟨.ref e, rfl, e, _, rfl, .inr (SqT.of he), formV_scal _ _, _, rfl, ?_⟩
    rw [setV_len, List.length_map, formV_eq]
    by_cases hf : formsL.lookup z = some ws.length
    · rw [decide_eq_true hf]
      refine iteF ?_
      refine ⟨.ref a, rfl, a, _, 0, V.str z, rfl, rfl, SqL.of hA2, L2.atI_nat (j := 0) rfl, _, rfl, (by show 2 ≤ sizeLine; decide), fun t nt => ?_⟩
      have s3 := same_new (o := .tup [V.str z, V.ref e]) nt
      rw [if_pos ⟨hall, hf⟩] at hln
      exact q z _ hln _ t e (sAB.trans (s2.trans s3)) (sAB.free (s2.free nt)) upd_same (s3 _ _ he)
    · rw [decide_eq_false hf]
      refine iteT (raise _ H2 rfl s2 ?_)
      rw [hln, if_neg fun z => hf z.2]
end
/-! ### NotDead's __init__ -/
section
variable {P : Program} {w : World} {K : PySem.W.Frag} {mg : Str → Option Value} {base : Heap}
theorem ok_notd (T : Txt K mg) {j : Nat} : FnOk P w K mg base CX0 (j + 1) T.fNotD T.fdNotD ["self", "value"] (spErr K T.cNotD "value") := by
  refine T.FNotD.ok scNotD (fun vs H Q E h => ?_) (fun cdv A outer s H vs Q E hr h => ?_)
  · obtain ⟨a, v, rfl, _⟩ := h
    rfl
  · obtain ⟨a, v, rfl, ha, q⟩ := h
    refine ⟨_, pss_cons (ps_expr (pe_baseInit (by rfl) T.gcBase T.btBase.sp T.btBase.ty T.btBase.rd T.btBase.fc (pa_cons (pv 0) (pa_cons pe_str pa_nil)))) (pss_one (ps_ost (pv 0) (pv 1))), ?_⟩
    refine ⟨.ref a, rfl, a, T.cNotD, _, rfl, (by show 1 ≤ 1000; decide), T.eNotD.ox, ha, ?_⟩
    refine ⟨v, rfl, .ref a, rfl, a, T.cNotD, rfl, T.eNotD.ox, T.eNotD.no, .inl ⟨ha, fun dx nd ne => q dx nd ne⟩⟩
end
/-! ### failures and recoveries -/
/-- what a failure copies -/
def failC (fa c u : Nat) : Nat := if fa < u then loadC fa c u else 0
def deadB (n : Nat) (L : List Nat) : Option Int → Bool
  | some c => decide (0 ≤ c) && decide (c < (n : Int)) && !decide (c ∈ L.map fun (m : Nat) => (m : Int))
  | none => false
theorem deadB_some {n : Nat} {L : List Nat} {o : Option Int} (h : deadB n L o = true) : ∃ x : Nat, o = some (x : Int) ∧ x < n ∧ x ∉ L := by
  cases o with
  | none => cases h
  | some c =>
    have h2 : (decide (0 ≤ c) && decide (c < (n : Int)) && !decide (c ∈ L.map fun (m : Nat) => (m : Int))) = true := h
    simp only [Bool.and_eq_true, decide_eq_true_eq, Bool.not_eq_true', decide_eq_false_iff_not] at h2
    obtain ⟨⟨a, b⟩, d⟩ := h2
    obtain ⟨x, rfl⟩ := Int.eq_ofNat_of_zero_le a
    exact ⟨x, rfl, by omega, fun z => d (List.mem_map.mpr ⟨x, z, rfl⟩)⟩
theorem deadB_nat {n : Nat} {L : List Nat} {x : Nat} (h : x < n) (h2 : x ∉ L) : deadB n L (some (x : Int)) = true := by
  show (decide (0 ≤ (x : Int)) && decide ((x : Int) < (n : Int)) && !decide ((x : Int) ∈ L.map fun (m : Nat) => (m : Int))) = true
  rw [decide_eq_true (show 0 ≤ (x : Int) by omega), decide_eq_true (show (x : Int) < (n : Int) by omega), decide_eq_false (fun z => ?_)]
  · rfl
  · obtain ⟨m, hm, e⟩ := List.mem_map.mp z
    obtain rfl : m = x := by omega
    exact h2 hm
def spCluFail (K : PySem.W.Frag) (C CL CF : Addr) : Sp := fun vs H Q E => ∃ (p pl : Addr) (n fl fa c : Nat) (L : List Nat) (qs : List (Nat × Nat)) (v : V) (o : Option Int), vs = [.ref p, v] ∧ CluB C H p pl n fl fa c L qs ∧ CluOk n fl fa c L ∧ CountV K H v o ∧ qs.length ≤ 100000 ∧
  (liveB L o = false → Raised "value" CL v H E) ∧ (liveB L o = true → L.length + fl < n + 1 → Raised "alive" CF (.int (L.length : Nat)) H E) ∧
  (∀ x : Nat, o = some (x : Int) → x ∈ L → n + 1 ≤ L.length + fl → ∀ H', But2 p pl H H' → CluB C H' p pl n fl fa c (turnL L x) (qs ++ [(x, lastC qs + failC fa c L.length)]) → Q (.int (failC fa c L.length : Nat)) H')
def spCluRec (K : PySem.W.Frag) (C CD : Addr) : Sp := fun vs H Q E => ∃ (p pl : Addr) (n fl fa c : Nat) (L : List Nat) (qs : List (Nat × Nat)) (v : V) (o : Option Int), vs = [.ref p, v] ∧ CluB C H p pl n fl fa c L qs ∧ CluOk n fl fa c L ∧ CountV K H v o ∧ qs.length ≤ 100000 ∧
  (deadB n L o = false → Raised "value" CD v H E) ∧
  (∀ x : Nat, o = some (x : Int) → x < n → x ∉ L → ∀ H', But2 p pl H H' → CluB C H' p pl n fl fa c (turnL L x) (qs ++ [(x, lastC qs + loadC fa c (L.length + 1))]) → Q (.int (loadC fa c (L.length + 1) : Nat)) H')
section
variable {P : Program} {w : World} {K : PySem.W.Frag} {mg : Str → Option Value} {base : Heap}
theorem ok_clufail (T : Txt K mg) {j : Nat} : FnOk P w K mg base (L2.CX P w) (j + 8) T.fCluFail T.fdCluFail ["self", "server"] (spCluFail K T.cClu T.cNotL T.cTooF) := by
  refine T.FCluFail.okX scCluFail (fun vs H Q E h => ?_) (fun cdv A outer s H vs Q E hr h => ?_)
  · obtain ⟨p, pl, n, fl, fa, c, L, qs, v, o, rfl, _⟩ := h
    rfl
  · obtain ⟨p, pl, n, fl, fa, c, L, qs, v, o, rfl, B, ok, hv, hq, q1, q2, q3⟩ := h
    obtain ⟨⟨dx, tl, h1, h2⟩, us, h3, h4⟩ := id B
    refine ⟨_, pss_cons (ps_expr (pe_meth (pv 0) T.clClu T.mtCluCheckCanFail (ok_clucheckcanfail T) hr T.bCluCheckCanFail .nil (passes_call (takes_of rfl rfl rfl rfl) (fun _ _ _ _ h => h)) (pa_cons (pv 1) pa_nil))) (C8.pss_cut (ps_set (i := 2) scCluFail.nd rfl (.inl rfl) (pe_ifExp (pt_cmpR op_gt (pe_callB (call_lenK K) (by rfl) T.n_len PySem.boot_len (pa_cons (pe_fld (pv 0) rfl) pa_nil)) (pe_fld (pv 0) rfl) (nomark _)) (pe_meth (pv 0) T.clClu T.mtCluLoad (ok_cluload T) hr T.bCluLoad .nil (passes_call (takes_of rfl rfl rfl rfl) (fun _ _ _ _ h => h)) (pa_cons (pv 1) pa_nil)) pe_int)) (pss_cons (ps_expr (pe_meth (pv 0) T.clClu T.mtCluTurn (ok_cluturn T) hr T.bCluTurn .nil pass0 (pa_cons (pv 1) pa_nil))) (pss_cons (ps_expr (pe_bm PySem.F.plainAttrs_list PySem.F.slot_list_append PySem.F.type_list_append mt_append (pe_fld (pv 0) rfl) (pa_cons (pe_tup (pa_cons (pv 1) (pa_cons (pe_op op_add (pe_meth0 (pv 0) T.clClu T.mtCluCopied (ok_clucopied T) hr T.bCluCopied .nil pass0) (pv 2)) pa_nil))) pa_nil))) (pss_one (ps_ret (pv 2)))))), ?_⟩
    refine ⟨.ref p, rfl, p, dx, _, rfl, h1, fldC_no (by decide +kernel), v, rfl, p, pl, n, fl, fa, c, L, qs, v, o, rfl, B, ok, hv, q1, q2, fun hl few => ?_⟩
    obtain ⟨x, rfl, hx⟩ := liveB_some hl
    obtain rfl := hv.isInt
    have q4 := q3 x rfl hx few
    refine ⟨fun σ H1 => σ = [some (.ref p), some (.int (x : Int)), some (.int (failC fa c L.length : Nat))] ∧ Same H H1, ?_, ?_⟩
    · refine ⟨.ref p, rfl, p, T.cClu, dx, _, _, rfl, h1, T.clClu, T.naClu_living, fldC_living, tl, _, rfl, .inr (SqT.of h2), .ref p, rfl, p, T.cClu, dx, _, _, rfl, h1, T.clClu, T.naClu_factor, fldC_factor, _, _, rfl, rfl, _, rfl, ?_⟩
      rw [setV_len]
      unfold failC
      refine ite2 (fun hb => ?_) (fun hb => ?_)
      · have hf : (fa : Int) < (L.length : Int) := of_decide_eq_true hb
        rw [if_pos (show fa < L.length by omega)]
        exact ⟨.ref p, rfl, p, dx, _, rfl, h1, fldC_no (by decide +kernel), _, rfl, p, pl, n, fl, fa, c, L, qs, .int x, some (x : Int), rfl, B, ok, .inl ⟨_, rfl, rfl⟩, fun z => absurd ((liveB_nat hx).symm.trans z) (by decide), fun _ H1 s1 => ⟨rfl, s1⟩⟩
      · have hf : ¬ (fa : Int) < (L.length : Int) := fun z => hb (decide_eq_true z)
        rw [if_neg (show ¬ fa < L.length by omega)]
        exact ⟨rfl, Same.refl _⟩
    · rintro σ H1 ⟨rfl, s1⟩
      have B1 := B.same s1
      refine ⟨.ref p, rfl, p, dx, _, rfl, s1 _ _ h1, fldC_no (by decide +kernel), _, rfl, p, pl, n, fl, fa, c, L, qs, x, rfl, B1, ok.sixty, fun H2 b2 B2 => ?_⟩
      obtain ⟨⟨dx2, tl2, g1, g2⟩, us2, g3, g4⟩ := id B2
      have ul := g4.len
      refine ⟨.ref p, rfl, p, T.cClu, dx2, _, _, rfl, g1, T.clClu, T.naClu_past, fldC_past, .inl ⟨rfl, _, SqL.of g3⟩, _, rfl, .ref p, rfl, p, dx2, _, rfl, g1, fldC_no (by decide +kernel), p, pl, n, fl, fa, c, turnL L x, qs, rfl, B2, _, rfl, _, _, rfl, rfl, (by show 2 ≤ sizeLine; decide), fun t nt => ?_⟩
      dsimp only
      rw [show ((lastC qs : Nat) : Int) + ((failC fa c L.length : Nat) : Int) = ((lastC qs + failC fa c L.length : Nat) : Int) from rfl]
      have s3 := same_new (o := .tup [V.int (x : Int), V.int ((lastC qs + failC fa c L.length : Nat) : Int)]) nt
      obtain ⟨B3, b3⟩ := B2.push s3 nt upd_same (s3 _ _ g3) g4
      exact ⟨pl, _, _, rfl, rfl, s3 _ _ g3, by rw [ul, sizeLine_eq]; omega, _, rfl, q4 _ (((But2.ofS s1).trans (But2.of b2)).trans (But2.of' b3)) B3⟩
theorem ok_clurecover (T : Txt K mg) {j : Nat} : FnOk P w K mg base (L2.CX P w) (j + 8) T.fCluRecover T.fdCluRecover ["self", "server"] (spCluRec K T.cClu T.cNotD) := by
  refine T.FCluRecover.okX scCluRecover (fun vs H Q E h => ?_) (fun cdv A outer s H vs Q E hr h => ?_)
  · obtain ⟨p, pl, n, fl, fa, c, L, qs, v, o, rfl, _⟩ := h
    rfl
  · obtain ⟨p, pl, n, fl, fa, c, L, qs, v, o, rfl, B, ok, hv, hq, q1, q2⟩ := h
    obtain ⟨⟨dx, tl, h1, h2⟩, us, h3, h4⟩ := id B
    refine ⟨_, pss_cons (ps_if (PW.pt (pw_or (pt_not (pt_val (pe_call (ok_plain T) hr (by rfl) T.gPlain T.FPlain.kp T.bPlain .nil pass0 (pa_cons (pv 1) pa_nil)))) (pw_or (pt_cmpR op_lt (pv 1) pe_int (nomark _)) (pw_or (pt_cmpR op_ge (pv 1) (pe_fld (pv 0) rfl) (nomark _)) (pw_or1 (pt_cmpR (op_inK K) (pv 1) (pe_fld (pv 0) rfl) (by rfl))))))) (pss_one (ps_raise rfl (takes_of rfl rfl rfl rfl) (pmk_oex T.eNotD.ox T.eNotD.iC T.eNotD.tI (ok_notd T) hr T.bNotD .nil pass0 (by rfl) T.gcNotD (pa_cons (pv 1) pa_nil)))) pss_nil) (pss_cons (ps_expr (pe_meth (pv 0) T.clClu T.mtCluTurn (ok_cluturn T) hr T.bCluTurn .nil pass0 (pa_cons (pv 1) pa_nil))) (pss_cons (ps_set (i := 2) scCluRecover.nd rfl (.inl rfl) (pe_meth (pv 0) T.clClu T.mtCluLoad (ok_cluload T) hr T.bCluLoad .nil (passes_call (takes_of rfl rfl rfl rfl) (fun _ _ _ _ h => h)) (pa_cons (pv 1) pa_nil))) (pss_cons (ps_expr (pe_bm PySem.F.plainAttrs_list PySem.F.slot_list_append PySem.F.type_list_append mt_append (pe_fld (pv 0) rfl) (pa_cons (pe_tup (pa_cons (pv 1) (pa_cons (pe_op op_add (pe_meth0 (pv 0) T.clClu T.mtCluCopied (ok_clucopied T) hr T.bCluCopied .nil pass0) (pv 2)) pa_nil))) pa_nil))) (pss_one (ps_ret (pv 2)))))), ?_⟩
    have raise : deadB n L o = false → (tMkO T.cNotD (spErr K T.cNotD "value") [] (tCons (tVar 1) tNil)) [some (.ref p), some v, none] H (fun cls d H' => E cls d H') := fun ho => by
      refine ⟨v, rfl, (by show 1 ≤ 1000; decide), fun a na => ⟨a, v, rfl, upd_same, fun dx nd ne => ?_⟩⟩
      obtain ⟨e1, e2, e3, e4, e5⟩ := err_end (f := "value") (v := v) na nd ne
      exact ⟨rfl, dx, _, e1, e2, e3, q1 ho _ dx e4 e5 e3⟩
    obtain ⟨t, ht, e, ty⟩ := hv.ty
    refine ⟨v, rfl, v, t, rfl, ty, ht, _, rfl, ?_⟩
    rw [e]
    rcases hv with ⟨z, rfl, rfl⟩ | ⟨rfl, _⟩
    · refine iteF ?_
      refine ⟨_, rfl, _, _, rfl, rfl, _, rfl, ite2 (fun hb => ?_) (fun hb => ?_)⟩
      · have hz : z < 0 := of_decide_eq_true hb
        refine raise ?_
        show (decide (0 ≤ z) && decide (z < (n : Int)) && !decide (z ∈ L.map fun (m : Nat) => (m : Int))) = false
        rw [decide_eq_false (show ¬ 0 ≤ z by omega)]
        rfl
      have hz : ¬ z < 0 := fun y => hb (decide_eq_true y)
      refine ⟨_, rfl, .ref p, rfl, p, T.cClu, dx, _, _, rfl, h1, T.clClu, T.naClu_n, fldC_n, _, _, rfl, rfl, _, rfl, ite2 (fun hb => ?_) (fun hb => ?_)⟩
      · have hz2 : (n : Int) ≤ z := of_decide_eq_true hb
        refine raise ?_
        show (decide (0 ≤ z) && decide (z < (n : Int)) && !decide (z ∈ L.map fun (m : Nat) => (m : Int))) = false
        rw [decide_eq_false (show ¬ z < (n : Int) by omega), Bool.and_false]
        rfl
      have hz2 : ¬ (n : Int) ≤ z := fun y => hb (decide_eq_true y)
      obtain ⟨x, rfl⟩ := Int.eq_ofNat_of_zero_le (show 0 ≤ z by omega)
      refine ⟨_, rfl, .ref p, rfl, p, T.cClu, dx, _, _, rfl, h1, T.clClu, T.naClu_living, fldC_living, tl, _, rfl, .inr (SqT.of h2), rfl, setV_flat _, _, rfl, ?_⟩
      rw [inV_setV]
      refine ite2 (fun hb => ?_) (fun hb => ?_)
      · have hx : x ∈ L := by simpa using hb
        refine raise ?_
        show (decide (0 ≤ (x : Int)) && decide ((x : Int) < (n : Int)) && !decide ((x : Int) ∈ L.map fun (m : Nat) => (m : Int))) = false
        rw [decide_eq_true (p := (x : Int) ∈ L.map fun (m : Nat) => (m : Int)) (List.mem_map.mpr ⟨x, hx, rfl⟩), Bool.not_true, Bool.and_false]
      have hx : x ∉ L := by simpa using hb
      have q4 := q2 x rfl (by omega) hx
      refine ⟨.ref p, rfl, p, dx, _, rfl, h1, fldC_no (by decide +kernel), _, rfl, p, pl, n, fl, fa, c, L, qs, x, rfl, B, ok.sixty, fun H2 b2 B2 => ?_⟩
      obtain ⟨⟨dx2, tl2, g1, g2⟩, us2, g3, g4⟩ := id B2
      have ul := g4.len
      have ok2 := ok.back hx (by omega)
      have hx2 : x ∈ turnL L x := turn_mem.mpr (.inr ⟨rfl, hx⟩)
      rw [← turn_len_out hx] at q4
      refine ⟨.ref p, rfl, p, dx2, _, rfl, g1, fldC_no (by decide +kernel), _, rfl, p, pl, n, fl, fa, c, turnL L x, qs, .int x, some (x : Int), rfl, B2, ok2, .inl ⟨_, rfl, rfl⟩, fun z => absurd ((liveB_nat hx2).symm.trans z) (by decide), fun _ H3 s3 => ?_⟩
      have B3 := B2.same s3
      refine ⟨.ref p, rfl, p, T.cClu, dx2, _, _, rfl, s3 _ _ g1, T.clClu, T.naClu_past, fldC_past, .inl ⟨rfl, _, SqL.of (s3 _ _ g3)⟩, _, rfl, .ref p, rfl, p, dx2, _, rfl, s3 _ _ g1, fldC_no (by decide +kernel), p, pl, n, fl, fa, c, turnL L x, qs, rfl, B3, _, rfl, _, _, rfl, rfl, (by show 2 ≤ sizeLine; decide), fun t nt => ?_⟩
      dsimp only
      rw [show ((lastC qs : Nat) : Int) + ((loadC fa c (turnL L x).length : Nat) : Int) = ((lastC qs + loadC fa c (turnL L x).length : Nat) : Int) from rfl]
      have s4 := same_new (o := .tup [V.int (x : Int), V.int ((lastC qs + loadC fa c (turnL L x).length : Nat) : Int)]) nt
      obtain ⟨B4, b4⟩ := B3.push s4 nt upd_same (s4 _ _ (s3 _ _ g3)) (g4.same fun u xs e => s3 _ _ e)
      exact ⟨pl, _, _, rfl, rfl, s4 _ _ (s3 _ _ g3), by rw [ul, sizeLine_eq]; omega, _, rfl, q4 _ (((But2.of b2).trans (But2.ofS s3)).trans (But2.of' b4)) B4⟩
    · refine iteT ?_
      exact raise rfl
end
/-! ### a row of numbers as a text (without the law's own text) -/
def rowS (r : List Nat) : Str := Txt.join blankS (r.map natS)
theorem words_nat : ∀ {r : List Nat}, (∀ x ∈ r, x < 60) → PySem.Paired WordV (setV r) (r.map natS)
  | [], _ => .nil
  | x :: r, h => .cons (.inr ⟨x, rfl, Nat.lt_of_lt_of_le (h x List.mem_cons_self) (by decide +kernel), rfl⟩) (words_nat fun y hy => h y (List.mem_cons_of_mem _ hy))
theorem natS_short {x : Nat} (h : x ≤ 60) : (natS x).length ≤ 2 := natS_len (by decide) (by omega)
theorem rowS_len {r : List Nat} (hl : r.length ≤ 60) (h : ∀ x ∈ r, x < 60) : (rowS r).length ≤ 180 := by
  have h1 := join_len blankS (r.map natS)
  have h2 := sum_le (f := fun x : Str => x.length) (b := 2) (l := r.map natS) fun w hw => by
    obtain ⟨x, hx, rfl⟩ := List.mem_map.mp hw
    exact natS_short (by have := h x hx; omega)
  rw [List.length_map] at h1 h2
  have h3 : blankS.length = 1 := by rw [blank_mk]; rfl
  rw [h3] at h1
  show (Txt.join blankS (r.map natS)).length ≤ 180
  omega
/-! ### what a cluster answers to a line -/
/-- an answer with the live servers and the changes behind it, or an error -/
inductive Ans where
  | ok (s : Str) (L : List Nat) (qs : List (Nat × Nat))
  | noN (k : Nat)
  | notL (k : Nat)
  | notD (k : Nat)
  | tooF (u : Nat)
  | noU
def sucS : V → Str
  | .int i => Str.ofString (toString i)
  | _ => "-"
def barS : Str := " | "
def textS (n fl fa c : Nat) (L : List Nat) : Str := Txt.replace (clusT n fl fa c L) lineS barS
def ansA (n fl fa c : Nat) (L : List Nat) (qs : List (Nat × Nat)) (z : Str) : Ans :=
  if z = "live" then .ok (rowS L) L qs
  else if z = "copied" then .ok (natS (lastC qs)) L qs
  else if z = "changes" then .ok (natS qs.length) L qs
  else if z = "undo" then match qs.getLast? with
    | none => .noU
    | some q => .ok (natS q.1) (turnL L q.1) qs.dropLast
  else .ok (textS n fl fa c L) L qs
def ansB (n fl fa c : Nat) (L : List Nat) (qs : List (Nat × Nat)) (z : Str) (k : Nat) : Ans :=
  if z = "fail" then (if k ∈ L then (if n + 1 ≤ L.length + fl then .ok (natS (failC fa c L.length)) (turnL L k) (qs ++ [(k, lastC qs + failC fa c L.length)]) else .tooF L.length) else .notL k)
  else if z = "recover" then (if k < n ∧ k ∉ L then .ok (natS (loadC fa c (L.length + 1))) (turnL L k) (qs ++ [(k, lastC qs + loadC fa c (L.length + 1))]) else .notD k)
  else if z = "load" then (if k ∈ L then .ok (natS (loadC fa c L.length)) L qs else .notL k)
  else if z = "owners" then (if k < c then .ok (rowS (holdL L (path n (min n (fl + fa)) c k).1 fa)) L qs else .noN k)
  else (if k < c then .ok (rowS (path n (min n (fl + fa)) c k).1) L qs else .noN k)
def ansC (n fl fa c : Nat) (L : List Nat) (qs : List (Nat × Nat)) (k x : Nat) : Ans :=
  if k < c then (if x ∈ L then (if n + 1 ≤ L.length + fl then .ok (sucS (if L.length ≤ fa then .non else sucV L (path n (min n (fl + fa)) c k).1 fa x)) L qs else .tooF L.length) else .notL x) else .noN k
def ansW (n fl fa c : Nat) (L : List Nat) (qs : List (Nat × Nat)) (z : Str) : List Nat → Ans
  | [] => ansA n fl fa c L qs z
  | [k] => ansB n fl fa c L qs z k
  | k :: x :: _ => ansC n fl fa c L qs k x
theorem asc_extA {a b : List Nat} (ha : Asc a) (hb : Asc b) (h : ∀ x, x ∈ a ↔ x ∈ b) : a = b := asc_unique ha hb ((List.perm_ext_iff_of_nodup (asc_nodup ha) (asc_nodup hb)).mpr h)
theorem turn_turnA {L : List Nat} {x : Nat} (a : Asc L) : turnL (turnL L x) x = L := by
  refine asc_extA (turn_asc (turn_asc a)) a fun y => ?_
  simp only [turn_mem]
  constructor
  · rintro (⟨⟨h1, _⟩ | ⟨h1, _⟩, h3⟩ | ⟨rfl, h⟩)
    · exact h1
    · exact absurd h1 h3
    · exact Classical.byContradiction fun z => h (by first | exact .inr ⟨rfl, z⟩ | exact .inr ⟨trivial, z⟩)
  · intro h
    by_cases e : y = x
    · exact .inr ⟨e, fun z => by
        rw [e] at h
        rcases z with ⟨_, z⟩ | ⟨_, z⟩
        · exact z rfl
        · exact z h⟩
    · exact .inl ⟨.inl ⟨h, e⟩, e⟩
/-- the live servers L and the changes qs that led to them -/
inductive LedA (n fl : Nat) : List Nat → List (Nat × Nat) → Prop
  | nil {L : List Nat} : Asc L → (∀ x ∈ L, x < n) → n ≤ L.length + fl → LedA n fl L []
  | push {L : List Nat} {qs : List (Nat × Nat)} {x w : Nat} : LedA n fl L qs → x < n → n ≤ (turnL L x).length + fl → w ≤ 2 ^ 510 → LedA n fl (turnL L x) (qs ++ [(x, lastC qs + w)])
theorem LedA.ok {n fl : Nat} {L : List Nat} {qs : List (Nat × Nat)} (h : LedA n fl L qs) : Asc L ∧ (∀ x ∈ L, x < n) ∧ n ≤ L.length + fl := by
  induction h with
  | nil a b c => exact ⟨a, b, c⟩
  | push h hx c _ ih => exact ⟨turn_asc ih.1, turn_lt ih.2.1 hx, c⟩
theorem LedA.sum {n fl : Nat} {L : List Nat} {qs : List (Nat × Nat)} (h : LedA n fl L qs) : lastC qs ≤ qs.length * 2 ^ 510 := by
  induction h with
  | nil => exact Nat.zero_le _
  | push h hx c hw ih =>
    rw [lastC_snoc, List.length_append, Nat.add_mul]
    show lastC _ + _ ≤ _ + 1 * 2 ^ 510
    omega
theorem LedA.big {n fl : Nat} {L : List Nat} {qs : List (Nat × Nat)} (h : LedA n fl L qs) (l : qs.length ≤ 100000) : lastC qs < 2 ^ 600 := by
  have h1 := h.sum
  have h2 : qs.length * 2 ^ 510 ≤ 100000 * 2 ^ 510 := Nat.mul_le_mul_right _ l
  exact Nat.lt_of_le_of_lt (Nat.le_trans h1 h2) (by decide +kernel)
theorem LedA.pop {n fl : Nat} {L : List Nat} {qs : List (Nat × Nat)} {q : Nat × Nat} (h : LedA n fl L (qs ++ [q])) : LedA n fl (turnL L q.1) qs ∧ q.1 < n := by
  generalize e : qs ++ [q] = ps at h
  cases h with
  | nil => simp at e
  | push h hx c hw =>
    obtain ⟨rfl, e3⟩ := List.append_inj' e rfl
    simp only [List.cons.injEq, and_true] at e3
    subst e3
    rw [turn_turnA h.ok.1]
    exact ⟨h, hx⟩
theorem CluOk.led {n fl fa c : Nat} {L L' : List Nat} {qs : List (Nat × Nat)} (h : CluOk n fl fa c L) (l : LedA n fl L' qs) : CluOk n fl fa c L' := ⟨h.n2, h.f1, h.fn, h.a1, h.an, h.std, h.big, l.ok.1, l.ok.2.1, l.ok.2.2⟩
theorem loadC_big {fa c u : Nat} (fa60 : fa ≤ 60) (cb : c < 2 ^ 500) : loadC fa c u ≤ 2 ^ 510 := by
  unfold loadC
  have h1 : c * min fa u ≤ 2 ^ 500 * 60 := Nat.mul_le_mul (Nat.le_of_lt cb) (by omega)
  exact Nat.le_trans (Nat.le_trans (Nat.div_le_self _ _) h1) (by decide +kernel)
theorem failC_big {fa c u : Nat} (fa60 : fa ≤ 60) (cb : c < 2 ^ 500) : failC fa c u ≤ 2 ^ 510 := by
  unfold failC
  split
  · exact loadC_big fa60 cb
  · exact Nat.zero_le _
/-- what an answer leaves is again a state of the cluster -/
def AnsKeep (n fl fa c : Nat) (m : Nat) : Ans → Prop
  | .ok _ L qs => CluOk n fl fa c L ∧ LedA n fl L qs ∧ qs.length ≤ m + 1
  | _ => True
theorem ans_keep {n fl fa c : Nat} {L : List Nat} {qs : List (Nat × Nat)} (ok : CluOk n fl fa c L) (led : LedA n fl L qs) (z : Str) (ks : List Nat) : AnsKeep n fl fa c qs.length (ansW n fl fa c L qs z ks) := by
  have same : ∀ s, AnsKeep n fl fa c qs.length (.ok s L qs) := fun s => ⟨ok, led, Nat.le_succ _⟩
  have fa60 : fa ≤ 60 := Nat.le_trans ok.an ok.std.n60
  have push : ∀ s x w, x < n → n ≤ (turnL L x).length + fl → w ≤ 2 ^ 510 → AnsKeep n fl fa c qs.length (.ok s (turnL L x) (qs ++ [(x, lastC qs + w)])) := fun s x w h1 h2 h3 => by
    have l2 := LedA.push led h1 h2 h3
    exact ⟨ok.led l2, l2, by rw [List.length_append]; exact Nat.le_refl _⟩
  match ks with
  | [] =>
    show AnsKeep _ _ _ _ _ (ansA n fl fa c L qs z)
    unfold ansA
    by_cases h1 : z = "live"
    · rw [if_pos h1]; exact same _
    rw [if_neg h1]
    by_cases h2 : z = "copied"
    · rw [if_pos h2]; exact same _
    rw [if_neg h2]
    by_cases h3 : z = "changes"
    · rw [if_pos h3]; exact same _
    rw [if_neg h3]
    by_cases h4 : z = "undo"
    · rw [if_pos h4]
      cases e : qs.getLast? with
      | none => trivial
      | some q =>
        obtain ⟨rs, rfl⟩ := List.getLast?_eq_some_iff.mp e
        obtain ⟨l2, _⟩ := led.pop
        show CluOk n fl fa c (turnL L q.1) ∧ LedA n fl (turnL L q.1) (rs ++ [q]).dropLast ∧ (rs ++ [q]).dropLast.length ≤ _
        rw [List.dropLast_concat]
        exact ⟨ok.led l2, l2, by rw [List.length_append]; omega⟩
    · rw [if_neg h4]; exact same _
  | [k] =>
    show AnsKeep _ _ _ _ _ (ansB n fl fa c L qs z k)
    unfold ansB
    by_cases h1 : z = "fail"
    · rw [if_pos h1]
      by_cases h2 : k ∈ L
      · rw [if_pos h2]
        by_cases h3 : n + 1 ≤ L.length + fl
        · rw [if_pos h3]
          exact push _ _ _ (ok.lt k h2) (by have := turn_len_in (asc_nodup ok.asc) h2; omega) (failC_big fa60 ok.big)
        · rw [if_neg h3]; trivial
      · rw [if_neg h2]; trivial
    rw [if_neg h1]
    by_cases h2 : z = "recover"
    · rw [if_pos h2]
      by_cases h3 : k < n ∧ k ∉ L
      · rw [if_pos h3]
        exact push _ _ _ h3.1 (by have := turn_len_out h3.2; have := ok.few; omega) (loadC_big fa60 ok.big)
      · rw [if_neg h3]; trivial
    rw [if_neg h2]
    by_cases h3 : z = "load"
    · rw [if_pos h3]
      split
      · exact same _
      · trivial
    rw [if_neg h3]
    by_cases h4 : z = "owners"
    · rw [if_pos h4]
      split
      · exact same _
      · trivial
    · rw [if_neg h4]
      split
      · exact same _
      · trivial
  | k :: x :: _ =>
    show AnsKeep _ _ _ _ _ (ansC n fl fa c L qs k x)
    unfold ansC
    split
    · split
      · split
        · exact same _
        · trivial
      · trivial
    · trivial
/-- what is promised of an answer: CN, CL, CD, CF, CU are the classes of the errors -/
structure ErrC where
  n : Addr
  l : Addr
  d : Addr
  f : Addr
  u : Addr
def AnsQ (R : ErrC) (C : Addr) (p pl : Addr) (n fl fa c : Nat) (H : Hp) (Q : VK) (E : XK) : Ans → Prop
  | .ok s L' qs' => ∀ H', But2 p pl H H' → CluB C H' p pl n fl fa c L' qs' → Q (.str s) H'
  | .noN k => Raised "value" R.n (.int (k : Int)) H E
  | .notL k => Raised "value" R.l (.int (k : Int)) H E
  | .notD k => Raised "value" R.d (.int (k : Int)) H E
  | .tooF u => Raised "alive" R.f (.int (u : Int)) H E
  | .noU => ∀ H', Same H H' → E (.ref R.u) none H'
theorem CluB.to2 {C : Addr} {H H' : Hp} {p pl : Addr} {n fl fa c : Nat} {L : List Nat} {qs : List (Nat × Nat)} {s : Str} {Q : VK} {E : XK} {R : ErrC} (B : CluB C H p pl n fl fa c L qs) (q : AnsQ R C p pl n fl fa c H Q E (.ok s L qs)) (k : Same H H') : Q (.str s) H' := q H' (But2.ofS k) (B.same k)
theorem AnsQ.on {C : Addr} {H H1 : Hp} {p pl : Addr} {n fl fa c : Nat} {Q : VK} {E : XK} {R : ErrC} : ∀ {a : Ans}, AnsQ R C p pl n fl fa c H Q E a → Same H H1 → AnsQ R C p pl n fl fa c H1 Q E a
  | .ok _ _ _, q, s => fun H' b B => q H' ((But2.ofS s).trans b) B
  | .noN _, q, s => Raised.on s q
  | .notL _, q, s => Raised.on s q
  | .notD _, q, s => Raised.on s q
  | .tooF _, q, s => Raised.on s q
  | .noU, q, s => fun H' s2 => q H' (s.trans s2)
/-! ### the list of a shard -/
def spCluList (K : PySem.W.Frag) (C CN : Addr) : Sp := fun vs H Q E => ∃ (p pl : Addr) (n fl fa c : Nat) (L : List Nat) (qs : List (Nat × Nat)) (v : V) (o : Option Int), vs = [.ref p, v] ∧ CluB C H p pl n fl fa c L qs ∧ CluOk n fl fa c L ∧ CountV K H v o ∧
  (numB c o = false → Raised "value" CN v H E) ∧ (∀ k : Nat, o = some (k : Int) → k < c → ∀ H' t, Same H H' → H t = none → H' t = some (.tup (setV (path n (min n (fl + fa)) c k).1)) → Q (.ref t) H')
section
variable {P : Program} {w : World} {K : PySem.W.Frag} {mg : Str → Option Value} {base : Heap}
theorem ok_clulistof (T : Txt K mg) {j : Nat} : FnOk P w K mg base (L2.CX P w) (j + 5) T.fCluListOf T.fdCluListOf ["self", "shard"] (spCluList K T.cClu T.cNoN) := by
  refine T.FCluListOf.okX scCluListOf (fun vs H Q E h => ?_) (fun cdv A outer s H vs Q E hr h => ?_)
  · obtain ⟨p, pl, n, fl, fa, c, L, qs, v, o, rfl, _⟩ := h
    rfl
  · obtain ⟨p, pl, n, fl, fa, c, L, qs, v, o, rfl, B, ok, hv, q1, q2⟩ := h
    obtain ⟨⟨dx, tl, h1, h2⟩, us, h3, h4⟩ := id B
    refine ⟨_, pss_cons (ps_expr (pe_call (ok_chkn T) hr (by rfl) T.gChkN T.FChkN.kp T.bChkN .nil (passes_call (takes_of rfl rfl rfl rfl) (fun _ _ _ _ h => h)) (pa_cons (pv 1) (pa_cons (pe_fld (pv 0) rfl) pa_nil)))) (pss_cons (ps_set (i := 2) scCluListOf.nd rfl (.inl rfl) (pe_call (ok_reachof T) hr (by rfl) T.gReachOf T.FReachOf.kp T.bReachOf .nil pass0 (pa_cons (pe_fld (pv 0) rfl) (pa_cons (pe_fld (pv 0) rfl) (pa_cons (pe_fld (pv 0) rfl) pa_nil))))) (pss_cons (ps_asg (pe_call (ok_path T) hr (by rfl) T.gPath T.FPath.kp T.bPath .nil pass0 (pa_cons (pe_fld (pv 0) rfl) (pa_cons (pv 2) (pa_cons (pe_fld (pv 0) rfl) (pa_cons (pv 1) pa_nil))))) (pg_tup rfl (pgs_cons (pg_name (i := 3) scCluListOf.nd rfl (.inl rfl)) (pgs_cons (pg_name (i := 4) scCluListOf.nd rfl (.inl rfl)) pgs_nil)))) (pss_one (ps_ret (pv 3))))), ?_⟩
    refine ⟨v, rfl, .ref p, rfl, p, T.cClu, dx, _, _, rfl, h1, T.clClu, T.naClu_count, fldC_count, c, v, o, rfl, hv, fun hn => ?_, q1⟩
    obtain ⟨k, rfl, hk⟩ : ∃ k : Nat, o = some (k : Int) ∧ k < c := by
      cases o with
      | none => cases hn
      | some z =>
        rw [numB_some, Bool.and_eq_true] at hn
        have a1 := of_decide_eq_true hn.1
        have a2 := of_decide_eq_true hn.2
        exact ⟨z.toNat, by rw [Int.toNat_of_nonneg a1], by omega⟩
    obtain rfl := hv.isInt
    refine ⟨.ref p, rfl, p, T.cClu, dx, _, _, rfl, h1, T.clClu, T.naClu_n, fldC_n, .ref p, rfl, p, T.cClu, dx, _, _, rfl, h1, T.clClu, T.naClu_failures, fldC_failures, .ref p, rfl, p, T.cClu, dx, _, _, rfl, h1, T.clClu, T.naClu_factor, fldC_factor, n, fl, fa, rfl, ?_⟩
    refine ⟨.ref p, rfl, p, T.cClu, dx, _, _, rfl, h1, T.clClu, T.naClu_n, fldC_n, _, rfl, .ref p, rfl, p, T.cClu, dx, _, _, rfl, h1, T.clClu, T.naClu_count, fldC_count, _, rfl, n, min n (fl + fa), c, k, rfl, ok.std, hk, ok.big, fun H1 u s1 hu => ?_⟩
    obtain ⟨nu, t, nt, e1, e2⟩ := hu
    refine ⟨u, _, rfl, SqT.of e1, rfl, _, _, rfl, _, _, rfl, rfl, ?_⟩
    exact ⟨.ref t, rfl, q2 k rfl hk H1 t s1 nt e2⟩
end
/-! ### who holds a shard -/
def spCluOwn (K : PySem.W.Frag) (C CN : Addr) : Sp := fun vs H Q E => ∃ (p pl : Addr) (n fl fa c : Nat) (L : List Nat) (qs : List (Nat × Nat)) (v : V) (o : Option Int), vs = [.ref p, v] ∧ CluB C H p pl n fl fa c L qs ∧ CluOk n fl fa c L ∧ CountV K H v o ∧
  (numB c o = false → Raised "value" CN v H E) ∧ (∀ k : Nat, o = some (k : Int) → k < c → ∀ H' t, Same H H' → H t = none → H' t = some (.tup (setV (holdL L (path n (min n (fl + fa)) c k).1 fa))) → Q (.ref t) H')
section
variable {P : Program} {w : World} {K : PySem.W.Frag} {mg : Str → Option Value} {base : Heap}
theorem ok_cluowners (T : Txt K mg) {j : Nat} : FnOk P w K mg base (L2.CX P w) (j + 6) T.fCluOwners T.fdCluOwners ["self", "shard"] (spCluOwn K T.cClu T.cNoN) := by
  refine T.FCluOwners.okX scCluOwners (fun vs H Q E h => ?_) (fun cdv A outer s H vs Q E hr h => ?_)
  · obtain ⟨p, pl, n, fl, fa, c, L, qs, v, o, rfl, _⟩ := h
    rfl
  · obtain ⟨p, pl, n, fl, fa, c, L, qs, v, o, rfl, B, ok, hv, q1, q2⟩ := h
    obtain ⟨⟨dx, tl, h1, h2⟩, us, h3, h4⟩ := id B
    refine ⟨_, pss_one (ps_ret (pe_call (ok_hold T) hr (by rfl) T.gHold T.FHold.kp T.bHold .nil (passes_call (takes_of rfl rfl rfl rfl) (fun _ _ _ _ h => h)) (pa_cons (pe_meth (pv 0) T.clClu T.mtCluListOf (ok_clulistof T) hr T.bCluListOf .nil (passes_call (takes_of rfl rfl rfl rfl) (fun _ _ _ _ h => h)) (pa_cons (pv 1) pa_nil)) (pa_cons (pe_fld (pv 0) rfl) (pa_cons (pe_fld (pv 0) rfl) pa_nil))))), ?_⟩
    refine ⟨.ref p, rfl, p, dx, _, rfl, h1, fldC_no (by decide +kernel), v, rfl, p, pl, n, fl, fa, c, L, qs, v, o, rfl, B, ok, hv, q1, fun k eo hk H1 t s1 nt ht => ?_⟩
    have nd := path_nodup ok.std hk
    have lt := path_lt ok.std hk
    have en := in_enough nd lt ok.asc ok.lt
    rw [path_len] at en
    have few := ok.few
    have ll := asc_lenC ok.asc ok.lt
    have n6 := ok.std.n60
    have em : holdL L (path n (min n (fl + fa)) c k).1 (min fa L.length) = holdL L (path n (min n (fl + fa)) c k).1 fa := by
      unfold holdL
      have : (inL L (path n (min n (fl + fa)) c k).1).length ≤ L.length := subG_len (nd.filter _) fun y hy => (inL_mem hy).2
      rcases Nat.le_total fa L.length with h | h
      · rw [Nat.min_eq_left h]
      · rw [Nat.min_eq_right h, List.take_of_length_le (by omega), List.take_of_length_le (by omega)]
    refine ⟨.ref p, rfl, p, T.cClu, dx, _, _, rfl, s1 _ _ h1, T.clClu, T.naClu_living, fldC_living, .ref p, rfl, p, T.cClu, dx, _, _, rfl, s1 _ _ h1, T.clClu, T.naClu_factor, fldC_factor, t, tl, _, L, fa, rfl, SqT.of ht, SqT.of (s1 _ _ h2), by rw [path_len]; omega, by omega, fun _ H2 t2 s2 nt2 ht2 => ?_, fun hlt => ?_⟩
    · rw [em] at ht2
      exact q2 k eo hk H2 t2 (s1.trans s2) (s1.free nt2) ht2
    · exfalso
      have a1 := ok.a1
      omega
end
/-! ### successors in a cluster -/
def spCluSuc (K : PySem.W.Frag) (C CN CL CF : Addr) : Sp := fun vs H Q E => ∃ (p pl : Addr) (n fl fa c : Nat) (L : List Nat) (qs : List (Nat × Nat)) (v : V) (o : Option Int) (v2 : V) (o2 : Option Int), vs = [.ref p, v, v2] ∧ CluB C H p pl n fl fa c L qs ∧ CluOk n fl fa c L ∧ CountV K H v o ∧ CountV K H v2 o2 ∧
  (numB c o = false → Raised "value" CN v H E) ∧ (∀ k : Nat, o = some (k : Int) → k < c → (liveB L o2 = false → Raised "value" CL v2 H E) ∧ (liveB L o2 = true → L.length + fl < n + 1 → Raised "alive" CF (.int (L.length : Nat)) H E) ∧
    (∀ x : Nat, o2 = some (x : Int) → x ∈ L → n + 1 ≤ L.length + fl → ∀ H', Same H H' → Q (if L.length ≤ fa then .non else sucV L (path n (min n (fl + fa)) c k).1 fa x) H'))
section
variable {P : Program} {w : World} {K : PySem.W.Frag} {mg : Str → Option Value} {base : Heap}
theorem ok_clusuccessor (T : Txt K mg) {j : Nat} : FnOk P w K mg base (L2.CX P w) (j + 6) T.fCluSuccessor T.fdCluSuccessor ["self", "shard", "server"] (spCluSuc K T.cClu T.cNoN T.cNotL T.cTooF) := by
  refine T.FCluSuccessor.okX scCluSuccessor (fun vs H Q E h => ?_) (fun cdv A outer s H vs Q E hr h => ?_)
  · obtain ⟨p, pl, n, fl, fa, c, L, qs, v, o, v2, o2, rfl, _⟩ := h
    rfl
  · obtain ⟨p, pl, n, fl, fa, c, L, qs, v, o, v2, o2, rfl, B, ok, hv, hv2, q1, q2⟩ := h
    obtain ⟨⟨dx, tl, h1, h2⟩, us, h3, h4⟩ := id B
    refine ⟨_, pss_cons (ps_set (i := 3) scCluSuccessor.nd rfl (.inl rfl) (pe_meth (pv 0) T.clClu T.mtCluListOf (ok_clulistof T) hr T.bCluListOf .nil (passes_call (takes_of rfl rfl rfl rfl) (fun _ _ _ _ h => h)) (pa_cons (pv 1) pa_nil))) (pss_cons (ps_expr (pe_meth (pv 0) T.clClu T.mtCluCheckCanFail (ok_clucheckcanfail T) hr T.bCluCheckCanFail .nil (passes_call (takes_of rfl rfl rfl rfl) (fun _ _ _ _ h => h)) (pa_cons (pv 2) pa_nil))) (pss_cons (ps_if (pt_cmpR op_le (pe_callB (call_lenK K) (by rfl) T.n_len PySem.boot_len (pa_cons (pe_fld (pv 0) rfl) pa_nil)) (pe_fld (pv 0) rfl) (nomark _)) (pss_one (ps_ret pe_non)) pss_nil) (pss_one (ps_ret (pe_call (ok_succ T) hr (by rfl) T.ga_successor_failures T.FSucc.kp T.bSucc .nil (passes_call (takes_of rfl rfl rfl rfl) (fun _ _ _ _ h => h)) (pa_cons (pv 3) (pa_cons (pe_fld (pv 0) rfl) (pa_cons (pe_fld (pv 0) rfl) (pa_cons (pv 2) pa_nil))))))))), ?_⟩
    refine ⟨.ref p, rfl, p, dx, _, rfl, h1, fldC_no (by decide +kernel), v, rfl, p, pl, n, fl, fa, c, L, qs, v, o, rfl, B, ok, hv, q1, fun k eo hk H1 t s1 nt ht => ?_⟩
    obtain ⟨q3, q4, q5⟩ := q2 k eo hk
    have g1 := s1 _ _ h1
    have g2 := s1 _ _ h2
    refine ⟨.ref p, rfl, p, dx, _, rfl, g1, fldC_no (by decide +kernel), v2, rfl, p, pl, n, fl, fa, c, L, qs, v2, o2, rfl, B.same s1, ok, hv2.same s1, fun h => (q3 h).on s1, fun h h' => (q4 h h').on s1, fun hl few => ?_⟩
    obtain ⟨x, rfl, hx⟩ := liveB_some hl
    obtain rfl := hv2.isInt
    have q6 := q5 x rfl hx few
    refine ⟨.ref p, rfl, p, T.cClu, dx, _, _, rfl, g1, T.clClu, T.naClu_living, fldC_living, tl, _, rfl, .inr (SqT.of g2), .ref p, rfl, p, T.cClu, dx, _, _, rfl, g1, T.clClu, T.naClu_factor, fldC_factor, _, _, rfl, rfl, _, rfl, ?_⟩
    rw [setV_len]
    refine ite2 (fun hb => ?_) (fun hb => ?_)
    · have hf : (L.length : Int) ≤ (fa : Int) := of_decide_eq_true hb
      rw [if_pos (show L.length ≤ fa by omega)] at q6
      exact q6 H1 s1
    · have hf : ¬ (L.length : Int) ≤ (fa : Int) := fun z => hb (decide_eq_true z)
      rw [if_neg (show ¬ L.length ≤ fa by omega)] at q6
      have nd := path_nodup ok.std hk
      have lt := path_lt ok.std hk
      have en := in_enough nd lt ok.asc ok.lt
      rw [path_len] at en
      have ll := ok.len
      have n6 := ok.std.n60
      refine ⟨.ref t, rfl, .ref p, rfl, p, T.cClu, dx, _, _, rfl, g1, T.clClu, T.naClu_living, fldC_living, .ref p, rfl, p, T.cClu, dx, _, _, rfl, g1, T.clClu, T.naClu_factor, fldC_factor, _, rfl, t, tl, _, L, fa, x, rfl, SqT.of ht, SqT.of g2, by rw [path_len]; omega, by omega, nd, fun _ H2 s2 => q6 H2 (s1.trans s2), fun z => ?_⟩
      exfalso
      omega
end
/-! ### the last change undone -/
theorem paired_init {α β : Type} {R : α → β → Prop} {a : α} {b : β} : ∀ {xs : List α} {ys : List β}, PySem.Paired R (xs ++ [a]) (ys ++ [b]) → PySem.Paired R xs ys
  | [], [], _ => .nil
  | [], y :: ys, h => by
    have := PySem.Paired.length h
    simp at this
  | x :: xs, [], h => by
    have := PySem.Paired.length h
    simp at this
  | x :: xs, y :: ys, h => by
    cases (show PySem.Paired R (x :: (xs ++ [a])) (y :: (ys ++ [b])) from h) with
    | cons a r => exact .cons a (paired_init r)
def spCluUndo (C U : Addr) : Sp := fun vs H Q E => ∃ (p pl : Addr) (n fl fa c : Nat) (L : List Nat) (ps : List (Nat × Nat)), vs = [.ref p] ∧ CluB C H p pl n fl fa c L ps ∧ L.length ≤ 60 ∧
  (ps = [] → E (.ref U) none H) ∧
  ∀ qs x v H', ps = qs ++ [(x, v)] → But2 p pl H H' → CluB C H' p pl n fl fa c (turnL L x) qs → Q (.int (x : Nat)) H'
section
variable {P : Program} {w : World} {K : PySem.W.Frag} {mg : Str → Option Value} {base : Heap}
theorem ok_cluundo (T : Txt K mg) {j : Nat} : FnOk P w K mg base (L2.CX P w) (j + 4) T.fCluUndo T.fdCluUndo ["self"] (spCluUndo T.cClu T.cNoU) := by
  refine T.FCluUndo.okX scCluUndo (fun vs H Q E h => ?_) (fun cdv A outer s H vs Q E hr h => ?_)
  · obtain ⟨p, pl, n, fl, fa, c, L, ps, rfl, _⟩ := h
    rfl
  · obtain ⟨p, pl, n, fl, fa, c, L, ps, rfl, B, l60, q0, q⟩ := h
    obtain ⟨⟨dx, tl, h1, h2⟩, us, h3, h4⟩ := id B
    refine ⟨_, pss_cons (ps_if (pt_cmpR op_eq (pe_callB (call_lenK K) (by rfl) T.n_len PySem.boot_len (pa_cons (pe_fld (pv 0) rfl) pa_nil)) pe_int (nomark _)) (pss_one (ps_raise rfl (takes_of rfl rfl rfl rfl) (pmk_own0 PySem.F.excBase_ValueError T.kNoUx T.gcNoU T.kNoUk (raises_own T.kNoUb T.kNoUt) (by rfl)))) pss_nil) (pss_cons (ps_asg (pe_bm0 PySem.F.plainAttrs_list PySem.F.slot_list_pop PySem.F.type_list_pop mt_pop (pe_fld (pv 0) rfl)) (pg_tup rfl (pgs_cons (pg_name (i := 1) scCluUndo.nd rfl (.inl rfl)) (pgs_cons (pg_name (i := 2) scCluUndo.nd rfl (.inl rfl)) pgs_nil)))) (pss_cons (ps_expr (pe_meth (pv 0) T.clClu T.mtCluTurn (ok_cluturn T) hr T.bCluTurn .nil pass0 (pa_cons (pv 1) pa_nil))) (pss_one (ps_ret (pv 1))))), ?_⟩
    have npl := B.ne
    have ul := h4.len
    refine ⟨.ref p, rfl, p, T.cClu, dx, _, _, rfl, h1, T.clClu, T.naClu_past, fldC_past, pl, _, rfl, .inl (SqL.of h3), rfl, _, rfl, ?_⟩
    refine ite2 (fun hb => ?_) (fun hb => ?_)
    · have := of_decide_eq_true hb
      have e : us.length = 0 := by injection this with z; omega
      have e2 : ps = [] := List.length_eq_zero_iff.mp (by omega)
      exact q0 e2
    obtain ⟨qs, x, v, rfl⟩ : ∃ qs x v, ps = qs ++ [(x, v)] := by
      rcases List.eq_nil_or_concat ps with e | ⟨a, b, e⟩
      · rw [e] at ul
        exact absurd (decide_eq_true (by rw [ul]; rfl)) hb
      · exact ⟨a, b.1, b.2, by rw [e, List.concat_eq_append]⟩
    obtain ⟨ws, u, q1, rfl, hu, hq0⟩ := h4.last (by simp)
    obtain rfl : (x, v) = q1 := by
      rw [List.getLast?_concat] at hq0
      exact Option.some.inj hq0
    refine ⟨.ref p, rfl, p, T.cClu, dx, _, _, rfl, h1, T.clClu, T.naClu_past, fldC_past, .inl ⟨rfl, _, SqL.of h3⟩, pl, _, .ref u, rfl, rfl, h3, by simp, ?_⟩
    rw [List.dropLast_concat]
    have nup : u ≠ pl := fun z => by rw [z, h3] at hu; cases hu
    have hu2 : (upd H pl (.lst ws)) u = some (.tup [V.int (x : Nat), V.int (v : Nat)]) := by rw [upd_ne nup]; exact hu
    have h12 : (upd H pl (.lst ws)) p = some (.ins T.cClu dx (fldC n fl fa c tl pl)) := by rw [upd_ne npl]; exact h1
    have B2 : CluB T.cClu (upd H pl (.lst ws)) p pl n fl fa c L qs := ⟨⟨dx, tl, h12, by rw [upd_ne (fun z => by rw [z, h3] at h2; cases h2)]; exact h2⟩, ws, upd_same, (PstL.same (fun u xs e => by rw [upd_ne (fun z => by rw [z, h3] at e; cases e)]; exact e) (paired_init h4))⟩
    have b2 : But pl H (upd H pl (.lst ws)) := fun b o n e => by rw [upd_ne n]; exact e
    refine ⟨u, _, rfl, SqT.of hu2, rfl, _, _, rfl, _, _, rfl, rfl, ?_⟩
    refine ⟨.ref p, rfl, p, dx, _, rfl, h12, fldC_no (by decide +kernel), _, rfl, p, pl, n, fl, fa, c, L, qs, x, rfl, B2, l60, fun H3 b3 B3 => ?_⟩
    exact ⟨_, rfl, q qs x v _ rfl ((But2.of' b2).trans (But2.of b3)) B3⟩
end
/-! ### the answer to a line with one integer -/
def spAnsOne (C : Addr) (R : ErrC) : Sp := fun vs H Q E => ∃ (p pl : Addr) (n fl fa c : Nat) (L : List Nat) (qs : List (Nat × Nat)) (z : Str) (k : Nat), vs = [.ref p, .str z, .int (k : Int)] ∧ CluB C H p pl n fl fa c L qs ∧ CluOk n fl fa c L ∧ LedA n fl L qs ∧ qs.length ≤ 100000 ∧
  AnsQ R C p pl n fl fa c H Q E (ansB n fl fa c L qs z k)
theorem str_test {z y : Str} : decide (V.str z = V.str y) = decide (z = y) := decide_eq_decide.mpr ⟨fun e => by injection e, fun e => by rw [e]⟩
theorem nat_str {m : Nat} (h : m < 2 ^ 1000) : ((m : Int)).natAbs.log2 < 1920 := by
  rw [Int.natAbs_natCast]
  by_cases c : m = 0
  · rw [c]; decide
  · exact Nat.lt_of_lt_of_le ((Nat.log2_lt c).mpr h) (by decide)
theorem rowS_ok {K : PySem.W.Frag} {H : Hp} {t : Addr} {r : List Nat} {Q : VK} {E : XK} (ht : H t = some (.tup (setV r))) (lt : ∀ x ∈ r, x < 60) (l60 : r.length ≤ 60) (q : ∀ H', Same H H' → Q (.str (rowS r)) H') : spShowR K [.ref t] H Q E :=
  ⟨t, _, r.map natS, rfl, SqT.of ht, words_nat lt, by rw [List.length_map]; omega, fun x hx => (by
    obtain ⟨y, hy, rfl⟩ := List.mem_map.mp hx
    exact Nat.le_trans (natS_short (Nat.le_of_lt (lt y hy))) (by decide)), fun H' s => q H' s⟩
section
variable {P : Program} {w : World} {K : PySem.W.Frag} {mg : Str → Option Value} {base : Heap}
theorem ok_ansone (T : Txt K mg) {j : Nat} : FnOk P w K mg base (L2.CX P w) (j + 9) T.fAnsOne T.fdAnsOne ["cluster", "word", "number"] (spAnsOne T.cClu ⟨T.cNoN, T.cNotL, T.cNotD, T.cTooF, T.cNoU⟩) := by
  refine T.FAnsOne.okX scAnsOne (fun vs H Q E h => ?_) (fun cdv A outer s H vs Q E hr h => ?_)
  · obtain ⟨p, pl, n, fl, fa, c, L, qs, z, k, rfl, _⟩ := h
    rfl
  · obtain ⟨p, pl, n, fl, fa, c, L, qs, z, k, rfl, B, ok, led, lq, q⟩ := h
    refine ⟨_, pss_cons (ps_if (pt_cmpR op_eq (pv 1) pe_str (nomark _)) (pss_one (ps_ret (pe_callTy call_str_int (by rfl) T.n_str (by decide +kernel) (pa_cons (pe_meth (pv 0) T.clClu T.mtCluFail (ok_clufail T) hr T.bCluFail .nil (passes_call (takes_of rfl rfl rfl rfl) (fun _ _ _ _ h => h)) (pa_cons (pv 2) pa_nil)) pa_nil)))) pss_nil) (pss_cons (ps_if (pt_cmpR op_eq (pv 1) pe_str (nomark _)) (pss_one (ps_ret (pe_callTy call_str_int (by rfl) T.n_str (by decide +kernel) (pa_cons (pe_meth (pv 0) T.clClu T.mtCluRecover (ok_clurecover T) hr T.bCluRecover .nil (passes_call (takes_of rfl rfl rfl rfl) (fun _ _ _ _ h => h)) (pa_cons (pv 2) pa_nil)) pa_nil)))) pss_nil) (pss_cons (ps_if (pt_cmpR op_eq (pv 1) pe_str (nomark _)) (pss_one (ps_ret (pe_callTy call_str_int (by rfl) T.n_str (by decide +kernel) (pa_cons (pe_meth (pv 0) T.clClu T.mtCluLoad (ok_cluload T) hr T.bCluLoad .nil (passes_call (takes_of rfl rfl rfl rfl) (fun _ _ _ _ h => h)) (pa_cons (pv 2) pa_nil)) pa_nil)))) pss_nil) (pss_cons (ps_if (pt_cmpR op_eq (pv 1) pe_str (nomark _)) (pss_one (ps_ret (pe_call (ok_showr T) hr (by rfl) T.gShowR T.FShowR.kp T.bShowR .nil pass0 (pa_cons (pe_meth (pv 0) T.clClu T.mtCluOwners (ok_cluowners T) hr T.bCluOwners .nil (passes_call (takes_of rfl rfl rfl rfl) (fun _ _ _ _ h => h)) (pa_cons (pv 2) pa_nil)) pa_nil)))) pss_nil) (pss_one (ps_ret (pe_call (ok_showr T) hr (by rfl) T.gShowR T.FShowR.kp T.bShowR .nil pass0 (pa_cons (pe_meth (pv 0) T.clClu T.mtCluListOf (ok_clulistof T) hr T.bCluListOf .nil (passes_call (takes_of rfl rfl rfl rfl) (fun _ _ _ _ h => h)) (pa_cons (pv 2) pa_nil)) pa_nil))))))), ?_⟩
    obtain ⟨⟨dx, tl, h1, h2⟩, us, h3, h4⟩ := id B
    have own : ∀ {H : Hp}, CountV K H (.int (k : Int)) (some (k : Int)) := .inl ⟨_, rfl, rfl⟩
    have fa60 : fa ≤ 60 := Nat.le_trans ok.an ok.std.n60
    have small : ∀ {m : Nat}, m ≤ 2 ^ 510 → ((m : Int)).natAbs.log2 < 1920 := fun h => nat_str (Nat.lt_of_le_of_lt h (by decide +kernel))
    have nk : ∀ {x : Nat}, some (k : Int) = some (x : Int) → x = k := fun e => by have := Option.some.inj e; omega
    unfold ansB at q
    refine ⟨_, rfl, rfl, _, rfl, ?_⟩
    rw [str_test]
    refine ite2 (fun hb => ?_) (fun hb => ?_)
    · rw [if_pos (of_decide_eq_true hb)] at q
      refine ⟨.ref p, rfl, p, dx, _, rfl, h1, fldC_no (by decide +kernel), _, rfl, p, pl, n, fl, fa, c, L, qs, .int k, some (k : Int), rfl, B, ok, own, lq, fun e => ?_, fun e few => ?_, fun x e hx few H' b B' => ?_⟩
      · rw [if_neg (fun hk => by rw [liveB_nat hk] at e; cases e)] at q
        exact q
      · obtain ⟨x, e2, hx⟩ := liveB_some e
        obtain rfl := nk e2
        rw [if_pos hx, if_neg (by omega)] at q
        exact q
      · obtain rfl := nk e
        rw [if_pos hx, if_pos few] at q
        exact ⟨_, rfl, small (failC_big fa60 ok.big), q H' b B'⟩
    rw [if_neg (fun e => hb (decide_eq_true e))] at q
    refine ⟨_, rfl, rfl, _, rfl, ?_⟩
    rw [str_test]
    refine ite2 (fun hb => ?_) (fun hb => ?_)
    · rw [if_pos (of_decide_eq_true hb)] at q
      refine ⟨.ref p, rfl, p, dx, _, rfl, h1, fldC_no (by decide +kernel), _, rfl, p, pl, n, fl, fa, c, L, qs, .int k, some (k : Int), rfl, B, ok, own, lq, fun e => ?_, fun x e hx no H' b B' => ?_⟩
      · rw [if_neg (fun hk => by rw [deadB_nat hk.1 hk.2] at e; cases e)] at q
        exact q
      · obtain rfl := nk e
        rw [if_pos ⟨hx, no⟩] at q
        exact ⟨_, rfl, small (loadC_big fa60 ok.big), q H' b B'⟩
    rw [if_neg (fun e => hb (decide_eq_true e))] at q
    refine ⟨_, rfl, rfl, _, rfl, ?_⟩
    rw [str_test]
    refine ite2 (fun hb => ?_) (fun hb => ?_)
    · rw [if_pos (of_decide_eq_true hb)] at q
      refine ⟨.ref p, rfl, p, dx, _, rfl, h1, fldC_no (by decide +kernel), _, rfl, p, pl, n, fl, fa, c, L, qs, .int k, some (k : Int), rfl, B, ok, own, fun e => ?_, fun e H' s => ?_⟩
      · rw [if_neg (fun hk => by rw [liveB_nat hk] at e; cases e)] at q
        exact q
      · obtain ⟨x, e2, hx⟩ := liveB_some e
        obtain rfl := nk e2
        rw [if_pos hx] at q
        exact ⟨_, rfl, small (loadC_big fa60 ok.big), B.to2 q s⟩
    rw [if_neg (fun e => hb (decide_eq_true e))] at q
    have n6 := ok.std.n60
    refine ⟨_, rfl, rfl, _, rfl, ?_⟩
    rw [str_test]
    refine ite2 (fun hb => ?_) (fun hb => ?_)
    · rw [if_pos (of_decide_eq_true hb)] at q
      refine ⟨.ref p, rfl, p, dx, _, rfl, h1, fldC_no (by decide +kernel), _, rfl, p, pl, n, fl, fa, c, L, qs, .int k, some (k : Int), rfl, B, ok, own, fun e => ?_, fun x e hx H' t s nt ht => ?_⟩
      · rw [if_neg (fun hk => by rw [numB_some, decide_eq_true (show (0 : Int) ≤ (k : Int) by omega), decide_eq_true (show (k : Int) < (c : Int) by omega)] at e; cases e)] at q
        exact q
      · obtain rfl := nk e
        rw [if_pos hx] at q
        have lt := path_lt ok.std hx
        refine rowS_ok (E := E) ht (fun y hy => Nat.lt_of_lt_of_le (lt y ((List.mem_filter.mp (List.mem_of_mem_take hy)).1)) n6) ?_ fun H2 s2 => B.to2 q (s.trans s2)
        refine Nat.le_trans (List.length_take_le _ _) fa60
    rw [if_neg (fun e => hb (decide_eq_true e))] at q
    refine ⟨.ref p, rfl, p, dx, _, rfl, h1, fldC_no (by decide +kernel), _, rfl, p, pl, n, fl, fa, c, L, qs, .int k, some (k : Int), rfl, B, ok, own, fun e => ?_, fun x e hx H' t s nt ht => ?_⟩
    · rw [if_neg (fun hk => by rw [numB_some, decide_eq_true (show (0 : Int) ≤ (k : Int) by omega), decide_eq_true (show (k : Int) < (c : Int) by omega)] at e; cases e)] at q
      exact q
    · obtain rfl := nk e
      rw [if_pos hx] at q
      have lt := path_lt ok.std hx
      refine rowS_ok (E := E) ht (fun y hy => Nat.lt_of_lt_of_le (lt y hy) n6) ?_ fun H2 s2 => B.to2 q (s.trans s2)
      rw [path_len]
      omega
end
/-! ### the answer to a line of one word -/
def spAnsAl (C : Addr) (R : ErrC) : Sp := fun vs H Q E => ∃ (p pl : Addr) (n fl fa c : Nat) (L : List Nat) (qs : List (Nat × Nat)) (z : Str), vs = [.ref p, .str z] ∧ CluB C H p pl n fl fa c L qs ∧ CluOk n fl fa c L ∧ LedA n fl L qs ∧ qs.length ≤ 100000 ∧
  AnsQ R C p pl n fl fa c H Q E (ansA n fl fa c L qs z)
theorem clusT_short {n fl fa c : Nat} {L : List Nat} (n60 : n ≤ 60) (fl60 : fl ≤ 60) (fa60 : fa ≤ 60) (cb : c < 2 ^ 500) : (clusT n fl fa c L).length ≤ 40000 := by
  have w1000 : ∀ k : Nat, k ≤ 60 → k < 2 ^ 1000 := fun k hk => Nat.lt_of_le_of_lt hk (by decide +kernel)
  have c1000 : c < 2 ^ 1000 := Nat.lt_trans cb (by decide +kernel)
  have g60 : ∀ x ∈ goneL n L, x < 60 := fun x hx => by
    have := mem_range0.mp (List.mem_filter.mp hx).1
    omega
  have gl : (goneL n L).length ≤ 60 := by
    have := List.length_filter_le (fun x => !decide (x ∈ L)) (List.range' 0 n)
    rw [List.length_range'] at this
    exact Nat.le_trans this n60
  have a0 : clusterS.length = 7 := by decide +kernel
  have a1 : deadS.length = 4 := by decide +kernel
  have a2 : blankS.length = 1 := by decide +kernel
  have a3 : lineS.length = 1 := by decide +kernel
  have a8 : dashS.length = 1 := by decide +kernel
  have wb : ∀ w ∈ (if goneL n L = [] then [dashS] else (goneL n L).map natS), w.length ≤ 400 := fun w hw => by
    split at hw
    · rw [List.mem_singleton.mp hw]
      decide +kernel
    · obtain ⟨x, hx, rfl⟩ := List.mem_map.mp hw
      exact natS_small (Nat.lt_trans (g60 x hx) (by decide +kernel))
  have wl : (if goneL n L = [] then [dashS] else (goneL n L).map natS).length ≤ 60 := by
    split
    · exact (by decide : 1 ≤ 60)
    · rw [List.length_map]
      exact gl
  have j0 := join_len lineS [headT n fl fa c, deadT (goneL n L)]
  have j1 := join_len blankS [clusterS, natS n, natS fl, natS fa, natS c]
  have j2 := join_len blankS (deadS :: if goneL n L = [] then [dashS] else (goneL n L).map natS)
  have m1 := sum_le (f := fun x : Str => x.length) wb
  have a4 := natS_small (w1000 n n60)
  have a5 := natS_small (w1000 fl fl60)
  have a6 := natS_small (w1000 fa fa60)
  have a7 := natS_small c1000
  have e1 : (headT n fl fa c).length = (Txt.join blankS [clusterS, natS n, natS fl, natS fa, natS c]).length := rfl
  have e2 : (deadT (goneL n L)).length = (Txt.join blankS (deadS :: if goneL n L = [] then [dashS] else (goneL n L).map natS)).length := rfl
  simp only [List.map_cons, List.map_nil, List.sum_cons, List.sum_nil, List.length_cons, List.length_nil, a0, a1, a2, a3] at j0 j1 j2
  show (Txt.join lineS [headT n fl fa c, deadT (goneL n L)]).length ≤ 40000
  omega
section
variable {P : Program} {w : World} {K : PySem.W.Frag} {mg : Str → Option Value} {base : Heap}
theorem ok_ansal (T : Txt K mg) {j : Nat} : FnOk P w K mg base (L2.CX P w) (j + 9) T.fAnsAl T.fdAnsAl ["cluster", "word"] (spAnsAl T.cClu ⟨T.cNoN, T.cNotL, T.cNotD, T.cTooF, T.cNoU⟩) := by
  refine Fun_okT T.FAnsAl scAnsAl (by decide +kernel) (by decide) (fun vs H Q E h => ?_) (fun cdv A outer s H vs Q E hr h => ?_)
  · obtain ⟨p, pl, n, fl, fa, c, L, qs, z, rfl, _⟩ := h
    rfl
  · obtain ⟨p, pl, n, fl, fa, c, L, qs, z, rfl, B, ok, led, lq, q⟩ := h
    refine ⟨_, psst_cons (PST.of (ps_if (pt_cmpR op_eq (pv 1) pe_str (nomark _)) (pss_one (ps_ret (pe_call (ok_showr T) hr (by rfl) T.gShowR T.FShowR.kp T.bShowR .nil pass0 (pa_cons (pe_meth0 (pv 0) T.clClu T.mtCluLive (ok_clulive T) hr T.bCluLive .nil pass0) pa_nil)))) pss_nil)) (psst_cons (PST.of (ps_if (pt_cmpR op_eq (pv 1) pe_str (nomark _)) (pss_one (ps_ret (pe_callTy call_str_int (by rfl) T.n_str (by decide +kernel) (pa_cons (pe_meth0 (pv 0) T.clClu T.mtCluCopied (ok_clucopied T) hr T.bCluCopied .nil pass0) pa_nil)))) pss_nil)) (psst_cons (PST.of (ps_if (pt_cmpR op_eq (pv 1) pe_str (nomark _)) (pss_one (ps_ret (pe_callTy call_str_int (by rfl) T.n_str (by decide +kernel) (pa_cons (pe_meth0 (pv 0) T.clClu T.mtCluChanges (ok_cluchanges T) hr T.bCluChanges .nil pass0) pa_nil)))) pss_nil)) (psst_cons (PST.of (ps_if (pt_cmpR op_eq (pv 1) pe_str (nomark _)) (pss_one (ps_ret (pe_callTy call_str_int (by rfl) T.n_str (by decide +kernel) (pa_cons (pe_meth0 (pv 0) T.clClu T.mtCluUndo (ok_cluundo T) hr T.bCluUndo .nil (passes_call (takes_of rfl rfl rfl rfl) (fun _ _ _ _ h => h))) pa_nil)))) pss_nil)) (CwR.psst_one (CwR.pst_ret (CwR.pet_replC (pe_call (ok_showc T) hr (by rfl) T.gShowC T.FShowC.kp T.bShowC .nil pass0 (pa_cons (pv 0) pa_nil)))))))), ?_⟩
    obtain ⟨⟨dx, tl, h1, h2⟩, us, h3, h4⟩ := id B
    have fa60 : fa ≤ 60 := Nat.le_trans ok.an ok.std.n60
    have n60 := ok.std.n60
    have l60 := ok.sixty
    have fl60 : fl ≤ 60 := by have := ok.fn; omega
    unfold ansA at q
    refine ⟨_, rfl, rfl, _, rfl, ?_⟩
    rw [str_test]
    refine ite2 (fun hb => ?_) (fun hb => ?_)
    · rw [if_pos (of_decide_eq_true hb)] at q
      refine ⟨.ref p, rfl, p, dx, _, rfl, h1, fldC_no (by decide +kernel), p, pl, n, fl, fa, c, L, qs, rfl, B, fun t ht => ?_⟩
      exact rowS_ok (E := E) ht (fun y hy => Nat.lt_of_lt_of_le (ok.lt y hy) n60) l60 fun H2 s2 => B.to2 q s2
    rw [if_neg (fun e => hb (decide_eq_true e))] at q
    refine ⟨_, rfl, rfl, _, rfl, ?_⟩
    rw [str_test]
    refine ite2 (fun hb => ?_) (fun hb => ?_)
    · rw [if_pos (of_decide_eq_true hb)] at q
      refine ⟨.ref p, rfl, p, dx, _, rfl, h1, fldC_no (by decide +kernel), p, pl, n, fl, fa, c, L, qs, rfl, B, ?_⟩
      exact ⟨_, rfl, nat_str (Nat.lt_trans (led.big lq) (by decide +kernel)), B.to2 q (Same.refl _)⟩
    rw [if_neg (fun e => hb (decide_eq_true e))] at q
    refine ⟨_, rfl, rfl, _, rfl, ?_⟩
    rw [str_test]
    refine ite2 (fun hb => ?_) (fun hb => ?_)
    · rw [if_pos (of_decide_eq_true hb)] at q
      refine ⟨.ref p, rfl, p, dx, _, rfl, h1, fldC_no (by decide +kernel), p, pl, n, fl, fa, c, L, qs, rfl, B, ?_⟩
      exact ⟨_, rfl, nat_str (Nat.lt_of_le_of_lt lq (by decide +kernel)), B.to2 q (Same.refl _)⟩
    rw [if_neg (fun e => hb (decide_eq_true e))] at q
    refine ⟨_, rfl, rfl, _, rfl, ?_⟩
    rw [str_test]
    refine ite2 (fun hb => ?_) (fun hb => ?_)
    · rw [if_pos (of_decide_eq_true hb)] at q
      refine ⟨.ref p, rfl, p, dx, _, rfl, h1, fldC_no (by decide +kernel), p, pl, n, fl, fa, c, L, qs, rfl, B, l60, fun e => ?_, fun rs x v H' e b B' => ?_⟩
      · subst e
        exact q _ (Same.refl _)
      · subst e
        rw [List.getLast?_concat] at q
        dsimp only at q
        rw [List.dropLast_concat] at q
        have hx := (led.pop).2
        exact ⟨_, rfl, nat_str (Nat.lt_of_lt_of_le hx (Nat.le_trans n60 (by decide +kernel))), q H' b B'⟩
    rw [if_neg (fun e => hb (decide_eq_true e))] at q
    refine ⟨.ref p, rfl, p, pl, n, fl, fa, c, L, qs, rfl, B, n60, fl60, fa60, ok.big, l60, fun H' s => ?_⟩
    refine ⟨_, rfl, ?_, B.to2 q s⟩
    have := clusT_short (L := L) n60 fl60 fa60 ok.big
    have e : (Str.ofString " | ").length = 3 := by decide +kernel
    show _ + (_ + 1) * (Str.ofString " | ").length ≤ _
    rw [e]
    omega
end
/-! ### the answer to a line with two integers -/
def spAnsSucc (C : Addr) (R : ErrC) : Sp := fun vs H Q E => ∃ (p pl : Addr) (n fl fa c : Nat) (L : List Nat) (qs : List (Nat × Nat)) (k x : Nat), vs = [.ref p, .int (k : Int), .int (x : Int)] ∧ CluB C H p pl n fl fa c L qs ∧ CluOk n fl fa c L ∧
  AnsQ R C p pl n fl fa c H Q E (ansC n fl fa c L qs k x)
section
variable {P : Program} {w : World} {K : PySem.W.Frag} {mg : Str → Option Value} {base : Heap}
theorem ok_anssucc (T : Txt K mg) {j : Nat} : FnOk P w K mg base (L2.CX P w) (j + 9) T.fAnsSucc T.fdAnsSucc ["cluster", "shard", "server"] (spAnsSucc T.cClu ⟨T.cNoN, T.cNotL, T.cNotD, T.cTooF, T.cNoU⟩) := by
  refine T.FAnsSucc.okX scAnsSucc (fun vs H Q E h => ?_) (fun cdv A outer s H vs Q E hr h => ?_)
  · obtain ⟨p, pl, n, fl, fa, c, L, qs, k, x, rfl, _⟩ := h
    rfl
  · obtain ⟨p, pl, n, fl, fa, c, L, qs, k, x, rfl, B, ok, q⟩ := h
    refine ⟨_, pss_cons (ps_set (i := 3) scAnsSucc.nd rfl (.inl rfl) (pe_meth (pv 0) T.clClu T.mtCluSuccessor (ok_clusuccessor T) hr T.bCluSuccessor .nil (passes_call (takes_of rfl rfl rfl rfl) (fun _ _ _ _ h => h)) (pa_cons (pv 1) (pa_cons (pv 2) pa_nil)))) (pss_cons (ps_if (pt_cmpR op_isN (pv 3) pe_non (nomark _)) (pss_one (ps_ret pe_str)) pss_nil) (pss_one (ps_ret (pe_callTy call_str_int (by rfl) T.n_str (by decide +kernel) (pa_cons (pv 3) pa_nil))))), ?_⟩
    obtain ⟨⟨dx, tl, h1, h2⟩, us, h3, h4⟩ := id B
    have own : ∀ {H : Hp} {k : Nat}, CountV K H (.int (k : Int)) (some (k : Int)) := .inl ⟨_, rfl, rfl⟩
    unfold ansC at q
    refine ⟨.ref p, rfl, p, dx, _, rfl, h1, fldC_no (by decide +kernel), _, rfl, _, rfl, p, pl, n, fl, fa, c, L, qs, .int k, some (k : Int), .int x, some (x : Int), rfl, B, ok, own, own, fun e => ?_, fun k' e hk => ⟨fun e2 => ?_, fun e2 few => ?_, fun x' e2 hx few H' s => ?_⟩⟩
    · rw [if_neg (fun hk => by rw [numB_some, decide_eq_true (show (0 : Int) ≤ (k : Int) by omega), decide_eq_true (show (k : Int) < (c : Int) by omega)] at e; cases e)] at q
      exact q
    · obtain rfl : k = k' := by have := Option.some.inj e; omega
      rw [if_pos hk, if_neg (fun hx => by rw [liveB_nat hx] at e2; cases e2)] at q
      exact q
    · obtain rfl : k = k' := by have := Option.some.inj e; omega
      obtain ⟨x', e3, hx⟩ := liveB_some e2
      obtain rfl : x = x' := by have := Option.some.inj e3; omega
      rw [if_pos hk, if_pos hx, if_neg (by omega)] at q
      exact q
    · obtain rfl : k = k' := by have := Option.some.inj e; omega
      obtain rfl : x = x' := by have := Option.some.inj e2; omega
      rw [if_pos hk, if_pos hx, if_pos few] at q
      generalize hv : (if L.length ≤ fa then V.non else sucV L (path n (min n (fl + fa)) c k).1 fa x) = v at q ⊢
      have fin := B.to2 q s
      have hcase : v = .non ∨ ∃ m : Nat, v = .int (m : Nat) ∧ m < 60 := by
        rw [← hv]
        split
        · exact .inl rfl
        · unfold sucV
          split
          · refine .inr ⟨_, rfl, ?_⟩
            rw [List.getD_eq_getElem?_getD]
            cases g : (inL L (path n (min n (fl + fa)) c k).1)[fa]? with
            | none => exact (by decide : 0 < 60)
            | some y => exact Nat.lt_of_lt_of_le (path_lt ok.std hk y (List.mem_filter.mp (List.mem_of_getElem? g)).1) ok.std.n60
          · exact .inl rfl
      clear hv
      rcases hcase with rfl | ⟨m, rfl, hm⟩
      · refine ⟨_, rfl, rfl, true, rfl, ?_⟩
        show ite (true = true) _ _
        rw [if_pos rfl]
        exact fin
      · refine ⟨_, rfl, rfl, false, rfl, iteF ?_⟩
        exact ⟨_, rfl, _, rfl, nat_str (Nat.lt_trans hm (by decide +kernel)), fin⟩
end
/-! ### the law's stream of drawn numbers -/
def StrAt (H : Hp) (p : Addr) : Prop := ∃ a b : Int, H p = some (.lst [.int a, .int b]) ∧ (0 ≤ a ∧ a < 10 ^ 900) ∧ (0 ≤ b ∧ b < 2305843009213693951)
theorem StrAt.same {H H' : Hp} {p : Addr} (h : StrAt H p) (s : Same H H') : StrAt H' p := by
  obtain ⟨a, b, h1, h2⟩ := h
  exact ⟨a, b, s _ _ h1, h2⟩
theorem StrAt.ne {H : Hp} {p q : Addr} (h : StrAt H p) (n : H q = none) : p ≠ q := by
  obtain ⟨a, b, h1, _⟩ := h
  exact ne_of_none h1 n
theorem StrAt.lst {H : Hp} {p : Addr} (h : StrAt H p) : ∃ ys, H p = some (.lst ys) := by
  obtain ⟨a, b, h1, _⟩ := h
  exact ⟨_, h1⟩
theorem StrAt.upd {H : Hp} {p q : Addr} {o : HO} (h : StrAt H p) (n : p ≠ q) : StrAt (L2.upd H q o) p := by
  obtain ⟨a, b, h1, h2⟩ := h
  exact ⟨a, b, by rw [upd_ne n]; exact h1, h2⟩
def spStream (K : PySem.W.Frag) : Sp := fun vs H Q _ => ∃ (a : Addr) (ns : List Int) (i : Nat), vs = [.ref a, .int i] ∧ SqL K H a (ns.map V.int) ∧ i ≤ 100 ∧ ns.length ≤ 1000 ∧ ∀ H' p, Same H H' → H p = none → StrAt H' p → Q (.ref p) H'
theorem own_okS (x : Int) (c : Bool) : 0 ≤ x % (10 : Int) ^ 900 * (if c then 1 else 0) ∧ x % (10 : Int) ^ 900 * (if c then 1 else 0) < 10 ^ 900 := by
  have p : (0 : Int) < 10 ^ 900 := Int.pow_pos (by decide)
  generalize (10 : Int) ^ 900 = B at p
  have h1 := Int.emod_nonneg x (show B ≠ 0 by omega)
  have h2 := Int.emod_lt_of_pos x p
  cases c with
  | true =>
    rw [if_pos rfl, Int.mul_one]
    exact ⟨h1, h2⟩
  | false =>
    rw [if_neg (by decide), Int.mul_zero]
    exact ⟨Int.le_refl _, p⟩
theorem bit_inS (c : Bool) : -(2 ^ 64) < (if c then (1 : Int) else 0) ∧ (if c then (1 : Int) else 0) < 2 ^ 64 := by
  cases c <;> decide
section
variable {P : Program} {w : World} {K : PySem.W.Frag} {mg : Str → Option Value} {base : Heap}
theorem ok_stream (T : Txt K mg) {j : Nat} : FnOk P w K mg base CX0 (j + 1) T.fStream T.fdStream ["_law_script", "_law_k"] (spStream K) := by
  refine T.FStream.ok scStream (fun vs H Q E h => ?_) (fun cdv A outer s H vs Q E hr h => ?_)
  · obtain ⟨a, ns, i, rfl, _⟩ := h
    rfl
  · obtain ⟨a, ns, i, rfl, hS, hi, hl, q⟩ := h
    refine ⟨_, C8.pss_cut (ps_set (i := 2) scStream.nd rfl (.inl rfl) (pe_ifExp (pt_cmpR op_lt (pv 1) (pe_callB (call_lenK K) (by rfl) T.n_len PySem.boot_len (pa_cons (pv 0) pa_nil)) (nomark _)) (pe_ix (ix_listK K) (pv 0) (pv 1) (fun _ _ => rfl)) (pe_op op_add (pe_op op_mul pe_int (pv 1)) (pe_callB (call_lenK K) (by rfl) T.n_len PySem.boot_len (pa_cons (pv 0) pa_nil))))) (pss_cons (ps_set (i := 3) scStream.nd rfl (.inl rfl) (pe_op op_mul (pe_op op_mod (pe_callB call_abs (by rfl) T.n_abs (by decide +kernel) (pa_cons (pv 2) pa_nil)) (pe_callTy (cr_intL T.kitDig) (by rfl) T.n_int (by decide +kernel) (pa_cons (pe_op op_add_str pe_str (pe_op op_repS pe_str pe_int)) pa_nil))) (pe_callTy call_int1 (by rfl) T.n_int (by decide +kernel) (pa_cons (pe_cmpR op_ge (pe_callB call_abs (by rfl) T.n_abs (by decide +kernel) (pa_cons (pv 2) pa_nil)) (pe_op op_pow pe_int pe_int) (nomark _)) pa_nil)))) (pss_one (ps_ret (pe_lst (pa_cons (pv 3) (pa_cons (pe_op op_mod (pe_op op_mul (pe_op op_add (pe_op op_add (pe_op op_mod (pv 2) pe_int) (pe_op op_mul (pe_op op_mul pe_int (pv 1)) (pv 1))) pe_int) pe_int) pe_int) pa_nil)))))), ?_⟩
    refine ⟨fun σ H2 => ∃ x : Int, σ = [some (.ref a), some (.int i), some (.int x), none] ∧ H2 = H, ?_, ?_⟩
    · refine ⟨_, rfl, .ref a, rfl, a, _, rfl, .inl hS, _, _, rfl, rfl, _, rfl, ite2 (fun h1 => ?_) (fun h1 => ?_)⟩
      · have hlt : i < ns.length := by
          have h2 := of_decide_eq_true h1
          rw [List.length_map] at h2
          omega
        exact ⟨.ref a, rfl, _, rfl, a, _, _, _, rfl, rfl, hS, atI_nat (v := V.int ns[i]) (by rw [List.getElem?_map, List.getElem?_eq_getElem hlt]; rfl), _, rfl, rfl⟩
      · exact ⟨_, rfl, _, _, rfl, rfl, .inl ⟨by decide, by decide⟩, .ref a, rfl, a, _, rfl, .inl hS, _, _, rfl, rfl, _, rfl, rfl⟩
    · rintro σ H2 ⟨x, rfl, rfl⟩
      refine ⟨_, rfl, _, rfl, Str.ofString "0", 900, rfl, rfl, by decide, by decide, by decide, by decide, (by show zeros900.length ≤ sizeLine; rw [zeros_len, sizeLine_eq]; decide), Str.ofString "1", zeros900, rfl, rfl, (by rw [zeros_len, sizeLine_eq]; decide), Str.ofString "1" ++ zeros900, 10 ^ 900, rfl, big_text, big_seen, (by rw [big_len]; decide), _, _, rfl, rfl, Int.pow_pos (by decide), ?_⟩
      refine ⟨_, rfl, _, rfl, _, _, rfl, rfl, ⟨by decide, by decide, by decide⟩, _, _, rfl, rfl, .inr ⟨_, rfl, _, _, rfl, rfl, .inr (bit_inS _), ?_⟩⟩
      refine ⟨_, rfl, _, rfl, _, _, rfl, rfl, (show (0 : Int) < 2305843009213693951 by decide), _, rfl, _, _, rfl, rfl, .inl ⟨by decide, by decide⟩, _, rfl, _, _, rfl, rfl, .inr ⟨by omega, by omega⟩, _, _, rfl, rfl, _, _, rfl, rfl, _, _, rfl, rfl, .inr ⟨by decide, by decide⟩, _, _, rfl, rfl, (show (0 : Int) < 2305843009213693951 by decide), ?_⟩
      refine ⟨by show 2 ≤ sizeLine; decide, fun p np => ?_⟩
      refine q _ p (same_new np) np ⟨_, _, upd_same, own_okS _ _, ⟨Int.emod_nonneg _ (by decide), Int.emod_lt_of_pos _ (by decide)⟩⟩
end
/-! ### a number drawn -/
def spDraw : Sp := fun vs H Q _ => ∃ (p : Addr) (u : Int), vs = [.ref p, .int u] ∧ StrAt H p ∧ 1 ≤ u ∧ u < 2 ^ 1000 ∧
  ∀ (r : Int) (H' : Hp), 0 ≤ r → r < u → StrAt H' p → But p H H' → Q (.int r) H'
section
variable {P : Program} {w : World} {K : PySem.W.Frag} {mg : Str → Option Value} {base : Heap}
theorem ok_draw (T : Txt K mg) {j : Nat} : FnOk P w K mg base CX0 (j + 1) T.fDraw T.fdDraw ["_law_stream_here", "_law_below"] spDraw := by
  refine T.FDraw.ok scDraw (fun vs H Q E h => ?_) (fun cdv A outer s H vs Q E hr h => ?_)
  · obtain ⟨p, u, rfl, _⟩ := h
    rfl
  · obtain ⟨p, u, rfl, ⟨a, b, hp, ha, hb⟩, hu1, hu2, q⟩ := h
    refine ⟨_, pss_cons (ps_if (pt_cmpR op_gt (pe_ix (ix_listK K) (pv 0) pe_int (fun _ _ => rfl)) pe_int (nomark _)) (pss_cons (ps_set (i := 2) scDraw.nd rfl (.inl rfl) (pe_op op_mod (pe_ix (ix_listK K) (pv 0) pe_int (fun _ _ => rfl)) (pv 1))) (pss_cons (ps_asg (pe_op op_fdivW (pe_ix (ix_listK K) (pv 0) pe_int (fun _ _ => rfl)) (pv 1)) (pg_sub (pv 0) pe_int set_list)) (pss_one (ps_ret (pv 2))))) pss_nil) (pss_cons (ps_asg (pe_op op_mod (pe_op op_add (pe_op op_mul (pe_ix (ix_listK K) (pv 0) pe_int (fun _ _ => rfl)) pe_int) pe_int) pe_int) (pg_sub (pv 0) pe_int set_list)) (pss_one (ps_ret (pe_op op_mod (pe_op op_fdiv (pe_op op_mod (pe_op op_mul (pe_op op_fdiv (pe_ix (ix_listK K) (pv 0) pe_int (fun _ _ => rfl)) pe_int) (pe_op op_add (pe_op op_mod (pe_ix (ix_listK K) (pv 0) pe_int (fun _ _ => rfl)) pe_int) pe_int)) pe_int) pe_int) (pv 1))))), ?_⟩
    refine ⟨.ref p, rfl, p, _, _, _, rfl, rfl, SqL.of hp, rfl, _, _, rfl, rfl, _, rfl, ite2 (fun h1 => ?_) (fun h1 => ?_)⟩
    · have h0 : 0 < a := of_decide_eq_true h1
      refine ⟨.ref p, rfl, p, _, _, _, rfl, rfl, SqL.of hp, rfl, _, rfl, _, _, rfl, rfl, by omega, ?_⟩
      refine ⟨.ref p, rfl, p, _, _, _, rfl, rfl, SqL.of hp, rfl, _, rfl, _, _, rfl, rfl, wide_div (b := 1000) (by omega) (by omega) (by decide) (by decide), ?_⟩
      refine ⟨.ref p, rfl, p, _, _, 0, rfl, rfl, hp, rfl, ?_⟩
      refine ⟨_, rfl, q _ _ (Int.emod_nonneg _ (by omega)) (Int.emod_lt_of_pos _ (by omega)) ⟨a / u, b, upd_same, ?_, hb⟩ (But.refl p H).upd⟩
      have h3 : a / u ≤ a := Int.ediv_le_self _ (by omega)
      exact ⟨Int.ediv_nonneg (by omega) (by omega), Int.lt_of_le_of_lt h3 ha.2⟩
    · refine ⟨.ref p, rfl, p, _, _, _, rfl, rfl, SqL.of hp, rfl, _, _, rfl, rfl, .inl ⟨by omega, by omega⟩, _, _, rfl, rfl, _, _, rfl, rfl, (show (0 : Int) < 2305843009213693951 by decide), .ref p, rfl, p, _, _, 1, rfl, rfl, hp, rfl, ?_⟩
      have c0 := Int.emod_nonneg (b * 1181783497276652981 + 12345678910987) (show (2305843009213693951 : Int) ≠ 0 by decide)
      have c1 := Int.emod_lt_of_pos (b * 1181783497276652981 + 12345678910987) (show (0 : Int) < 2305843009213693951 by decide)
      dsimp only
      generalize (b * 1181783497276652981 + 12345678910987) % 2305843009213693951 = c at c0 c1 ⊢
      have hp2 : (upd H p (.lst ([V.int a, V.int b].set 1 (V.int c)))) p = some (.lst [V.int a, V.int c]) := upd_same
      have d0 := Int.ediv_nonneg c0 (show (0 : Int) ≤ 65537 by decide)
      have d1 : c / 65537 ≤ c := Int.ediv_le_self _ c0
      refine ⟨.ref p, rfl, p, _, _, _, rfl, rfl, SqL.of hp2, rfl, _, _, rfl, rfl, ⟨by decide, by decide⟩, .ref p, rfl, p, _, _, _, rfl, rfl, SqL.of hp2, rfl, _, _, rfl, rfl, (show (0 : Int) < 65537 by decide), _, _, rfl, rfl, _, _, rfl, rfl, .inl ⟨by omega, by omega⟩, _, _, rfl, rfl, (show (0 : Int) < 2305843009213693921 by decide), _, _, rfl, rfl, ⟨by decide, by decide⟩, _, rfl, _, _, rfl, rfl, by omega, ?_⟩
      exact q _ _ (Int.emod_nonneg _ (by omega)) (Int.emod_lt_of_pos _ (by omega)) ⟨a, c, hp2, ha, c0, c1⟩ (But.refl p H).upd
end
/-! ### one of some things -/
def spPick (K : PySem.W.Frag) : Sp := fun vs H Q _ => ∃ (p a : Addr) (xs : List V), vs = [.ref p, .ref a] ∧ StrAt H p ∧ a ≠ p ∧ (SqL K H a xs ∨ SqT K H a xs) ∧ 1 ≤ xs.length ∧ xs.length ≤ 100000 ∧
  ∀ (v : V) (H' : Hp), v ∈ xs → StrAt H' p → But p H H' → Q v H'
theorem SqT_butP {K : PySem.W.Frag} {H H' : Hp} {a p : Addr} {xs ys : List V} (h : SqT K H a xs) (hp : H p = some (.lst ys)) (b : But p H H') : SqT K H' a xs := by
  rcases h with (h | ⟨o, h⟩) | h
  · exact .inl (.inl (b _ _ (fun c => by rw [c, hp] at h; cases h) h))
  · exact .inl (.inr ⟨o, b _ _ (fun c => by rw [c, hp] at h; cases h) h⟩)
  · exact .inr h
theorem SqL_butP {K : PySem.W.Frag} {H H' : Hp} {a p : Addr} {xs : List V} (h : SqL K H a xs) (n : a ≠ p) (b : But p H H') : SqL K H' a xs := by
  rcases h with (h | ⟨o, h⟩) | h
  · exact .inl (.inl (b _ _ n h))
  · exact .inl (.inr ⟨o, b _ _ n h⟩)
  · exact .inr h
section
variable {P : Program} {w : World} {K : PySem.W.Frag} {mg : Str → Option Value} {base : Heap}
theorem ok_pick (T : Txt K mg) {j : Nat} : FnOk P w K mg base CX0 (j + 2) T.fPick T.fdPick ["_law_stream_here", "_law_items"] (spPick K) := by
  refine T.FPick.ok scPick (fun vs H Q E h => ?_) (fun cdv A outer s H vs Q E hr h => ?_)
  · obtain ⟨p, a, xs, rfl, _⟩ := h
    rfl
  · obtain ⟨p, a, xs, rfl, P0, nap, hA, h1, h2, q⟩ := h
    refine ⟨_, pss_one (ps_ret (pe_ix (ix_either K) (pv 1) (pe_call (ok_draw T) hr (by rfl) T.gDraw T.FDraw.kp T.bDraw .nil pass0 (pa_cons (pv 0) (pa_cons (pe_callB (call_lenK K) (by rfl) T.n_len PySem.boot_len (pa_cons (pv 1) pa_nil)) pa_nil))) (fun _ _ => rfl))), ?_⟩
    refine ⟨.ref a, rfl, .ref p, rfl, .ref a, rfl, a, _, rfl, hA, p, _, rfl, P0, by omega, ?_, fun r H2 r0 rl P2 B2 => ?_⟩
    · exact Int.lt_trans (show ((xs.length : Nat) : Int) < 1000000 by omega) (by decide +kernel)
    obtain ⟨k, rfl⟩ := Int.eq_ofNat_of_zero_le r0
    have hk : k < xs.length := by omega
    obtain ⟨ys, hp⟩ := P0.lst
    rcases hA with hA | hA
    · exact .inl ⟨a, _, _, _, rfl, rfl, SqL_butP hA nap B2, atI_nat (List.getElem?_eq_getElem hk), q _ _ (List.getElem_mem _) P2 B2⟩
    · exact .inr ⟨a, _, _, _, rfl, rfl, SqT_butP hA hp B2, atI_nat (List.getElem?_eq_getElem hk), q _ _ (List.getElem_mem _) P2 B2⟩
end
/-! ### the law's binomial -/
def spComb : Sp := fun vs H Q _ => ∃ n k : Nat, vs = [.int n, .int k] ∧ n ≤ 60 ∧ k ≤ n ∧ Q (.int (C n k : Nat)) H
section
variable {P : Program} {w : World} {K : PySem.W.Frag} {mg : Str → Option Value} {base : Heap}
theorem ok_comb (T : Txt K mg) {j : Nat} : FnOk P w K mg base CX0 (j + 1) T.fComb T.fdComb ["_law_n", "_law_k"] spComb := by
  refine T.FComb.ok scComb (fun vs H Q E h => ?_) (fun cdv A outer s H vs Q E hr h => ?_)
  · obtain ⟨n, k, rfl, _⟩ := h
    rfl
  · obtain ⟨n, k, rfl, hn, hk, q⟩ := h
    refine ⟨_, pss_cons (ps_set (i := 2) scComb.nd rfl (.inl rfl) pe_int) (pss_cons (ps_for PassesOwn.never rfl (pi_range1 (by rfl) T.n_range (pa_cons (pv 1) pa_nil)) (pg_name (i := 3) scComb.nd rfl (.inl rfl)) (pss_one (ps_set (i := 2) scComb.nd rfl (.inl rfl) (pe_op op_fdiv (pe_op op_mul (pv 2) (pe_op op_sub (pv 0) (pv 3))) (pe_op op_add (pv 3) pe_int))))) (pss_one (ps_ret (pe_ifExp (pt_cmpR op_le (pv 1) (pv 0) (nomark _)) (pv 2) pe_int)))), ?_⟩
    refine ⟨_, rfl, (k : Int), rfl, by omega, by omega, ?_⟩
    refine for_range (lo := 0) (n := (k : Int).toNat) (fun i σ H2 => ∃ v, σ = [some (.int n), some (.int k), some (.int (C n i : Nat)), v] ∧ H2 = H) ⟨none, by rw [C_zero]; rfl, rfl⟩ ?_ ?_
    · rintro i σ H2 hi ⟨v, rfl, rfl⟩
      have c60 := C_60 n i hn
      rw [Int.zero_add]
      refine ⟨_, rfl, _, rfl, _, rfl, _, _, rfl, rfl, _, _, rfl, rfl, .inr ⟨by omega, by omega⟩, _, rfl, _, _, rfl, rfl, _, _, rfl, rfl, ⟨by omega, by omega⟩, some (.int (i : Int)), ?_, rfl⟩
      have e := C_div n i (by omega)
      rw [show (n : Int) + 1 - (1 + (i : Int)) = (n : Int) - (i : Int) by omega, show 1 + (i : Int) = (i : Int) + 1 by omega] at e
      rw [← e]
      rfl
    · rintro σ H2 ⟨v, rfl, rfl⟩
      rw [Int.toNat_natCast]
      exact ⟨_, rfl, _, rfl, _, _, rfl, rfl, _, rfl, ite2 (fun _ => ⟨_, rfl, q⟩) (fun z => absurd (decide_eq_true (show (k : Int) ≤ (n : Int) by omega)) z)⟩
end
/-! ### the law's own list of a shard -/
def spOrderS (K : PySem.W.Frag) : Sp := fun vs H Q _ => ∃ n d c k : Nat, vs = [.int n, .int d, .int c, .int k] ∧ Std n d c ∧ k < c ∧ c < 2 ^ 500 ∧
  ∀ H' t, Same H H' → H t = none → H' t = some (.tup (setV (path n d c k).1)) → Q (.ref t) H'
section
variable {P : Program} {w : World} {K : PySem.W.Frag} {mg : Str → Option Value} {base : Heap}
theorem ok_orders (T : Txt K mg) {j : Nat} : FnOk P w K mg base CX0 (j + 2) T.fOrderS T.fdOrderS ["_law_n", "_law_depth", "_law_total", "_law_number"] (spOrderS K) := by
  refine T.FOrderS.ok scOrderS (fun vs H Q E h => ?_) (fun cdv A outer s H vs Q E hr h => ?_)
  · obtain ⟨n, d, c, k, rfl, _⟩ := h
    rfl
  · obtain ⟨n, d, c, k, rfl, st, hk, hc, q⟩ := h
    have hn := st.n60
    have hd := st.dn
    have h1 := st.n1
    refine ⟨_, pss_cons (ps_asg (pe_tup (pa_cons (pe_lst pa_nil) (pa_cons (pv 3) (pa_cons (pe_lst pa_nil) pa_nil)))) (pg_tup rfl (pgs_cons (pg_name (i := 4) scOrderS.nd rfl (.inr rfl)) (pgs_cons (pg_name (i := 5) scOrderS.nd rfl (.inl rfl)) (pgs_cons (pg_name (i := 6) scOrderS.nd rfl (.inl rfl)) pgs_nil))))) (pss_cons (ps_for PassesOwn.never rfl (pi_range1 (by rfl) T.n_range (pa_cons (pv 1) pa_nil)) (pg_name (i := 7) scOrderS.nd rfl (.inl rfl)) (pss_cons (ps_set (i := 8) scOrderS.nd rfl (.inl rfl) (pe_op op_fdivW (pv 2) (pe_op op_mul (pv 0) (pe_call (ok_comb T) hr (by rfl) T.gComb T.FComb.kp T.bComb .nil pass0 (pa_cons (pe_op op_sub (pv 0) pe_int) (pa_cons (pv 7) pa_nil)))))) (pss_cons (ps_setLc (i := 9) (own := [("_law_one", 10)]) (g := (gName 10)) rfl scOrderS.nd rfl rfl (sw_true rfl rfl rfl (by decide +kernel)) (pi_range1 (by rfl) T.n_range (pa_cons (pv 0) pa_nil)) (blkOk_by (own := [("_law_one", 10)]) (N := NOrderS) (sc := defScope sOrderS) (by decide +kernel)) (fun _ _ _ _ _ => (pg_name (i := 10) scOrderS.nd rfl (.inl rfl))) (fun _ _ _ _ _ => pts_one (pt_cmpR (op_notInK K) (pv 10) (pv 4) (by rfl))) (fun _ _ _ _ _ => (pv 10))) (pss_cons (ps_set (i := 11) scOrderS.nd rfl (.inl rfl) (pe_ix (ix_listK K) (pv 9) (pe_op op_fdivW (pv 5) (pv 8)) (fun _ _ => rfl))) (pss_cons (ps_set (i := 4) scOrderS.nd rfl (.inr rfl) (pe_callB (cr_sortTI K) (by rfl) T.n_sorted (by decide +kernel) (pa_cons (pe_op op_cat (pv 4) (pe_lst (pa_cons (pv 11) pa_nil))) pa_nil))) (pss_cons (ps_set (i := 5) scOrderS.nd rfl (.inl rfl) (pe_op op_add (pe_op op_mul (pv 8) (pe_bm PySem.F.plainAttrs_list PySem.F.slot_list_index PySem.F.type_list_index mt_index (pv 4) (pa_cons (pv 11) pa_nil))) (pe_op op_mod (pv 5) (pv 8)))) (pss_one (ps_expr (pe_bm PySem.F.plainAttrs_list PySem.F.slot_list_append PySem.F.type_list_append mt_append (pv 6) (pa_cons (pv 11) pa_nil)))))))))) (pss_one (ps_ret (pe_callTy (call_tupleK K) (by rfl) T.n_tuple (by decide +kernel) (pa_cons (pv 6) pa_nil))))), ?_⟩
    refine ⟨Nat.zero_le _, fun pi ni => ⟨_, rfl, Nat.zero_le _, fun pf nf => ⟨(by show 3 ≤ sizeLine; decide), fun pt nt => ?_⟩⟩⟩
    refine ⟨pt, _, rfl, SqT.of upd_same, rfl, _, _, rfl, _, _, rfl, _, _, rfl, rfl, ?_⟩
    have npi : pi ≠ pf := fun z => by
      rw [← z, upd_same] at nf
      cases nf
    have s0 : Same H (upd (upd (upd H pi (.lst [])) pf (.lst [])) pt (.tup [V.ref pi, V.int (k : Int), V.ref pf])) := ((same_new ni).trans (same_new nf)).trans (same_new nt)
    have i0 := (same_new (o := .tup [V.ref pi, V.int (k : Int), V.ref pf]) nt) _ _ (same_new (o := .lst []) nf _ _ (upd_same (H := H) (a := pi) (o := .lst [])))
    have f0 := (same_new (o := .tup [V.ref pi, V.int (k : Int), V.ref pf]) nt) _ _ (upd_same (H := upd H pi (.lst [])) (a := pf) (o := .lst []))
    replace nf : H pf = none := (same_new ni).free nf
    refine ⟨_, rfl, (d : Int), rfl, by omega, by omega, ?_⟩
    refine for_range (lo := 0) (n := (d : Int).toNat) (fun i σ H2 => ∃ (pre I L : List Nat) (r : Nat) (pj : Addr) (v8 v9 v10 v11 : Option V), σ = [some (.int n), some (.int d), some (.int c), some (.int k), some (.ref pj), some (.int (r : Int)), some (.ref pf), v8, v9, v10, none, v11] ∧ Same H H2 ∧ H2 pf = some (.lst (setV pre)) ∧ H2 pj = some (.lst (setV I)) ∧ pj ≠ pf ∧ Compl n I L ∧ I.Perm pre ∧ pre.length = i ∧ FolOk n c (List.range' i (d - i)) L r ∧ path n d c k = (pre ++ (fol n c (List.range' i (d - i)) L r).1, (fol n c (List.range' i (d - i)) L r).2)) ?_ ?_ ?_
    · refine ⟨[], [], List.range' 0 n, k, pi, none, none, none, none, rfl, s0, ?_, ?_, npi, Compl.start n, List.Perm.refl _, rfl, path_ok st hk, rfl⟩
      · exact f0
      · exact i0
    · rintro i σ H2 hi ⟨pre, I, L, r, pj, v8, v9, v10, v11, rfl, s2, hF, hI, npj, cp, pm, hpl, okk, hf⟩
      have hid : i < d := by omega
      have hin : i < n := by omega
      rw [Int.zero_add]
      rw [show d - i = (d - (i + 1)) + 1 by omega, List.range'_succ] at okk hf
      rw [fol_cons] at hf
      obtain ⟨w0, hix, hge, okk2⟩ := okk
      have c60 := C_60 (n - 1) i (by omega)
      have en : (n : Int) - 1 = ((n - 1 : Nat) : Int) := by omega
      have e0 := edge_pos hin
      have e1 := edge_lt (d := i) hn
      have wc := wd_le n c i
      have ec : ((n : Int) * (C (n - 1) i : Int)) = ((n * C (n - 1) i : Nat) : Int) := (Int.natCast_mul _ _).symm
      have hIl : I.length = i := by rw [pm.length_eq, hpl]
      refine ⟨_, rfl, _, rfl, _, rfl, _, _, rfl, rfl, _, rfl, n - 1, i, by dsimp only; rw [en]; rfl, by omega, by omega, _, _, rfl, rfl, .inl ⟨by omega, by omega⟩, _, _, rfl, rfl, ?_, ?_⟩
      · rw [ec]
        exact wide_div (b := 64) (by omega) (by omega) (by decide) (by decide)
      dsimp only [gName]
      rw [ec, ← Int.natCast_ediv, show c / (n * C (n - 1) i) = wd n c i from rfl]
      -- free
      refine ⟨_, rfl, (n : Int), rfl, by omega, by omega, fun D nD => ?_⟩
      refine lc_range (lo := 0) (fun z H3 => Same H2 H3 ∧ H3 D = some (.lst (setV ((List.range' 0 z).filter fun x => !decide (x ∈ I))))) ⟨same_new nD, upd_same⟩ ?_ ?_
      · rintro z H3 hz ⟨s3, hD⟩
        rw [Int.zero_add]
        refine ⟨rfl, _, rfl, .ref pj, rfl, pj, _, rfl, .inl (SqL.of (s3 _ _ hI)), rfl, setV_flat _, _, rfl, ?_⟩
        rw [inV_setV, if_pos rfl]
        refine ite2 (fun hb => ?_) (fun hb => ?_)
        · refine ⟨_, rfl, _, hD, ?_, keep_upd s3 nD, ?_⟩
          · rw [setV_len]
            refine small1000 (Nat.le_trans (List.length_filter_le _ _) ?_)
            rw [List.length_range']
            omega
          · rw [upd_same, fr_step, if_pos hb]
        · refine ⟨s3, ?_⟩
          rw [fr_step, if_neg hb, List.append_nil]
          exact hD
      · rintro H3 ⟨s3, hD⟩
        rw [Int.toNat_natCast, cp.free] at hD
        have hM2 := getD_of hix
        refine ⟨.ref D, rfl, _, rfl, _, rfl, _, _, rfl, rfl, wide_div (b := 500) (Int.ofNat_lt.mpr w0) (Nat.lt_of_le_of_lt wc hc) (by decide) (by decide), D, _, _, V.int ((L.getD (r / wd n c i) 0 : Nat) : Int), rfl, rfl, SqL.of hD, ?_, ?_⟩
        · rw [← Int.natCast_ediv]
          exact atI_nat (setV_at hM2)
        generalize r / wd n c i = ix at hix hge okk2 hf hM2
        generalize L.getD ix 0 = sv at hge okk2 hf hM2
        have hsv := (cp.mem sv).mp (List.mem_of_getElem? hM2)
        refine ⟨.ref pj, rfl, _, rfl, (by show 1 ≤ sizeLine; decide), fun o1 no1 => ?_⟩
        refine ⟨pj, o1, _, _, rfl, rfl, same_new no1 _ _ (s3 _ _ hI), upd_same, ?_, fun o2 no2 => ?_⟩
        · show (setV I).length + 1 ≤ sizeLine
          rw [setV_len]
          exact small1000 (show I.length ≤ 1000 by omega)
        rw [show setV I ++ [V.int (sv : Int)] = setV (I ++ [sv]) by rw [setV_app]; rfl]
        refine ⟨o2, (I ++ [sv]).map (fun (m : Nat) => (m : Int)), rfl, .inl (SqL.of (by rw [← setV_ints]; exact upd_same)), ?_, fun ns p2 hp2 hs2 np2 => ?_⟩
        · rw [List.length_map, List.length_append]
          show I.length + 1 < 64
          omega
        obtain ⟨I2, rfl, pm2⟩ := ints_back hp2
        rw [← setV_ints]
        have nd2 : I2.Nodup := by
          refine pm2.nodup_iff.mpr (List.nodup_append.mpr ⟨asc_nodup cp.aI, List.nodup_cons.mpr ⟨List.not_mem_nil, List.nodup_nil⟩, fun x hx y hy e => ?_⟩)
          rw [List.mem_singleton.mp hy] at e
          rw [e] at hx
          exact hsv.2 hx
        have as2 := lt_of_le (le_back hs2) nd2
        obtain ⟨j2, hj2⟩ := List.getElem?_of_mem (pm2.mem_iff.mpr (List.mem_append_right _ (List.mem_singleton_self sv)))
        have hjx := cp.index hM2 pm2 as2 hj2
        have s4 : Same H3 (upd (upd (upd H3 o1 (.lst [V.int (sv : Int)])) o2 (.lst (setV (I ++ [sv])))) p2 (.lst (setV I2))) := ((same_new no1).trans (same_new no2)).trans (same_new np2)
        have f2 : H p2 = none := (((s2.trans s3).trans (same_new no1)).trans (same_new no2)).free np2
        have h42 : (upd (upd (upd H3 o1 (.lst [V.int (sv : Int)])) o2 (.lst (setV (I ++ [sv])))) p2 (.lst (setV I2))) p2 = some (.lst (setV I2)) := upd_same
        generalize (upd (upd (upd H3 o1 (.lst [V.int (sv : Int)])) o2 (.lst (setV (I ++ [sv])))) p2 (.lst (setV I2))) = H4 at s4 h42 ⊢
        have j60 : j2 < 64 := by
          have := (List.getElem?_eq_some_iff.mp hj2).1
          rw [pm2.length_eq, List.length_append] at this
          have : [sv].length = 1 := rfl
          omega
        refine ⟨_, rfl, .ref p2, rfl, .inl ⟨rfl, _, SqL.of h42⟩, _, rfl, p2, _, _, j2, _, rfl, rfl, SqL.of h42, rfl, setV_flat _, setV_at hj2, ?_, ?_, ?_⟩
        · exact beq_self_eq_true (sv : Int)
        · intro m z hm hz
          obtain ⟨y, hy, rfl⟩ := setV_get hz
          refine beq_eq_false_iff_ne.mpr fun e => ?_
          have e2 : y = sv := by omega
          rw [e2] at hy
          have := nodup_inj nd2 hy hj2
          omega
        refine ⟨_, _, rfl, rfl, .inr ⟨by omega, by omega⟩, _, rfl, _, rfl, _, _, rfl, rfl, Int.ofNat_lt.mpr w0, _, _, rfl, rfl, ?_⟩
        have h4F := s4 _ _ (s3 _ _ hF)
        refine ⟨.ref pf, rfl, .inl ⟨rfl, _, SqL.of h4F⟩, _, rfl, pf, _, _, rfl, rfl, h4F, ?_, ?_⟩
        · rw [setV_len]
          exact small1000 (by omega)
        refine ⟨pre ++ [sv], I2, L.eraseIdx ix, wd n c i * (sv - ix) + r % wd n c i, p2, some (.int (i : Int)), some (.int (wd n c i : Nat)), some (.ref D), some (.int (sv : Int)), ?_, keep_upd (s2.trans (s3.trans s4)) nf, ?_, ?_, ?_, cp.next hM2 pm2 as2, ?_, ?_, okk2, ?_⟩
        · have ej : j2 = sv - ix := by omega
          rw [Int.natCast_add, Int.natCast_mul, ← ej, Int.natCast_emod]
          rfl
        · rw [upd_same, setV_app]
          rfl
        · rw [upd_ne (fun z => by rw [z] at np2; rw [same_new no2 _ _ (same_new no1 _ _ (s3 _ _ hF))] at np2; cases np2)]
          exact h42
        · exact fun z => by
            rw [z] at np2
            rw [same_new no2 _ _ (same_new no1 _ _ (s3 _ _ hF))] at np2
            cases np2
        · exact pm2.trans (pm.append_right _)
        · rw [List.length_append, hpl]
          rfl
        · rw [hf, List.append_assoc]
          rfl
    · rintro σ H2 ⟨pre, I, L, r, pj, v8, v9, v10, v11, rfl, s2, hF, hI, npj, cp, pm, hpl, okk, hf⟩
      rw [Int.toNat_natCast, Nat.sub_self] at hf
      have hf2 : path n d c k = (pre ++ [], r) := hf
      rw [List.append_nil] at hf2
      rw [hf2] at q
      refine ⟨.ref pf, rfl, pf, _, rfl, .inl ⟨SqL.of hF, fun t nt2 => ?_⟩⟩
      exact q _ t (s2.trans (same_new nt2)) (s2.free nt2) upd_same
end
/-! ### the law's common divisor -/
def spGcdS : Sp := fun vs H Q _ => ∃ a b : Nat, vs = [.int a, .int b] ∧ Q (.int (Nat.gcd a b : Nat)) H
def WGcdS (a b : Nat) (H : Hp) (m : Nat) (σ : L2.St) (H' : Hp) : Prop := ∃ x y : Nat, σ = [some (.int x), some (.int y)] ∧ H' = H ∧ Nat.gcd x y = Nat.gcd a b ∧ m = y
theorem common_turn (x y : Nat) : Nat.gcd y (x % y) = Nat.gcd x y := by
  rw [Nat.gcd_comm x y, Nat.gcd_rec y x, Nat.gcd_comm]
section
variable {P : Program} {w : World} {K : PySem.W.Frag} {mg : Str → Option Value} {base : Heap}
theorem ok_gcds (T : Txt K mg) {j : Nat} : FnOk P w K mg base CX0 (j + 1) T.fGcdS T.fdGcdS ["_law_a", "_law_b"] spGcdS := by
  refine T.FGcdS.ok scGcdS (fun vs H Q E h => ?_) (fun cdv A outer s H vs Q E hr h => ?_)
  · obtain ⟨a, b, rfl, _⟩ := h
    rfl
  · obtain ⟨a, b, rfl, q⟩ := h
    refine ⟨_, pss_cons (ps_while PassesOwn.never (pt_cmpR op_gt (pv 1) pe_int (nomark _)) (pss_one (ps_par (i := 0) (j := 1) rfl scGcdS.nd rfl rfl (by decide) rfl rfl (pa_cons (pv 1) (pa_cons (pe_op op_mod (pv 0) (pv 1)) pa_nil)) (by rfl))))
      (pss_one (ps_ret (pv 0))), ?_⟩
    refine ⟨WGcdS a b H, ⟨b, a, b, rfl, rfl, rfl, rfl⟩, ?_⟩
    rintro m σ H' ⟨x, y, rfl, rfl, hg, rfl⟩
    refine ⟨_, rfl, _, _, rfl, rfl, _, rfl, ite2 (fun h1 => ?_) (fun h1 => ?_)⟩
    · have h0 : (0 : Int) < (m : Int) := of_decide_eq_true h1
      refine ⟨WGcdS a b H' (x % m), fun σ' H'' hw => ⟨x % m, Nat.mod_lt _ (by omega), hw⟩, ?_⟩
      refine ⟨_, rfl, _, rfl, _, rfl, _, _, rfl, rfl, h0, _, _, rfl, m, x % m, ?_, rfl, by rw [common_turn]; exact hg, rfl⟩
      rw [Int.natCast_emod]
      rfl
    · have h0 : m = 0 := by
        have h2 : ¬ (0 : Int) < (m : Int) := fun z => h1 (decide_eq_true z)
        omega
      subst h0
      rw [Nat.gcd_zero_right] at hg
      rw [← hg] at q
      exact ⟨_, rfl, q⟩
end
/-! ### the law's least number of lists -/
def spLeast : Sp := fun vs H Q _ => ∃ n d : Nat, vs = [.int n, .int d] ∧ n ≤ 60 ∧ 1 ≤ n ∧ d ≤ n ∧ Q (.int (leastL n d : Nat)) H
theorem step_alt {a b : Nat} (ha : 0 < a) : a * b / Nat.gcd a b = stepL a b := by
  unfold stepL
  obtain ⟨x, hx⟩ := Nat.gcd_dvd_left a b
  have g0 : 0 < Nat.gcd a b := Nat.gcd_pos_of_pos_left b ha
  generalize Nat.gcd a b = g at hx g0
  subst hx
  rw [Nat.mul_div_cancel_left _ g0, Nat.mul_assoc, Nat.mul_div_cancel_left _ g0]
section
variable {P : Program} {w : World} {K : PySem.W.Frag} {mg : Str → Option Value} {base : Heap}
theorem ok_leasts (T : Txt K mg) {j : Nat} : FnOk P w K mg base CX0 (j + 2) T.fLeastS T.fdLeastS ["_law_n", "_law_depth"] spLeast := by
  refine T.FLeastS.ok scLeastS (fun vs H Q E h => ?_) (fun cdv A outer s H vs Q E hr h => ?_)
  · obtain ⟨n, d, rfl, _⟩ := h
    rfl
  · obtain ⟨n, d, rfl, hn, h1, hd, q⟩ := h
    refine ⟨_, pss_cons (ps_set (i := 2) scLeastS.nd rfl (.inl rfl) pe_int) (pss_cons (ps_for PassesOwn.never rfl (pi_range1 (by rfl) T.n_range (pa_cons (pv 1) pa_nil)) (pg_name (i := 3) scLeastS.nd rfl (.inl rfl)) (pss_cons (ps_set (i := 4) scLeastS.nd rfl (.inl rfl) (pe_op op_mul (pv 0) (pe_call (ok_comb T) hr (by rfl) T.gComb T.FComb.kp T.bComb .nil pass0 (pa_cons (pe_op op_sub (pv 0) pe_int) (pa_cons (pv 3) pa_nil))))) (pss_one (ps_set (i := 2) scLeastS.nd rfl (.inl rfl) (pe_op op_fdivW (pe_op op_mul (pv 2) (pv 4)) (pe_call (ok_gcds T) hr (by rfl) T.gGcdS T.FGcdS.kp T.bGcdS .nil pass0 (pa_cons (pv 2) (pa_cons (pv 4) pa_nil)))))))) (pss_one (ps_ret (pv 2)))), ?_⟩
    refine ⟨_, rfl, (d : Int), rfl, by omega, by omega, ?_⟩
    refine for_range (lo := 0) (n := (d : Int).toNat) (fun i σ H2 => ∃ v3 v4, σ = [some (.int n), some (.int d), some (.int (leastL n i : Nat)), v3, v4] ∧ H2 = H) ⟨none, none, rfl, rfl⟩ ?_ ?_
    · rintro i σ H2 hi ⟨v3, v4, rfl, rfl⟩
      have hin : i < n := by omega
      have e0 := edge_pos hin
      have e1 := edge_lt (d := i) hn
      have L0 := leastL_pos (n := n) (d := i) (by omega)
      have c60 := C_60 (n - 1) i (by omega)
      have en : (n : Int) - 1 = ((n - 1 : Nat) : Int) := by omega
      rw [Int.zero_add]
      refine ⟨_, rfl, _, rfl, _, _, rfl, rfl, _, rfl, n - 1, i, by dsimp only; rw [en]; rfl, by omega, by omega, _, _, rfl, rfl, .inl ⟨by omega, by omega⟩, ?_⟩
      have ec : (n : Int) * ((C (n - 1) i : Nat) : Int) = ((n * C (n - 1) i : Nat) : Int) := (Int.natCast_mul _ _).symm
      dsimp only [gName]
      rw [ec]
      have g0 : 0 < Nat.gcd (leastL n i) (n * C (n - 1) i) := Nat.gcd_pos_of_pos_right _ e0
      have g1 : Nat.gcd (leastL n i) (n * C (n - 1) i) ≤ n * C (n - 1) i := Nat.gcd_le_right _ e0
      refine ⟨_, rfl, _, rfl, _, _, rfl, rfl, .inr ⟨by omega, by omega⟩, _, rfl, _, rfl, leastL n i, n * C (n - 1) i, rfl, _, _, rfl, rfl, wide_div (b := 64) (by omega) (by omega) (by decide) (by decide), some (.int (i : Int)), some (.int ((n * C (n - 1) i : Nat) : Int)), ?_, rfl⟩
      have es : leastL n (i + 1) = stepL (leastL n i) (n * C (n - 1) i) := rfl
      rw [es, ← step_alt L0, Int.natCast_ediv, Int.natCast_mul]
      rfl
    · rintro σ H2 ⟨v3, v4, rfl, rfl⟩
      rw [Int.toNat_natCast]
      exact ⟨_, rfl, q⟩
end
/-! ### sizes drawn -/
def spSizesS (K : PySem.W.Frag) : Sp := fun vs H Q _ => ∃ (p : Addr) (most : Nat), vs = [.ref p, .int most] ∧ StrAt H p ∧ 2 ≤ most ∧ most ≤ 60 ∧
  ∀ H' t (n f k q : Nat), But p H H' → StrAt H' p → H t = none → 2 ≤ n → n ≤ most → 1 ≤ f → f < n → 1 ≤ k → k ≤ n → 1 ≤ q → q ≤ 2 → H' t = some (.tup [.int n, .int f, .int k, .int ((leastL n (min n (f + k)) * q : Nat) : Int)]) → Q (.ref t) H'
section
variable {P : Program} {w : World} {K : PySem.W.Frag} {mg : Str → Option Value} {base : Heap}
theorem ok_sizess (T : Txt K mg) {j : Nat} : FnOk P w K mg base CX0 (j + 3) T.fSizesS T.fdSizesS ["_law_stream_here", "_law_most"] (spSizesS K) := by
  refine T.FSizesS.ok scSizesS (fun vs H Q E h => ?_) (fun cdv A outer s H vs Q E hr h => ?_)
  · obtain ⟨p, most, rfl, _⟩ := h
    rfl
  · obtain ⟨p, most, rfl, P0, h2, h6, q⟩ := h
    refine ⟨_, pss_cons (ps_set (i := 2) scSizesS.nd rfl (.inl rfl) (pe_op op_add pe_int (pe_call (ok_draw T) hr (by rfl) T.gDraw T.FDraw.kp T.bDraw .nil pass0 (pa_cons (pv 0) (pa_cons (pe_op op_sub (pv 1) pe_int) pa_nil))))) (pss_cons (ps_par (i := 3) (j := 4) rfl scSizesS.nd rfl rfl (by decide) rfl rfl (pa_cons (pe_op op_add pe_int (pe_call (ok_draw T) hr (by rfl) T.gDraw T.FDraw.kp T.bDraw .nil pass0 (pa_cons (pv 0) (pa_cons (pe_op op_sub (pv 2) pe_int) pa_nil)))) (pa_cons (pe_op op_add pe_int (pe_call (ok_draw T) hr (by rfl) T.gDraw T.FDraw.kp T.bDraw .nil pass0 (pa_cons (pv 0) (pa_cons (pv 2) pa_nil)))) pa_nil)) (by rfl)) (pss_cons (ps_set (i := 5) scSizesS.nd rfl (.inl rfl) (pe_callB (call_min2 rfl) (by rfl) T.n_min (by decide +kernel) (pa_cons (pv 2) (pa_cons (pe_op op_add (pv 3) (pv 4)) pa_nil)))) (pss_one (ps_ret (pe_tup (pa_cons (pv 2) (pa_cons (pv 3) (pa_cons (pv 4) (pa_cons (pe_op op_mul (pe_call (ok_leasts T) hr (by rfl) T.gLeastS T.FLeastS.kp T.bLeastS .nil pass0 (pa_cons (pv 2) (pa_cons (pv 5) pa_nil))) (pe_op op_add pe_int (pe_call (ok_draw T) hr (by rfl) T.gDraw T.FDraw.kp T.bDraw .nil pass0 (pa_cons (pv 0) (pa_cons pe_int pa_nil))))) pa_nil))))))))), ?_⟩
    refine ⟨.ref p, rfl, _, rfl, _, _, rfl, rfl, p, _, rfl, P0, by omega, ?_, fun r1 H1 r10 r1l P1 B1 => ⟨_, _, rfl, rfl, ?_⟩⟩
    · exact Int.lt_trans (show (most : Int) - 1 < 100 by omega) (by decide +kernel)
    obtain ⟨k1, rfl⟩ := Int.eq_ofNat_of_zero_le r10
    dsimp only [gName]
    rw [show (2 : Int) + (k1 : Int) = ((2 + k1 : Nat) : Int) by omega]
    generalize hn0 : 2 + k1 = n
    refine ⟨.ref p, rfl, _, rfl, _, _, rfl, rfl, p, _, rfl, P1, by omega, ?_, fun r2 H2 r20 r2l P2 B2 => ⟨_, _, rfl, rfl, .ref p, rfl, _, rfl, p, _, rfl, P2, by omega, ?_, fun r3 H3 r30 r3l P3 B3 => ⟨_, _, rfl, rfl, _, _, rfl, ?_⟩⟩⟩
    · exact Int.lt_trans (show (n : Int) - 1 < 100 by omega) (by decide +kernel)
    · exact Int.lt_trans (show (n : Int) < 100 by omega) (by decide +kernel)
    obtain ⟨k2, rfl⟩ := Int.eq_ofNat_of_zero_le r20
    obtain ⟨k3, rfl⟩ := Int.eq_ofNat_of_zero_le r30
    dsimp only [gName]
    rw [show (1 : Int) + (k2 : Int) = ((1 + k2 : Nat) : Int) by omega, show (1 : Int) + (k3 : Int) = ((1 + k3 : Nat) : Int) by omega]
    generalize hf0 : 1 + k2 = f
    generalize hk0 : 1 + k3 = k
    refine ⟨_, rfl, _, rfl, _, rfl, _, _, rfl, rfl, _, _, rfl, ?_⟩
    have em : (if (f : Int) + (k : Int) < (n : Int) then (f : Int) + (k : Int) else (n : Int)) = ((min n (f + k) : Nat) : Int) := by
      split <;> omega
    dsimp only [gName]
    rw [em]
    refine ⟨_, rfl, _, rfl, _, rfl, _, rfl, _, rfl, n, min n (f + k), rfl, by omega, by omega, by omega, .ref p, rfl, p, 2, rfl, P3, by decide, by decide +kernel, fun r4 H4 r40 r4l P4 B4 => ⟨_, _, rfl, rfl, _, _, rfl, rfl, .inr ⟨by omega, by omega⟩, ?_⟩⟩
    obtain ⟨k4, rfl⟩ := Int.eq_ofNat_of_zero_le r40
    refine ⟨by show 4 ≤ sizeLine; decide, fun t nt => ?_⟩
    have B := ((B1.trans B2).trans B3).trans B4
    have st := same_new (o := .tup [V.int (n : Int), V.int (f : Int), V.int (k : Int), V.int ((leastL n (min n (f + k)) : Int) * (1 + (k4 : Int)))]) nt
    refine q _ t n f k (1 + k4) (B.same st) (P4.same st) ?_ (by omega) (by omega) (by omega) (by omega) (by omega) (by omega) (by omega) (by omega) ?_
    · cases e : H t with
      | none => rfl
      | some o =>
        rw [B t o (fun z => P4.ne nt z.symm) e] at nt
        cases nt
    · rw [upd_same, show (1 : Int) + (k4 : Int) = ((1 + k4 : Nat) : Int) by omega]
      dsimp only
      rw [← Int.natCast_mul]
end
/-! ### what a line brings about, told as a pair -/
theorem exc_NoU54 {K : PySem.W.Frag} {mg : Str → Option Value} (T : Txt K mg) : ExcC K T.cNoU := ⟨T.kNoUg, T.kNoUa, T.kNoUb, T.kNoUd, T.kNoUc, T.eNoN.ec.hn, T.eNoN.ec.ht, T.kNoUm⟩
def OutL {K : PySem.W.Frag} {mg : Str → Option Value} (T : Txt K mg) (cls : Value) (d : Option Addr) (H : Hp) (nm : Str) (v : V) : Prop := (cls = .ref T.cNoLi ∧ nm = "NoLine" ∧ ∃ d', d = some d' ∧ H d' = some (.xd [("value", v)])) ∨ (cls = .ref T.cNoN ∧ nm = "NoNumber" ∧ ∃ d', d = some d' ∧ H d' = some (.xd [("value", v)])) ∨ (cls = .ref T.cNotL ∧ nm = "NotLive" ∧ ∃ d', d = some d' ∧ H d' = some (.xd [("value", v)])) ∨ (cls = .ref T.cNotD ∧ nm = "NotDead" ∧ ∃ d', d = some d' ∧ H d' = some (.xd [("value", v)])) ∨ (cls = .ref T.cTooF ∧ nm = "TooFew" ∧ ∃ d', d = some d' ∧ H d' = some (.xd [("alive", v)])) ∨ (cls = .ref T.cNoU ∧ nm = "NoUndo" ∧ d = none ∧ v = .non)
def EOutL {K : PySem.W.Frag} {mg : Str → Option Value} (T : Txt K mg) (Q : VK) : XK := fun cls d H' => ∃ (nm : Str) (v : V), OutL T cls d H' nm v ∧ ∀ H2 x, Same H' H2 → H' x = none → H2 x = some (.tup [.str nm, v]) → Q (.ref x) H2
def TTOutL {K : PySem.W.Frag} {mg : Str → Option Value} (T : Txt K mg) : (XK → Hp → VK → Prop) → Hp → VK → Prop := fun tl H Q => ∀ H0 Q', Same H H0 → (∀ v H1, (∀ H2 x, Same H1 H2 → H1 x = none → H2 x = some (.tup [.str "returned", v]) → Q (.ref x) H2) → Q' v H1) → tl (EOutL T Q) H0 Q'
theorem gives_lout54 {X : Cx} {K : PySem.W.Frag} {mg : Str → Option Value} (T : Txt K mg) (hK : X.K = K) (hmg : X.mg = mg) {cdg : Value} {q : Str} : LamX.GivesTo X NLOut54 "_law_line_outcome" (defScope sLOut54) T.fLOut54 cdg (defBody sLOut54) "_law_ask" q (TTOutL T) := by
  subst hK hmg
  intro f c' s H Q tl act hc h
  refine ⟨_, pss_cons (ps_asg (pe_tup (pa_cons pe_non (pa_cons pe_non pa_nil))) (pg_tup rfl (pgs_cons (pg_name (i := 1) scLOut54.nd rfl (.inl rfl)) (pgs_cons (pg_name (i := 2) scLOut54.nd rfl (.inl rfl)) pgs_nil)))) (pss_cons (ps_try_keep (i := 3) (Wout := fun _ _ _ _ => False) rfl rfl rfl scLOut54.nd rfl rfl ⟨rfl, by decide, Or.inl T.gcBase⟩ takesF (fun W pn xe tk _ => (pss_one (ps_set (i := 2) scLOut54.nd rfl (.inl rfl) (pe_actE 5 tk (fun E W' tk' hE => act W' pn xe E _ _ tk' hE))))) (fun xa xoe xcls xd xpn xz xf => (pss_one (ps_set (i := 1) scLOut54.nd rfl (.inl rfl) (pv 3))))) (pss_cons (ps_if (pt_cmpR op_isN (pv 1) pe_non (nomark _)) (pss_one (ps_ret (pe_tup (pa_cons pe_str (pa_cons (pv 2) pa_nil))))) pss_nil) (pss_cons (ps_set (i := 4) scLOut54.nd rfl (.inl rfl) (pe_lst pa_nil)) (pss_cons (ps_if (pt_val (pe_callB call_isA (by rfl) T.n_isinstance (by decide +kernel) (pa_cons (pv 1) (pa_cons (pe_glob (v := .ref T.cNoLi) (by rfl) T.gcNoLi rfl) pa_nil)))) (pss_one (ps_expr (pe_bm PySem.F.plainAttrs_list PySem.F.slot_list_append PySem.F.type_list_append mt_append (pv 4) (pa_cons (pe_tup (pa_cons pe_str (pa_cons (pe_fldX (pv 1)) pa_nil))) pa_nil)))) pss_nil) (pss_cons (ps_if (pt_val (pe_callB call_isA (by rfl) T.n_isinstance (by decide +kernel) (pa_cons (pv 1) (pa_cons (pe_glob (v := .ref T.cNoN) (by rfl) T.gcNoN rfl) pa_nil)))) (pss_one (ps_expr (pe_bm PySem.F.plainAttrs_list PySem.F.slot_list_append PySem.F.type_list_append mt_append (pv 4) (pa_cons (pe_tup (pa_cons pe_str (pa_cons (pe_fldX (pv 1)) pa_nil))) pa_nil)))) pss_nil) (pss_cons (ps_if (pt_val (pe_callB call_isA (by rfl) T.n_isinstance (by decide +kernel) (pa_cons (pv 1) (pa_cons (pe_glob (v := .ref T.cNotL) (by rfl) T.gcNotL rfl) pa_nil)))) (pss_one (ps_expr (pe_bm PySem.F.plainAttrs_list PySem.F.slot_list_append PySem.F.type_list_append mt_append (pv 4) (pa_cons (pe_tup (pa_cons pe_str (pa_cons (pe_fldX (pv 1)) pa_nil))) pa_nil)))) pss_nil) (pss_cons (ps_if (pt_val (pe_callB call_isA (by rfl) T.n_isinstance (by decide +kernel) (pa_cons (pv 1) (pa_cons (pe_glob (v := .ref T.cNotD) (by rfl) T.gcNotD rfl) pa_nil)))) (pss_one (ps_expr (pe_bm PySem.F.plainAttrs_list PySem.F.slot_list_append PySem.F.type_list_append mt_append (pv 4) (pa_cons (pe_tup (pa_cons pe_str (pa_cons (pe_fldX (pv 1)) pa_nil))) pa_nil)))) pss_nil) (pss_cons (ps_if (pt_val (pe_callB call_isA (by rfl) T.n_isinstance (by decide +kernel) (pa_cons (pv 1) (pa_cons (pe_glob (v := .ref T.cTooF) (by rfl) T.gcTooF rfl) pa_nil)))) (pss_one (ps_expr (pe_bm PySem.F.plainAttrs_list PySem.F.slot_list_append PySem.F.type_list_append mt_append (pv 4) (pa_cons (pe_tup (pa_cons pe_str (pa_cons (pe_fldX (pv 1)) pa_nil))) pa_nil)))) pss_nil) (pss_cons (ps_if (pt_val (pe_callB call_isA (by rfl) T.n_isinstance (by decide +kernel) (pa_cons (pv 1) (pa_cons (pe_glob (v := .ref T.cNoU) (by rfl) T.gcNoU rfl) pa_nil)))) (pss_one (ps_expr (pe_bm PySem.F.plainAttrs_list PySem.F.slot_list_append PySem.F.type_list_append mt_append (pv 4) (pa_cons (pe_tup (pa_cons pe_str (pa_cons pe_non pa_nil))) pa_nil)))) pss_nil) (pss_one (ps_ret (pe_ifExp (PW.pt (pw_and (pt_cmpR op_eq (pe_callB (call_lenK X.K) (by rfl) T.n_len PySem.boot_len (pa_cons (pv 4) pa_nil)) pe_int (nomark _)) (pw_and1 (pt_val (pe_callB call_isA (by rfl) T.n_isinstance (by decide +kernel) (pa_cons (pv 1) (pa_cons (pe_bltn (v := .ty "ValueError") (by rfl) T.n_ValueError (by decide +kernel) rfl) pa_nil))))))) (pe_ix (ix_listK X.K) (pv 4) pe_int (fun _ _ => rfl)) (pe_tup (pa_cons pe_str (pa_cons pe_non pa_nil))))))))))))))), ?_⟩
  refine ⟨by show 2 ≤ sizeLine; decide, fun t0 n0 => ?_⟩
  have s0 := same_new (o := .tup [V.non, V.non]) n0
  refine ⟨t0, _, rfl, SqT.of upd_same, rfl, _, _, rfl, _, _, rfl, rfl, ?_⟩
  refine ⟨EOutL T Q, fun cls d σ' H' he hlen => ?_, rfl, s0 _ _ hc, ?_⟩
  · obtain ⟨nm, v, he, hq⟩ := he
    obtain ⟨a1, a2, a3, a4, a5, rfl⟩ := len5 hlen
    rcases he with ⟨rfl, rfl, d', rfl, hd⟩ | ⟨rfl, rfl, d', rfl, hd⟩ | ⟨rfl, rfl, d', rfl, hd⟩ | ⟨rfl, rfl, d', rfl, hd⟩ | ⟨rfl, rfl, d', rfl, hd⟩ | ⟨rfl, rfl, rfl, rfl⟩
    · refine ⟨true, T.eNoLi.ex, fun _ e ne => ?_, fun z => nomatch z⟩
      have s2 := same_new (o := exk e (.ref T.cNoLi) (some d')) ne
      have ea : (upd H' e (exk e (.ref T.cNoLi) (some d'))) e = some (exk e (.ref T.cNoLi) (some d')) := upd_same
      have ed : (upd H' e (exk e (.ref T.cNoLi) (some d'))) d' = some (.xd [("value", v)]) := s2 _ _ hd
      refine ⟨.ref e, rfl, ?_⟩
      refine ⟨.ref e, rfl, rfl, _, rfl, iteF ?_⟩
      refine ⟨Nat.zero_le _, fun fl nfl => ?_⟩
      have s3 := same_new (o := .lst []) nfl
      have hfl : (upd (upd H' e (exk e (.ref T.cNoLi) (some d'))) fl (.lst [])) fl = some (.lst []) := upd_same
      replace ea := s3 _ _ ea
      replace ed := s3 _ _ ed
      have ffl := s2.free nfl
      replace s3 := s2.trans s3
      generalize upd (upd H' e (exk e (.ref T.cNoLi) (some d'))) fl (.lst []) = H3 at s3 hfl ea ed ⊢
      refine ⟨.ref e, rfl, .inl ⟨e, T.cNoLi, d', _, _, _, _, rfl, ea, ed, T.eNoLi.ec, .own _, T.kit_NoLi_NoLi, ⟨_, rfl, iteT ?_⟩⟩⟩
      refine ⟨.ref fl, rfl, .inl ⟨rfl, _, SqL.of hfl⟩, .ref e, rfl, e, T.cNoLi, d', _, v, rfl, ea, ed, T.eNoLi.xf, T.eNoLi.no, rfl, (by show 2 ≤ sizeLine; decide), fun x nx => ?_⟩
      have s4 := same_new (o := .tup [.str "NoLine", v]) nx
      refine ⟨fl, _, _, rfl, rfl, s4 _ _ hfl, (by show 0 < sizeLine; decide), ?_⟩
      have hx4 := s3.free nx
      have nxf : x ≠ fl := fun z => by
        rw [z, hfl] at nx
        cases nx
      have s5 : Same H' (upd (upd H3 x (.tup [.str "NoLine", v])) fl (.lst ([] ++ [.ref x]))) := keep_upd (s3.trans s4) ffl
      have ex5 : (upd (upd H3 x (.tup [.str "NoLine", v])) fl (.lst ([] ++ [.ref x]))) x = some (.tup [.str "NoLine", v]) := by
        rw [upd_ne nxf, upd_same]
      have efl : (upd (upd H3 x (.tup [.str "NoLine", v])) fl (.lst ([] ++ [.ref x]))) fl = some (.lst [.ref x]) := upd_same
      replace ea : (upd (upd H3 x (.tup [.str "NoLine", v])) fl (.lst ([] ++ [.ref x]))) e = some (exk e (.ref T.cNoLi) (some d')) := by
        rw [upd_ne (fun z => by rw [z, hfl] at ea; cases ea)]
        exact s4 _ _ ea
      replace ed : (upd (upd H3 x (.tup [.str "NoLine", v])) fl (.lst ([] ++ [.ref x]))) d' = some (.xd [("value", v)]) := by
        rw [upd_ne (fun z => by rw [z, hfl] at ed; cases ed)]
        exact s4 _ _ ed
      generalize (upd (upd H3 x (.tup [.str "NoLine", v])) fl (.lst ([] ++ [.ref x]))) = H5 at s5 ex5 efl ea ed ⊢
      refine ⟨.ref e, rfl, .inl ⟨e, T.cNoLi, d', _, _, _, _, rfl, ea, ed, T.eNoLi.ec, .own _, T.kit_NoLi_NoN, ⟨_, rfl, iteF ?_⟩⟩⟩
      refine ⟨.ref e, rfl, .inl ⟨e, T.cNoLi, d', _, _, _, _, rfl, ea, ed, T.eNoLi.ec, .own _, T.kit_NoLi_NotL, ⟨_, rfl, iteF ?_⟩⟩⟩
      refine ⟨.ref e, rfl, .inl ⟨e, T.cNoLi, d', _, _, _, _, rfl, ea, ed, T.eNoLi.ec, .own _, T.kit_NoLi_NotD, ⟨_, rfl, iteF ?_⟩⟩⟩
      refine ⟨.ref e, rfl, .inl ⟨e, T.cNoLi, d', _, _, _, _, rfl, ea, ed, T.eNoLi.ec, .own _, T.kit_NoLi_TooF, ⟨_, rfl, iteF ?_⟩⟩⟩
      refine ⟨.ref e, rfl, .inl ⟨e, T.cNoLi, d', _, _, _, _, rfl, ea, ed, T.eNoLi.ec, .own _, T.kit_NoLi_NoU, ⟨_, rfl, iteF ?_⟩⟩⟩
      refine ⟨.ref fl, rfl, fl, _, rfl, .inl (SqL.of efl), rfl, _, rfl, iteT ?_⟩
      refine ⟨.ref e, rfl, .inl ⟨e, T.cNoLi, d', _, _, _, _, rfl, ea, ed, T.eNoLi.ec, .ty _, T.kSV_NoLi, ?_⟩⟩
      refine ⟨_, rfl, iteT ?_⟩
      refine ⟨.ref fl, rfl, fl, _, _, _, rfl, rfl, SqL.of efl, rfl, ?_⟩
      exact hq _ x s5 hx4 ex5
    · refine ⟨true, T.eNoN.ex, fun _ e ne => ?_, fun z => nomatch z⟩
      have s2 := same_new (o := exk e (.ref T.cNoN) (some d')) ne
      have ea : (upd H' e (exk e (.ref T.cNoN) (some d'))) e = some (exk e (.ref T.cNoN) (some d')) := upd_same
      have ed : (upd H' e (exk e (.ref T.cNoN) (some d'))) d' = some (.xd [("value", v)]) := s2 _ _ hd
      refine ⟨.ref e, rfl, ?_⟩
      refine ⟨.ref e, rfl, rfl, _, rfl, iteF ?_⟩
      refine ⟨Nat.zero_le _, fun fl nfl => ?_⟩
      have s3 := same_new (o := .lst []) nfl
      have hfl : (upd (upd H' e (exk e (.ref T.cNoN) (some d'))) fl (.lst [])) fl = some (.lst []) := upd_same
      replace ea := s3 _ _ ea
      replace ed := s3 _ _ ed
      have ffl := s2.free nfl
      replace s3 := s2.trans s3
      generalize upd (upd H' e (exk e (.ref T.cNoN) (some d'))) fl (.lst []) = H3 at s3 hfl ea ed ⊢
      refine ⟨.ref e, rfl, .inl ⟨e, T.cNoN, d', _, _, _, _, rfl, ea, ed, T.eNoN.ec, .own _, T.kit_NoN_NoLi, ⟨_, rfl, iteF ?_⟩⟩⟩
      refine ⟨.ref e, rfl, .inl ⟨e, T.cNoN, d', _, _, _, _, rfl, ea, ed, T.eNoN.ec, .own _, T.kit_NoN_NoN, ⟨_, rfl, iteT ?_⟩⟩⟩
      refine ⟨.ref fl, rfl, .inl ⟨rfl, _, SqL.of hfl⟩, .ref e, rfl, e, T.cNoN, d', _, v, rfl, ea, ed, T.eNoN.xf, T.eNoN.no, rfl, (by show 2 ≤ sizeLine; decide), fun x nx => ?_⟩
      have s4 := same_new (o := .tup [.str "NoNumber", v]) nx
      refine ⟨fl, _, _, rfl, rfl, s4 _ _ hfl, (by show 0 < sizeLine; decide), ?_⟩
      have hx4 := s3.free nx
      have nxf : x ≠ fl := fun z => by
        rw [z, hfl] at nx
        cases nx
      have s5 : Same H' (upd (upd H3 x (.tup [.str "NoNumber", v])) fl (.lst ([] ++ [.ref x]))) := keep_upd (s3.trans s4) ffl
      have ex5 : (upd (upd H3 x (.tup [.str "NoNumber", v])) fl (.lst ([] ++ [.ref x]))) x = some (.tup [.str "NoNumber", v]) := by
        rw [upd_ne nxf, upd_same]
      have efl : (upd (upd H3 x (.tup [.str "NoNumber", v])) fl (.lst ([] ++ [.ref x]))) fl = some (.lst [.ref x]) := upd_same
      replace ea : (upd (upd H3 x (.tup [.str "NoNumber", v])) fl (.lst ([] ++ [.ref x]))) e = some (exk e (.ref T.cNoN) (some d')) := by
        rw [upd_ne (fun z => by rw [z, hfl] at ea; cases ea)]
        exact s4 _ _ ea
      replace ed : (upd (upd H3 x (.tup [.str "NoNumber", v])) fl (.lst ([] ++ [.ref x]))) d' = some (.xd [("value", v)]) := by
        rw [upd_ne (fun z => by rw [z, hfl] at ed; cases ed)]
        exact s4 _ _ ed
      generalize (upd (upd H3 x (.tup [.str "NoNumber", v])) fl (.lst ([] ++ [.ref x]))) = H5 at s5 ex5 efl ea ed ⊢
      refine ⟨.ref e, rfl, .inl ⟨e, T.cNoN, d', _, _, _, _, rfl, ea, ed, T.eNoN.ec, .own _, T.kit_NoN_NotL, ⟨_, rfl, iteF ?_⟩⟩⟩
      refine ⟨.ref e, rfl, .inl ⟨e, T.cNoN, d', _, _, _, _, rfl, ea, ed, T.eNoN.ec, .own _, T.kit_NoN_NotD, ⟨_, rfl, iteF ?_⟩⟩⟩
      refine ⟨.ref e, rfl, .inl ⟨e, T.cNoN, d', _, _, _, _, rfl, ea, ed, T.eNoN.ec, .own _, T.kit_NoN_TooF, ⟨_, rfl, iteF ?_⟩⟩⟩
      refine ⟨.ref e, rfl, .inl ⟨e, T.cNoN, d', _, _, _, _, rfl, ea, ed, T.eNoN.ec, .own _, T.kit_NoN_NoU, ⟨_, rfl, iteF ?_⟩⟩⟩
      refine ⟨.ref fl, rfl, fl, _, rfl, .inl (SqL.of efl), rfl, _, rfl, iteT ?_⟩
      refine ⟨.ref e, rfl, .inl ⟨e, T.cNoN, d', _, _, _, _, rfl, ea, ed, T.eNoN.ec, .ty _, T.kSV_NoN, ?_⟩⟩
      refine ⟨_, rfl, iteT ?_⟩
      refine ⟨.ref fl, rfl, fl, _, _, _, rfl, rfl, SqL.of efl, rfl, ?_⟩
      exact hq _ x s5 hx4 ex5
    · refine ⟨true, T.eNotL.ex, fun _ e ne => ?_, fun z => nomatch z⟩
      have s2 := same_new (o := exk e (.ref T.cNotL) (some d')) ne
      have ea : (upd H' e (exk e (.ref T.cNotL) (some d'))) e = some (exk e (.ref T.cNotL) (some d')) := upd_same
      have ed : (upd H' e (exk e (.ref T.cNotL) (some d'))) d' = some (.xd [("value", v)]) := s2 _ _ hd
      refine ⟨.ref e, rfl, ?_⟩
      refine ⟨.ref e, rfl, rfl, _, rfl, iteF ?_⟩
      refine ⟨Nat.zero_le _, fun fl nfl => ?_⟩
      have s3 := same_new (o := .lst []) nfl
      have hfl : (upd (upd H' e (exk e (.ref T.cNotL) (some d'))) fl (.lst [])) fl = some (.lst []) := upd_same
      replace ea := s3 _ _ ea
      replace ed := s3 _ _ ed
      have ffl := s2.free nfl
      replace s3 := s2.trans s3
      generalize upd (upd H' e (exk e (.ref T.cNotL) (some d'))) fl (.lst []) = H3 at s3 hfl ea ed ⊢
      refine ⟨.ref e, rfl, .inl ⟨e, T.cNotL, d', _, _, _, _, rfl, ea, ed, T.eNotL.ec, .own _, T.kit_NotL_NoLi, ⟨_, rfl, iteF ?_⟩⟩⟩
      refine ⟨.ref e, rfl, .inl ⟨e, T.cNotL, d', _, _, _, _, rfl, ea, ed, T.eNotL.ec, .own _, T.kit_NotL_NoN, ⟨_, rfl, iteF ?_⟩⟩⟩
      refine ⟨.ref e, rfl, .inl ⟨e, T.cNotL, d', _, _, _, _, rfl, ea, ed, T.eNotL.ec, .own _, T.kit_NotL_NotL, ⟨_, rfl, iteT ?_⟩⟩⟩
      refine ⟨.ref fl, rfl, .inl ⟨rfl, _, SqL.of hfl⟩, .ref e, rfl, e, T.cNotL, d', _, v, rfl, ea, ed, T.eNotL.xf, T.eNotL.no, rfl, (by show 2 ≤ sizeLine; decide), fun x nx => ?_⟩
      have s4 := same_new (o := .tup [.str "NotLive", v]) nx
      refine ⟨fl, _, _, rfl, rfl, s4 _ _ hfl, (by show 0 < sizeLine; decide), ?_⟩
      have hx4 := s3.free nx
      have nxf : x ≠ fl := fun z => by
        rw [z, hfl] at nx
        cases nx
      have s5 : Same H' (upd (upd H3 x (.tup [.str "NotLive", v])) fl (.lst ([] ++ [.ref x]))) := keep_upd (s3.trans s4) ffl
      have ex5 : (upd (upd H3 x (.tup [.str "NotLive", v])) fl (.lst ([] ++ [.ref x]))) x = some (.tup [.str "NotLive", v]) := by
        rw [upd_ne nxf, upd_same]
      have efl : (upd (upd H3 x (.tup [.str "NotLive", v])) fl (.lst ([] ++ [.ref x]))) fl = some (.lst [.ref x]) := upd_same
      replace ea : (upd (upd H3 x (.tup [.str "NotLive", v])) fl (.lst ([] ++ [.ref x]))) e = some (exk e (.ref T.cNotL) (some d')) := by
        rw [upd_ne (fun z => by rw [z, hfl] at ea; cases ea)]
        exact s4 _ _ ea
      replace ed : (upd (upd H3 x (.tup [.str "NotLive", v])) fl (.lst ([] ++ [.ref x]))) d' = some (.xd [("value", v)]) := by
        rw [upd_ne (fun z => by rw [z, hfl] at ed; cases ed)]
        exact s4 _ _ ed
      generalize (upd (upd H3 x (.tup [.str "NotLive", v])) fl (.lst ([] ++ [.ref x]))) = H5 at s5 ex5 efl ea ed ⊢
      refine ⟨.ref e, rfl, .inl ⟨e, T.cNotL, d', _, _, _, _, rfl, ea, ed, T.eNotL.ec, .own _, T.kit_NotL_NotD, ⟨_, rfl, iteF ?_⟩⟩⟩
      refine ⟨.ref e, rfl, .inl ⟨e, T.cNotL, d', _, _, _, _, rfl, ea, ed, T.eNotL.ec, .own _, T.kit_NotL_TooF, ⟨_, rfl, iteF ?_⟩⟩⟩
      refine ⟨.ref e, rfl, .inl ⟨e, T.cNotL, d', _, _, _, _, rfl, ea, ed, T.eNotL.ec, .own _, T.kit_NotL_NoU, ⟨_, rfl, iteF ?_⟩⟩⟩
      refine ⟨.ref fl, rfl, fl, _, rfl, .inl (SqL.of efl), rfl, _, rfl, iteT ?_⟩
      refine ⟨.ref e, rfl, .inl ⟨e, T.cNotL, d', _, _, _, _, rfl, ea, ed, T.eNotL.ec, .ty _, T.kSV_NotL, ?_⟩⟩
      refine ⟨_, rfl, iteT ?_⟩
      refine ⟨.ref fl, rfl, fl, _, _, _, rfl, rfl, SqL.of efl, rfl, ?_⟩
      exact hq _ x s5 hx4 ex5
    · refine ⟨true, T.eNotD.ex, fun _ e ne => ?_, fun z => nomatch z⟩
      have s2 := same_new (o := exk e (.ref T.cNotD) (some d')) ne
      have ea : (upd H' e (exk e (.ref T.cNotD) (some d'))) e = some (exk e (.ref T.cNotD) (some d')) := upd_same
      have ed : (upd H' e (exk e (.ref T.cNotD) (some d'))) d' = some (.xd [("value", v)]) := s2 _ _ hd
      refine ⟨.ref e, rfl, ?_⟩
      refine ⟨.ref e, rfl, rfl, _, rfl, iteF ?_⟩
      refine ⟨Nat.zero_le _, fun fl nfl => ?_⟩
      have s3 := same_new (o := .lst []) nfl
      have hfl : (upd (upd H' e (exk e (.ref T.cNotD) (some d'))) fl (.lst [])) fl = some (.lst []) := upd_same
      replace ea := s3 _ _ ea
      replace ed := s3 _ _ ed
      have ffl := s2.free nfl
      replace s3 := s2.trans s3
      generalize upd (upd H' e (exk e (.ref T.cNotD) (some d'))) fl (.lst []) = H3 at s3 hfl ea ed ⊢
      refine ⟨.ref e, rfl, .inl ⟨e, T.cNotD, d', _, _, _, _, rfl, ea, ed, T.eNotD.ec, .own _, T.kit_NotD_NoLi, ⟨_, rfl, iteF ?_⟩⟩⟩
      refine ⟨.ref e, rfl, .inl ⟨e, T.cNotD, d', _, _, _, _, rfl, ea, ed, T.eNotD.ec, .own _, T.kit_NotD_NoN, ⟨_, rfl, iteF ?_⟩⟩⟩
      refine ⟨.ref e, rfl, .inl ⟨e, T.cNotD, d', _, _, _, _, rfl, ea, ed, T.eNotD.ec, .own _, T.kit_NotD_NotL, ⟨_, rfl, iteF ?_⟩⟩⟩
      refine ⟨.ref e, rfl, .inl ⟨e, T.cNotD, d', _, _, _, _, rfl, ea, ed, T.eNotD.ec, .own _, T.kit_NotD_NotD, ⟨_, rfl, iteT ?_⟩⟩⟩
      refine ⟨.ref fl, rfl, .inl ⟨rfl, _, SqL.of hfl⟩, .ref e, rfl, e, T.cNotD, d', _, v, rfl, ea, ed, T.eNotD.xf, T.eNotD.no, rfl, (by show 2 ≤ sizeLine; decide), fun x nx => ?_⟩
      have s4 := same_new (o := .tup [.str "NotDead", v]) nx
      refine ⟨fl, _, _, rfl, rfl, s4 _ _ hfl, (by show 0 < sizeLine; decide), ?_⟩
      have hx4 := s3.free nx
      have nxf : x ≠ fl := fun z => by
        rw [z, hfl] at nx
        cases nx
      have s5 : Same H' (upd (upd H3 x (.tup [.str "NotDead", v])) fl (.lst ([] ++ [.ref x]))) := keep_upd (s3.trans s4) ffl
      have ex5 : (upd (upd H3 x (.tup [.str "NotDead", v])) fl (.lst ([] ++ [.ref x]))) x = some (.tup [.str "NotDead", v]) := by
        rw [upd_ne nxf, upd_same]
      have efl : (upd (upd H3 x (.tup [.str "NotDead", v])) fl (.lst ([] ++ [.ref x]))) fl = some (.lst [.ref x]) := upd_same
      replace ea : (upd (upd H3 x (.tup [.str "NotDead", v])) fl (.lst ([] ++ [.ref x]))) e = some (exk e (.ref T.cNotD) (some d')) := by
        rw [upd_ne (fun z => by rw [z, hfl] at ea; cases ea)]
        exact s4 _ _ ea
      replace ed : (upd (upd H3 x (.tup [.str "NotDead", v])) fl (.lst ([] ++ [.ref x]))) d' = some (.xd [("value", v)]) := by
        rw [upd_ne (fun z => by rw [z, hfl] at ed; cases ed)]
        exact s4 _ _ ed
      generalize (upd (upd H3 x (.tup [.str "NotDead", v])) fl (.lst ([] ++ [.ref x]))) = H5 at s5 ex5 efl ea ed ⊢
      refine ⟨.ref e, rfl, .inl ⟨e, T.cNotD, d', _, _, _, _, rfl, ea, ed, T.eNotD.ec, .own _, T.kit_NotD_TooF, ⟨_, rfl, iteF ?_⟩⟩⟩
      refine ⟨.ref e, rfl, .inl ⟨e, T.cNotD, d', _, _, _, _, rfl, ea, ed, T.eNotD.ec, .own _, T.kit_NotD_NoU, ⟨_, rfl, iteF ?_⟩⟩⟩
      refine ⟨.ref fl, rfl, fl, _, rfl, .inl (SqL.of efl), rfl, _, rfl, iteT ?_⟩
      refine ⟨.ref e, rfl, .inl ⟨e, T.cNotD, d', _, _, _, _, rfl, ea, ed, T.eNotD.ec, .ty _, T.kSV_NotD, ?_⟩⟩
      refine ⟨_, rfl, iteT ?_⟩
      refine ⟨.ref fl, rfl, fl, _, _, _, rfl, rfl, SqL.of efl, rfl, ?_⟩
      exact hq _ x s5 hx4 ex5
    · refine ⟨true, T.eTooF.ex, fun _ e ne => ?_, fun z => nomatch z⟩
      have s2 := same_new (o := exk e (.ref T.cTooF) (some d')) ne
      have ea : (upd H' e (exk e (.ref T.cTooF) (some d'))) e = some (exk e (.ref T.cTooF) (some d')) := upd_same
      have ed : (upd H' e (exk e (.ref T.cTooF) (some d'))) d' = some (.xd [("alive", v)]) := s2 _ _ hd
      refine ⟨.ref e, rfl, ?_⟩
      refine ⟨.ref e, rfl, rfl, _, rfl, iteF ?_⟩
      refine ⟨Nat.zero_le _, fun fl nfl => ?_⟩
      have s3 := same_new (o := .lst []) nfl
      have hfl : (upd (upd H' e (exk e (.ref T.cTooF) (some d'))) fl (.lst [])) fl = some (.lst []) := upd_same
      replace ea := s3 _ _ ea
      replace ed := s3 _ _ ed
      have ffl := s2.free nfl
      replace s3 := s2.trans s3
      generalize upd (upd H' e (exk e (.ref T.cTooF) (some d'))) fl (.lst []) = H3 at s3 hfl ea ed ⊢
      refine ⟨.ref e, rfl, .inl ⟨e, T.cTooF, d', _, _, _, _, rfl, ea, ed, T.eTooF.ec, .own _, T.kit_TooF_NoLi, ⟨_, rfl, iteF ?_⟩⟩⟩
      refine ⟨.ref e, rfl, .inl ⟨e, T.cTooF, d', _, _, _, _, rfl, ea, ed, T.eTooF.ec, .own _, T.kit_TooF_NoN, ⟨_, rfl, iteF ?_⟩⟩⟩
      refine ⟨.ref e, rfl, .inl ⟨e, T.cTooF, d', _, _, _, _, rfl, ea, ed, T.eTooF.ec, .own _, T.kit_TooF_NotL, ⟨_, rfl, iteF ?_⟩⟩⟩
      refine ⟨.ref e, rfl, .inl ⟨e, T.cTooF, d', _, _, _, _, rfl, ea, ed, T.eTooF.ec, .own _, T.kit_TooF_NotD, ⟨_, rfl, iteF ?_⟩⟩⟩
      refine ⟨.ref e, rfl, .inl ⟨e, T.cTooF, d', _, _, _, _, rfl, ea, ed, T.eTooF.ec, .own _, T.kit_TooF_TooF, ⟨_, rfl, iteT ?_⟩⟩⟩
      refine ⟨.ref fl, rfl, .inl ⟨rfl, _, SqL.of hfl⟩, .ref e, rfl, e, T.cTooF, d', _, v, rfl, ea, ed, T.eTooF.xf, T.eTooF.no, rfl, (by show 2 ≤ sizeLine; decide), fun x nx => ?_⟩
      have s4 := same_new (o := .tup [.str "TooFew", v]) nx
      refine ⟨fl, _, _, rfl, rfl, s4 _ _ hfl, (by show 0 < sizeLine; decide), ?_⟩
      have hx4 := s3.free nx
      have nxf : x ≠ fl := fun z => by
        rw [z, hfl] at nx
        cases nx
      have s5 : Same H' (upd (upd H3 x (.tup [.str "TooFew", v])) fl (.lst ([] ++ [.ref x]))) := keep_upd (s3.trans s4) ffl
      have ex5 : (upd (upd H3 x (.tup [.str "TooFew", v])) fl (.lst ([] ++ [.ref x]))) x = some (.tup [.str "TooFew", v]) := by
        rw [upd_ne nxf, upd_same]
      have efl : (upd (upd H3 x (.tup [.str "TooFew", v])) fl (.lst ([] ++ [.ref x]))) fl = some (.lst [.ref x]) := upd_same
      replace ea : (upd (upd H3 x (.tup [.str "TooFew", v])) fl (.lst ([] ++ [.ref x]))) e = some (exk e (.ref T.cTooF) (some d')) := by
        rw [upd_ne (fun z => by rw [z, hfl] at ea; cases ea)]
        exact s4 _ _ ea
      replace ed : (upd (upd H3 x (.tup [.str "TooFew", v])) fl (.lst ([] ++ [.ref x]))) d' = some (.xd [("alive", v)]) := by
        rw [upd_ne (fun z => by rw [z, hfl] at ed; cases ed)]
        exact s4 _ _ ed
      generalize (upd (upd H3 x (.tup [.str "TooFew", v])) fl (.lst ([] ++ [.ref x]))) = H5 at s5 ex5 efl ea ed ⊢
      refine ⟨.ref e, rfl, .inl ⟨e, T.cTooF, d', _, _, _, _, rfl, ea, ed, T.eTooF.ec, .own _, T.kit_TooF_NoU, ⟨_, rfl, iteF ?_⟩⟩⟩
      refine ⟨.ref fl, rfl, fl, _, rfl, .inl (SqL.of efl), rfl, _, rfl, iteT ?_⟩
      refine ⟨.ref e, rfl, .inl ⟨e, T.cTooF, d', _, _, _, _, rfl, ea, ed, T.eTooF.ec, .ty _, T.kSV_TooF, ?_⟩⟩
      refine ⟨_, rfl, iteT ?_⟩
      refine ⟨.ref fl, rfl, fl, _, _, _, rfl, rfl, SqL.of efl, rfl, ?_⟩
      exact hq _ x s5 hx4 ex5
    · refine ⟨true, T.kNoUe, fun _ e ne => ?_, fun z => nomatch z⟩
      have s2 := same_new (o := exk e (.ref T.cNoU) none) ne
      have ea : (upd H' e (exk e (.ref T.cNoU) none)) e = some (exk e (.ref T.cNoU) none) := upd_same
      refine ⟨.ref e, rfl, ?_⟩
      refine ⟨.ref e, rfl, rfl, _, rfl, iteF ?_⟩
      refine ⟨Nat.zero_le _, fun fl nfl => ?_⟩
      have s3 := same_new (o := .lst []) nfl
      have hfl : (upd (upd H' e (exk e (.ref T.cNoU) none)) fl (.lst [])) fl = some (.lst []) := upd_same
      replace ea := s3 _ _ ea
      have ffl := s2.free nfl
      replace s3 := s2.trans s3
      generalize upd (upd H' e (exk e (.ref T.cNoU) none)) fl (.lst []) = H3 at s3 hfl ea ⊢
      refine ⟨.ref e, rfl, .inr (.inl ⟨e, T.cNoU, _, _, _, rfl, ea, exc_NoU54 T, .own _, T.kit_NoU_NoLi, ⟨_, rfl, iteF ?_⟩⟩)⟩
      refine ⟨.ref e, rfl, .inr (.inl ⟨e, T.cNoU, _, _, _, rfl, ea, exc_NoU54 T, .own _, T.kit_NoU_NoN, ⟨_, rfl, iteF ?_⟩⟩)⟩
      refine ⟨.ref e, rfl, .inr (.inl ⟨e, T.cNoU, _, _, _, rfl, ea, exc_NoU54 T, .own _, T.kit_NoU_NotL, ⟨_, rfl, iteF ?_⟩⟩)⟩
      refine ⟨.ref e, rfl, .inr (.inl ⟨e, T.cNoU, _, _, _, rfl, ea, exc_NoU54 T, .own _, T.kit_NoU_NotD, ⟨_, rfl, iteF ?_⟩⟩)⟩
      refine ⟨.ref e, rfl, .inr (.inl ⟨e, T.cNoU, _, _, _, rfl, ea, exc_NoU54 T, .own _, T.kit_NoU_TooF, ⟨_, rfl, iteF ?_⟩⟩)⟩
      refine ⟨.ref e, rfl, .inr (.inl ⟨e, T.cNoU, _, _, _, rfl, ea, exc_NoU54 T, .own _, T.kit_NoU_NoU, ⟨_, rfl, iteT ?_⟩⟩)⟩
      refine ⟨.ref fl, rfl, .inl ⟨rfl, _, SqL.of hfl⟩, (by show 2 ≤ sizeLine; decide), fun x nx => ?_⟩
      have s4 := same_new (o := .tup [.str "NoUndo", V.non]) nx
      refine ⟨fl, _, _, rfl, rfl, s4 _ _ hfl, (by show 0 < sizeLine; decide), ?_⟩
      have hx4 := s3.free nx
      have nxf : x ≠ fl := fun z => by
        rw [z, hfl] at nx
        cases nx
      have s5 : Same H' (upd (upd H3 x (.tup [.str "NoUndo", V.non])) fl (.lst ([] ++ [.ref x]))) := keep_upd (s3.trans s4) ffl
      have ex5 : (upd (upd H3 x (.tup [.str "NoUndo", V.non])) fl (.lst ([] ++ [.ref x]))) x = some (.tup [.str "NoUndo", V.non]) := by
        rw [upd_ne nxf, upd_same]
      have efl : (upd (upd H3 x (.tup [.str "NoUndo", V.non])) fl (.lst ([] ++ [.ref x]))) fl = some (.lst [.ref x]) := upd_same
      replace ea : (upd (upd H3 x (.tup [.str "NoUndo", V.non])) fl (.lst ([] ++ [.ref x]))) e = some (exk e (.ref T.cNoU) none) := by
        rw [upd_ne (fun z => by rw [z, hfl] at ea; cases ea)]
        exact s4 _ _ ea
      generalize (upd (upd H3 x (.tup [.str "NoUndo", V.non])) fl (.lst ([] ++ [.ref x]))) = H5 at s5 ex5 efl ea ⊢
      refine ⟨.ref fl, rfl, fl, _, rfl, .inl (SqL.of efl), rfl, _, rfl, iteT ?_⟩
      refine ⟨.ref e, rfl, .inr (.inl ⟨e, T.cNoU, _, _, _, rfl, ea, exc_NoU54 T, .ty _, T.kSV_NoU, ?_⟩)⟩
      refine ⟨_, rfl, iteT ?_⟩
      refine ⟨.ref fl, rfl, fl, _, _, _, rfl, rfl, SqL.of efl, rfl, ?_⟩
      exact hq _ x s5 hx4 ex5
  · refine h _ _ s0 fun v H1 hq => ?_
    refine ⟨_, rfl, rfl, _, rfl, iteT ?_⟩
    refine ⟨v, rfl, (by show 2 ≤ sizeLine; decide), fun p np => ?_⟩
    exact hq _ p (same_new np) np upd_same
/-! ### words, joined by the law -/
def spWords54 (K : PySem.W.Frag) : Sp := fun vs H Q _ => ∃ (a : Addr) (xs : List V) (ws : List Str), vs = [.ref a] ∧ SqT K H a xs ∧ PySem.Paired WordV xs ws ∧ ws.length ≤ 1000 ∧ (∀ w ∈ ws, w.length ≤ 1000) ∧
  ∀ H', Same H H' → Q (.str (Txt.join blankS ws)) H'
theorem words_get54 {xs : List V} {ws : List Str} (h : PySem.Paired WordV xs ws) : ∀ {i : Nat} {v : V}, xs[i]? = some v → ∃ w, ws[i]? = some w ∧ WordV v w := by
  induction h with
  | nil => intro i v z; cases z
  | cons a _ ih =>
    intro i v z
    cases i with
    | zero =>
      obtain rfl := Option.some.inj z
      exact ⟨_, rfl, a⟩
    | succ i => exact ih z
section
variable {P : Program} {w : World} {K : PySem.W.Frag} {mg : Str → Option Value} {base : Heap}
theorem ok_words54 (T : Txt K mg) {j : Nat} : FnOk P w K mg base CX0 (j + 1) T.fWords54 T.fdWords54 ["_law_things"] (spWords54 K) := by
  refine T.FWords54.ok scWords54 (fun vs H Q E h => ?_) (fun cdv A outer s H vs Q E hr h => ?_)
  · obtain ⟨a, xs, ws, rfl, _⟩ := h
    rfl
  · obtain ⟨a, xs, ws, rfl, hA, hw, hl, hb, q⟩ := h
    refine ⟨_, pss_one (ps_ret (pe_join pe_str (pe_lc (own := [("_law_thing", 1)]) (g := (gName 1)) (tt := tYes) rfl scWords54.nd (pi_tup (pv 0)) (blkOk_by (own := [("_law_thing", 1)]) (N := NWords54) (sc := defScope sWords54) (by decide +kernel)) (fun _ _ _ _ _ => (pg_name (i := 1) scWords54.nd rfl (.inl rfl))) (fun _ _ _ _ _ => pts_nil) (fun _ _ _ _ _ => (pe_callTy call_strE (by rfl) T.n_str (by decide +kernel) (pa_cons (pv 1) pa_nil)))))), ?_⟩
    refine ⟨⟨blankS, rfl⟩, .ref a, rfl, a, rfl, ⟨_, hA⟩, fun D nD => ?_⟩
    refine lc_tup (a := a) (xs := xs) (fun z H2 => Same H H2 ∧ H2 D = some (.lst ((ws.take z).map V.str))) ⟨same_new nD, upd_same⟩ (fun _ H2 _ h => Same.seqT h.1 hA) ?_ ?_
    · rintro z v H2 hz ⟨s2, hD⟩
      obtain ⟨x, hx, hv⟩ := words_get54 hw hz
      refine ⟨rfl, v, rfl, ?_⟩
      dsimp only [tNil]
      refine hv.str ⟨_, hD, by rw [List.length_map, List.length_take, sizeLine_eq]; omega, keep_upd s2 nD, ?_⟩
      rw [upd_same, take_snocT hx, List.map_append]
      rfl
    rintro H2 ⟨s2, hD⟩
    rw [PySem.Paired.length hw, List.take_length] at hD
    refine ⟨blankS, D, ws, rfl, rfl, .inl (SqL.of hD), ?_, q _ s2⟩
    have h1 := sum_le (f := fun x : Str => x.length) hb
    show _ + ws.length * 1 ≤ _
    omega
end
/-! ### an answer, told as a pair -/
def outN : Ans → Str × V
  | .ok s _ _ => ("returned", .str s)
  | .noN k => ("NoNumber", .int (k : Int))
  | .notL k => ("NotLive", .int (k : Int))
  | .notD k => ("NotDead", .int (k : Int))
  | .tooF u => ("TooFew", .int (u : Int))
  | .noU => ("NoUndo", .non)
theorem ans_list {n fl fa c : Nat} {L : List Nat} {qs : List (Nat × Nat)} {k : Nat} : ansW n fl fa c L qs "list" [k] = if k < c then .ok (rowS (path n (min n (fl + fa)) c k).1) L qs else .noN k := by
  show ansB n fl fa c L qs "list" k = _
  unfold ansB
  rw [if_neg (by decide), if_neg (by decide), if_neg (by decide), if_neg (by decide)]
/-! ### the answer to a line list, as the law has it -/
def spList54 (K : PySem.W.Frag) : Sp := fun vs H Q _ => ∃ (t : Addr) (n fl fa c k : Nat) (L : List Nat) (qs : List (Nat × Nat)), vs = [.ref t, .int (k : Int)] ∧ SqT K H t [V.int n, V.int fl, V.int fa, V.int c] ∧ Std n (min n (fl + fa)) c ∧ c < 2 ^ 500 ∧
  ∀ H' x, Same H H' → H x = none → H' x = some (.tup [.str (outN (ansW n fl fa c L qs "list" [k])).1, (outN (ansW n fl fa c L qs "list" [k])).2]) → Q (.ref x) H'
section
variable {P : Program} {w : World} {K : PySem.W.Frag} {mg : Str → Option Value} {base : Heap}
theorem ok_list54 (T : Txt K mg) {j : Nat} : FnOk P w K mg base CX0 (j + 3) T.fList54 T.fdList54 ["_law_sizes_here", "_law_number"] (spList54 K) := by
  refine T.FList54.ok scList54 (fun vs H Q E h => ?_) (fun cdv A outer s H vs Q E hr h => ?_)
  · obtain ⟨t, n, fl, fa, c, k, L, qs, rfl, _⟩ := h
    rfl
  · obtain ⟨t, n, fl, fa, c, k, L, qs, rfl, hT, st, hc, q⟩ := h
    refine ⟨_, pss_cons (ps_asg (pv 0) (pg_tup rfl (pgs_cons (pg_name (i := 2) scList54.nd rfl (.inl rfl)) (pgs_cons (pg_name (i := 3) scList54.nd rfl (.inl rfl)) (pgs_cons (pg_name (i := 4) scList54.nd rfl (.inl rfl)) (pgs_cons (pg_name (i := 5) scList54.nd rfl (.inl rfl)) pgs_nil)))))) (pss_cons (ps_if (pt_cmpR op_ge (pv 1) (pv 5) (nomark _)) (pss_one (ps_ret (pe_tup (pa_cons pe_str (pa_cons (pv 1) pa_nil))))) pss_nil) (pss_one (ps_ret (pe_tup (pa_cons pe_str (pa_cons (pe_call (ok_words54 T) hr (by rfl) T.gWords54 T.FWords54.kp T.bWords54 .nil pass0 (pa_cons (pe_call (ok_orders T) hr (by rfl) T.gOrderS T.FOrderS.kp T.bOrderS .nil pass0 (pa_cons (pv 2) (pa_cons (pe_callB (call_min2 rfl) (by rfl) T.n_min (by decide +kernel) (pa_cons (pv 2) (pa_cons (pe_op op_add (pv 3) (pv 4)) pa_nil))) (pa_cons (pv 5) (pa_cons (pv 1) pa_nil))))) pa_nil)) pa_nil)))))), ?_⟩
    rw [ans_list] at q
    refine ⟨.ref t, rfl, t, _, rfl, hT, rfl, _, _, rfl, _, _, rfl, _, _, rfl, _, _, rfl, rfl, ?_⟩
    refine ⟨_, rfl, _, rfl, _, _, rfl, rfl, _, rfl, ite2 (fun hb => ?_) (fun hb => ?_)⟩
    · have hk : (c : Int) ≤ (k : Int) := of_decide_eq_true hb
      rw [if_neg (by omega)] at q
      exact ⟨_, rfl, (by show 2 ≤ sizeLine; decide), fun x nx => q _ x (same_new nx) nx upd_same⟩
    · have hk : ¬ (c : Int) ≤ (k : Int) := fun z => hb (decide_eq_true z)
      have hk : k < c := by omega
      rw [if_pos hk] at q
      refine ⟨_, rfl, _, rfl, _, rfl, _, rfl, _, _, rfl, rfl, _, _, rfl, ?_⟩
      have em : (if (fl : Int) + (fa : Int) < (n : Int) then (fl : Int) + (fa : Int) else (n : Int)) = ((min n (fl + fa) : Nat) : Int) := by
        split <;> omega
      dsimp only
      rw [em]
      refine ⟨_, rfl, _, rfl, n, min n (fl + fa), c, k, rfl, st, hk, hc, fun H1 u s1 nu hu => ?_⟩
      have n6 := st.n60
      have pl : (path n (min n (fl + fa)) c k).1.length ≤ 60 := by rw [path_len]; omega
      have lt : ∀ y ∈ (path n (min n (fl + fa)) c k).1, y < 60 := fun y hy => Nat.lt_of_lt_of_le (path_lt st hk y hy) n6
      refine ⟨u, _, (path n (min n (fl + fa)) c k).1.map natS, rfl, SqT.of hu, words_nat lt, by rw [List.length_map]; omega, fun w hw => ?_, fun H2 s2 => ?_⟩
      · obtain ⟨y, hy, rfl⟩ := List.mem_map.mp hw
        exact Nat.le_trans (natS_short (Nat.le_of_lt (lt y hy))) (by decide)
      exact ⟨(by show 2 ≤ sizeLine; decide), fun x nx => q _ x ((s1.trans s2).trans (same_new nx)) ((s1.trans s2).free nx) upd_same⟩
end
/-! ### a line, drawn -/
/-- a word and numbers of one of the forms -/
def LnOk (z : Str) (ks : List Nat) : Prop := formsL.lookup z = some ks.length ∧ ∀ k ∈ ks, k < 10 ^ 40
def spLine54 (K : PySem.W.Frag) : Sp := fun vs H Q _ => ∃ (p t : Addr) (n fl fa c : Nat), vs = [.ref p, .ref t] ∧ StrAt H p ∧ H t = some (.tup [V.int n, V.int fl, V.int fa, V.int c]) ∧ 1 ≤ n ∧ n ≤ 60 ∧ 1 ≤ c ∧ c < 10 ^ 38 ∧
  ∀ H' x z ks, But p H H' → StrAt H' p → H x = none → H' x = some (.tup (.str z :: setV ks)) → LnOk z ks → Q (.ref x) H'
/-- at v: a line as a tuple, new -/
def LnAt (H0 H : Hp) (v : V) : Prop := ∃ x z ks, v = .ref x ∧ H x = some (.tup (.str z :: setV ks)) ∧ LnOk z ks ∧ H0 x = none
theorem LnAt.same {H0 H H' : Hp} {v : V} (h : LnAt H0 H v) (s : Same H H') : LnAt H0 H' v := by
  obtain ⟨x, z, ks, e, h1, h2, h3⟩ := h
  exact ⟨x, z, ks, e, s _ _ h1, h2, h3⟩
theorem free_strA {H H1 : Hp} {p b : Addr} (B : But p H H1) (P : StrAt H1 p) (n : H1 b = none) : H b = none := by
  cases e : H b with
  | none => rfl
  | some o =>
    have := B b o (P.ne n).symm e
    rw [n] at this
    cases this
theorem LnAt.new {H H1 : Hp} {p t : Addr} {z : Str} {ks : List Nat} (B : But p H H1) (P : StrAt H1 p) (nt : H1 t = none) (h : LnOk z ks) : LnAt H (L2.upd H1 t (.tup (.str z :: setV ks))) (.ref t) := ⟨t, z, ks, rfl, upd_same, h, free_strA B P nt⟩
section
variable {P : Program} {w : World} {K : PySem.W.Frag} {mg : Str → Option Value} {base : Heap}
theorem ok_line54 (T : Txt K mg) {j : Nat} : FnOk P w K mg base CX0 (j + 3) T.fLine54 T.fdLine54 ["_law_stream_here", "_law_sizes_here"] (spLine54 K) := by
  refine T.FLine54.ok scLine54 (fun vs H Q E h => ?_) (fun cdv A outer s H vs Q E hr h => ?_)
  · obtain ⟨p, t, n, fl, fa, c, rfl, _⟩ := h
    rfl
  · obtain ⟨p, t, n, fl, fa, c, rfl, P0, hT, n1, n60, c1, c38, q⟩ := h
    refine ⟨_, pss_cons (ps_asg (pv 1) (pg_tup rfl (pgs_cons (pg_name (i := 2) scLine54.nd rfl (.inl rfl)) (pgs_cons (pg_name (i := 3) scLine54.nd rfl (.inl rfl)) (pgs_cons (pg_name (i := 4) scLine54.nd rfl (.inl rfl)) (pgs_cons (pg_name (i := 5) scLine54.nd rfl (.inl rfl)) pgs_nil)))))) (pss_cons (ps_set (i := 6) scLine54.nd rfl (.inl rfl) (pe_call (ok_pick T) hr (by rfl) T.gPick T.FPick.kp T.bPick .nil pass0 (pa_cons (pv 0) (pa_cons (pe_lst (pa_cons (pe_call (ok_draw T) hr (by rfl) T.gDraw T.FDraw.kp T.bDraw .nil pass0 (pa_cons (pv 0) (pa_cons (pv 5) pa_nil))) (pa_cons (pe_op op_sub (pv 5) pe_int) (pa_cons (pv 5) (pa_cons (pe_op op_powB pe_int pe_int) pa_nil))))) pa_nil)))) (pss_cons (ps_set (i := 7) scLine54.nd rfl (.inl rfl) (pe_call (ok_pick T) hr (by rfl) T.gPick T.FPick.kp T.bPick .nil pass0 (pa_cons (pv 0) (pa_cons (pe_lst (pa_cons (pe_call (ok_draw T) hr (by rfl) T.gDraw T.FDraw.kp T.bDraw .nil pass0 (pa_cons (pv 0) (pa_cons (pv 2) pa_nil))) (pa_cons (pe_call (ok_draw T) hr (by rfl) T.gDraw T.FDraw.kp T.bDraw .nil pass0 (pa_cons (pv 0) (pa_cons (pv 2) pa_nil))) (pa_cons (pv 2) (pa_cons pe_int pa_nil))))) pa_nil)))) (pss_cons (ps_set (i := 8) scLine54.nd rfl (.inl rfl) (pe_lst (pa_cons (pe_tup (pa_cons pe_str (pa_cons (pv 7) pa_nil))) (pa_cons (pe_tup (pa_cons pe_str (pa_cons (pv 7) pa_nil))) (pa_cons (pe_tup (pa_cons pe_str (pa_cons (pv 7) pa_nil))) (pa_cons (pe_tup (pa_cons pe_str (pa_cons (pv 6) pa_nil))) (pa_cons (pe_tup (pa_cons pe_str (pa_cons (pv 6) (pa_cons (pv 7) pa_nil)))) pa_nil))))))) (pss_cons (ps_set (i := 8) scLine54.nd rfl (.inl rfl) (pe_op op_cat (pv 8) (pe_lst (pa_cons (pe_tup (pa_cons pe_str (pa_cons (pv 7) pa_nil))) (pa_cons (pe_tup (pa_cons pe_str pa_nil)) (pa_cons (pe_tup (pa_cons pe_str pa_nil)) (pa_cons (pe_tup (pa_cons pe_str pa_nil)) (pa_cons (pe_tup (pa_cons pe_str pa_nil)) (pa_cons (pe_tup (pa_cons pe_str (pa_cons (pv 6) pa_nil))) (pa_cons (pe_tup (pa_cons pe_str pa_nil)) pa_nil)))))))))) (pss_one (ps_ret (pe_call (ok_pick T) hr (by rfl) T.gPick T.FPick.kp T.bPick .nil pass0 (pa_cons (pv 0) (pa_cons (pv 8) pa_nil))))))))), ?_⟩
    refine ⟨.ref t, rfl, t, _, rfl, SqT.of hT, rfl, _, _, rfl, _, _, rfl, _, _, rfl, _, _, rfl, rfl, ?_⟩
    have tp : t ≠ p := by
      obtain ⟨ys, e⟩ := P0.lst
      exact fun z => by rw [z, e] at hT; cases hT
    have c40 : c < 2 ^ 1000 := Nat.lt_trans c38 (by decide +kernel)
    have e39 : ((10 : Int) ^ (39 : Int).toNat) = ((10 ^ 39 : Nat) : Int) := by decide +kernel
    refine ⟨.ref p, rfl, .ref p, rfl, _, rfl, p, _, rfl, P0, by omega, by exact_mod_cast c40, fun r1 H1 r10 r1l P1 b1 => ?_⟩
    obtain ⟨k1, rfl⟩ := Int.eq_ofNat_of_zero_le r10
    refine ⟨_, rfl, _, _, rfl, rfl, _, rfl, _, _, rfl, rfl, ⟨by decide, by decide +kernel⟩, (by show 4 ≤ sizeLine; decide), fun l1 nl1 => ?_⟩
    have s1 := same_new (o := .lst [V.int (k1 : Int), V.int ((c : Int) - 1), V.int c, V.int ((10 : Int) ^ (39 : Int).toNat)]) nl1
    refine ⟨p, l1, [V.int (k1 : Int), V.int ((c : Int) - 1), V.int c, V.int ((10 : Int) ^ (39 : Int).toNat)], rfl, P1.same s1, (P1.ne nl1).symm, .inl (SqL.of upd_same), (by show 1 ≤ 4; decide), (by show 4 ≤ 100000; decide), fun v H2 hv P2 b2 => ?_⟩
    obtain ⟨sh, rfl, hsh⟩ : ∃ sh : Nat, v = .int (sh : Int) ∧ sh < 10 ^ 40 := by
      have c4 : c < 10 ^ 40 := Nat.lt_trans c38 (by decide +kernel)
      rcases List.mem_cons.mp hv with rfl | hv
      · exact ⟨k1, rfl, by omega⟩
      rcases List.mem_cons.mp hv with rfl | hv
      · exact ⟨c - 1, by rw [show (c : Int) - 1 = ((c - 1 : Nat) : Int) by omega], by omega⟩
      rcases List.mem_cons.mp hv with rfl | hv
      · exact ⟨c, rfl, c4⟩
      rcases List.mem_cons.mp hv with rfl | hv
      · exact ⟨10 ^ 39, by rw [e39], by decide +kernel⟩
      cases hv
    have B2 : But p H H2 := (b1.trans (But.of s1)).trans b2
    clear b1 s1 b2 hv nl1 P1 P0
    refine ⟨.ref p, rfl, .ref p, rfl, _, rfl, p, _, rfl, P2, by omega, by exact_mod_cast (Nat.lt_of_le_of_lt n60 (by decide +kernel) : n < 2 ^ 1000), fun r2 H3 r20 r2l P3 b3 => ?_⟩
    obtain ⟨k2, rfl⟩ := Int.eq_ofNat_of_zero_le r20
    refine ⟨.ref p, rfl, _, rfl, p, _, rfl, P3, by omega, by exact_mod_cast (Nat.lt_of_le_of_lt n60 (by decide +kernel) : n < 2 ^ 1000), fun r3 H4 r30 r3l P4 b4 => ?_⟩
    obtain ⟨k3, rfl⟩ := Int.eq_ofNat_of_zero_le r30
    refine ⟨_, rfl, (by show 4 ≤ sizeLine; decide), fun l2 nl2 => ?_⟩
    have s2 := same_new (o := .lst [V.int (k2 : Int), V.int (k3 : Int), V.int n, V.int 99]) nl2
    refine ⟨p, l2, [V.int (k2 : Int), V.int (k3 : Int), V.int n, V.int 99], rfl, P4.same s2, (P4.ne nl2).symm, .inl (SqL.of upd_same), (by show 1 ≤ 4; decide), (by show 4 ≤ 100000; decide), fun v H5 hv P5 b5 => ?_⟩
    obtain ⟨sv, rfl, hsv⟩ : ∃ sv : Nat, v = .int (sv : Int) ∧ sv < 10 ^ 40 := by
      have n4 : n < 10 ^ 40 := Nat.lt_of_le_of_lt n60 (by decide +kernel)
      rcases List.mem_cons.mp hv with rfl | hv
      · exact ⟨k2, rfl, by omega⟩
      rcases List.mem_cons.mp hv with rfl | hv
      · exact ⟨k3, rfl, by omega⟩
      rcases List.mem_cons.mp hv with rfl | hv
      · exact ⟨n, rfl, n4⟩
      rcases List.mem_cons.mp hv with rfl | hv
      · exact ⟨99, rfl, by decide +kernel⟩
      cases hv
    have B5 : But p H H5 := ((B2.trans (b3.trans b4)).trans (But.of s2)).trans b5
    clear b3 b4 s2 b5 hv nl2 P2 P3 P4 B2
    have ln1 : ∀ {z : Str}, formsL.lookup z = some 1 → LnOk z [sv] := fun h => ⟨h, fun k hk => by rw [List.mem_singleton.mp hk]; exact hsv⟩
    have ln2 : ∀ {z : Str}, formsL.lookup z = some 1 → LnOk z [sh] := fun h => ⟨h, fun k hk => by rw [List.mem_singleton.mp hk]; exact hsh⟩
    have ln0 : ∀ {z : Str}, formsL.lookup z = some 0 → LnOk z [] := fun h => ⟨h, fun k hk => absurd hk List.not_mem_nil⟩
    have ln3 : LnOk "successor" [sh, sv] := ⟨show formsL.lookup ("successor" : Str) = some 2 by decide +kernel, fun k hk => by
      rcases List.mem_cons.mp hk with rfl | hk
      · exact hsh
      · rw [List.mem_singleton.mp hk]
        exact hsv⟩
    have s0 := Same.refl H5
    refine ⟨_, rfl, (by show 2 ≤ sizeLine; decide), fun t0 n0 => ?_⟩
    have q0 := same_new (o := (.tup (V.str "fail" :: setV [sv]))) n0
    have f0 : LnAt H (upd H5 t0 (.tup (V.str "fail" :: setV [sv]))) (.ref t0) := LnAt.new (B5.trans (But.of s0)) (P5.same s0) n0 (ln1 (by decide +kernel))
    replace s0 := s0.trans q0
    clear q0 n0
    generalize hG0 : upd H5 t0 (.tup (V.str "fail" :: setV [sv])) = G0 at s0 f0
    replace hG0 : upd H5 t0 (.tup (V.str "fail" :: [V.int (sv : Int)])) = G0 := hG0
    rw [hG0]
    clear hG0
    refine ⟨_, rfl, (by show 2 ≤ sizeLine; decide), fun t1 n1 => ?_⟩
    have q1 := same_new (o := (.tup (V.str "fail" :: setV [sv]))) n1
    have f1 : LnAt H (upd G0 t1 (.tup (V.str "fail" :: setV [sv]))) (.ref t1) := LnAt.new (B5.trans (But.of s0)) (P5.same s0) n1 (ln1 (by decide +kernel))
    replace f0 := f0.same q1
    replace s0 := s0.trans q1
    clear q1 n1
    generalize hG1 : upd G0 t1 (.tup (V.str "fail" :: setV [sv])) = G1 at s0 f0 f1
    replace hG1 : upd G0 t1 (.tup (V.str "fail" :: [V.int (sv : Int)])) = G1 := hG1
    rw [hG1]
    clear hG1
    refine ⟨_, rfl, (by show 2 ≤ sizeLine; decide), fun t2 n2 => ?_⟩
    have q2 := same_new (o := (.tup (V.str "recover" :: setV [sv]))) n2
    have f2 : LnAt H (upd G1 t2 (.tup (V.str "recover" :: setV [sv]))) (.ref t2) := LnAt.new (B5.trans (But.of s0)) (P5.same s0) n2 (ln1 (by decide +kernel))
    replace f0 := f0.same q2
    replace f1 := f1.same q2
    replace s0 := s0.trans q2
    clear q2 n2
    generalize hG2 : upd G1 t2 (.tup (V.str "recover" :: setV [sv])) = G2 at s0 f0 f1 f2
    replace hG2 : upd G1 t2 (.tup (V.str "recover" :: [V.int (sv : Int)])) = G2 := hG2
    rw [hG2]
    clear hG2
    refine ⟨_, rfl, (by show 2 ≤ sizeLine; decide), fun t3 n3 => ?_⟩
    have q3 := same_new (o := (.tup (V.str "owners" :: setV [sh]))) n3
    have f3 : LnAt H (upd G2 t3 (.tup (V.str "owners" :: setV [sh]))) (.ref t3) := LnAt.new (B5.trans (But.of s0)) (P5.same s0) n3 (ln2 (by decide +kernel))
    replace f0 := f0.same q3
    replace f1 := f1.same q3
    replace f2 := f2.same q3
    replace s0 := s0.trans q3
    clear q3 n3
    generalize hG3 : upd G2 t3 (.tup (V.str "owners" :: setV [sh])) = G3 at s0 f0 f1 f2 f3
    replace hG3 : upd G2 t3 (.tup (V.str "owners" :: [V.int (sh : Int)])) = G3 := hG3
    rw [hG3]
    clear hG3
    refine ⟨_, rfl, _, rfl, (by show 3 ≤ sizeLine; decide), fun t4 n4 => ?_⟩
    have q4 := same_new (o := (.tup (V.str "successor" :: setV [sh, sv]))) n4
    have f4 : LnAt H (upd G3 t4 (.tup (V.str "successor" :: setV [sh, sv]))) (.ref t4) := LnAt.new (B5.trans (But.of s0)) (P5.same s0) n4 ln3
    replace f0 := f0.same q4
    replace f1 := f1.same q4
    replace f2 := f2.same q4
    replace f3 := f3.same q4
    replace s0 := s0.trans q4
    clear q4 n4
    generalize hG4 : upd G3 t4 (.tup (V.str "successor" :: setV [sh, sv])) = G4 at s0 f0 f1 f2 f3 f4
    replace hG4 : upd G3 t4 (.tup (V.str "successor" :: [V.int (sh : Int), V.int (sv : Int)])) = G4 := hG4
    rw [hG4]
    clear hG4
    refine ⟨(by show 5 ≤ sizeLine; decide), fun ls nls => ?_⟩
    have ql := same_new (o := .lst [V.ref t0, V.ref t1, V.ref t2, V.ref t3, V.ref t4]) nls
    have hls : (upd G4 ls (.lst [V.ref t0, V.ref t1, V.ref t2, V.ref t3, V.ref t4])) ls = some (.lst [V.ref t0, V.ref t1, V.ref t2, V.ref t3, V.ref t4]) := upd_same
    replace f0 := f0.same ql
    replace f1 := f1.same ql
    replace f2 := f2.same ql
    replace f3 := f3.same ql
    replace f4 := f4.same ql
    replace s0 := s0.trans ql
    clear ql nls
    generalize upd G4 ls (.lst [V.ref t0, V.ref t1, V.ref t2, V.ref t3, V.ref t4]) = GL at s0 hls f0 f1 f2 f3 f4 ⊢
    refine ⟨.ref ls, rfl, ?_⟩
    refine ⟨_, rfl, (by show 2 ≤ sizeLine; decide), fun t5 n5 => ?_⟩
    have q5 := same_new (o := (.tup (V.str "load" :: setV [sv]))) n5
    have f5 : LnAt H (upd GL t5 (.tup (V.str "load" :: setV [sv]))) (.ref t5) := LnAt.new (B5.trans (But.of s0)) (P5.same s0) n5 (ln1 (by decide +kernel))
    replace f0 := f0.same q5
    replace f1 := f1.same q5
    replace f2 := f2.same q5
    replace f3 := f3.same q5
    replace f4 := f4.same q5
    replace hls := q5 _ _ hls
    replace s0 := s0.trans q5
    clear q5 n5
    generalize hG5 : upd GL t5 (.tup (V.str "load" :: setV [sv])) = G5 at s0 f0 f1 f2 f3 f4 f5 hls
    replace hG5 : upd GL t5 (.tup (V.str "load" :: [V.int (sv : Int)])) = G5 := hG5
    rw [hG5]
    clear hG5
    refine ⟨(by show 1 ≤ sizeLine; decide), fun t6 n6 => ?_⟩
    have q6 := same_new (o := (.tup (V.str "live" :: setV []))) n6
    have f6 : LnAt H (upd G5 t6 (.tup (V.str "live" :: setV []))) (.ref t6) := LnAt.new (B5.trans (But.of s0)) (P5.same s0) n6 (ln0 (by decide +kernel))
    replace f0 := f0.same q6
    replace f1 := f1.same q6
    replace f2 := f2.same q6
    replace f3 := f3.same q6
    replace f4 := f4.same q6
    replace f5 := f5.same q6
    replace hls := q6 _ _ hls
    replace s0 := s0.trans q6
    clear q6 n6
    generalize hG6 : upd G5 t6 (.tup (V.str "live" :: setV [])) = G6 at s0 f0 f1 f2 f3 f4 f5 f6 hls
    replace hG6 : upd G5 t6 (.tup (V.str "live" :: [])) = G6 := hG6
    rw [hG6]
    clear hG6
    refine ⟨(by show 1 ≤ sizeLine; decide), fun t7 n7 => ?_⟩
    have q7 := same_new (o := (.tup (V.str "copied" :: setV []))) n7
    have f7 : LnAt H (upd G6 t7 (.tup (V.str "copied" :: setV []))) (.ref t7) := LnAt.new (B5.trans (But.of s0)) (P5.same s0) n7 (ln0 (by decide +kernel))
    replace f0 := f0.same q7
    replace f1 := f1.same q7
    replace f2 := f2.same q7
    replace f3 := f3.same q7
    replace f4 := f4.same q7
    replace f5 := f5.same q7
    replace f6 := f6.same q7
    replace hls := q7 _ _ hls
    replace s0 := s0.trans q7
    clear q7 n7
    generalize hG7 : upd G6 t7 (.tup (V.str "copied" :: setV [])) = G7 at s0 f0 f1 f2 f3 f4 f5 f6 f7 hls
    replace hG7 : upd G6 t7 (.tup (V.str "copied" :: [])) = G7 := hG7
    rw [hG7]
    clear hG7
    refine ⟨(by show 1 ≤ sizeLine; decide), fun t8 n8 => ?_⟩
    have q8 := same_new (o := (.tup (V.str "changes" :: setV []))) n8
    have f8 : LnAt H (upd G7 t8 (.tup (V.str "changes" :: setV []))) (.ref t8) := LnAt.new (B5.trans (But.of s0)) (P5.same s0) n8 (ln0 (by decide +kernel))
    replace f0 := f0.same q8
    replace f1 := f1.same q8
    replace f2 := f2.same q8
    replace f3 := f3.same q8
    replace f4 := f4.same q8
    replace f5 := f5.same q8
    replace f6 := f6.same q8
    replace f7 := f7.same q8
    replace hls := q8 _ _ hls
    replace s0 := s0.trans q8
    clear q8 n8
    generalize hG8 : upd G7 t8 (.tup (V.str "changes" :: setV [])) = G8 at s0 f0 f1 f2 f3 f4 f5 f6 f7 f8 hls
    replace hG8 : upd G7 t8 (.tup (V.str "changes" :: [])) = G8 := hG8
    rw [hG8]
    clear hG8
    refine ⟨(by show 1 ≤ sizeLine; decide), fun t9 n9 => ?_⟩
    have q9 := same_new (o := (.tup (V.str "undo" :: setV []))) n9
    have f9 : LnAt H (upd G8 t9 (.tup (V.str "undo" :: setV []))) (.ref t9) := LnAt.new (B5.trans (But.of s0)) (P5.same s0) n9 (ln0 (by decide +kernel))
    replace f0 := f0.same q9
    replace f1 := f1.same q9
    replace f2 := f2.same q9
    replace f3 := f3.same q9
    replace f4 := f4.same q9
    replace f5 := f5.same q9
    replace f6 := f6.same q9
    replace f7 := f7.same q9
    replace f8 := f8.same q9
    replace hls := q9 _ _ hls
    replace s0 := s0.trans q9
    clear q9 n9
    generalize hG9 : upd G8 t9 (.tup (V.str "undo" :: setV [])) = G9 at s0 f0 f1 f2 f3 f4 f5 f6 f7 f8 f9 hls
    replace hG9 : upd G8 t9 (.tup (V.str "undo" :: [])) = G9 := hG9
    rw [hG9]
    clear hG9
    refine ⟨_, rfl, (by show 2 ≤ sizeLine; decide), fun t10 n10 => ?_⟩
    have q10 := same_new (o := (.tup (V.str "list" :: setV [sh]))) n10
    have f10 : LnAt H (upd G9 t10 (.tup (V.str "list" :: setV [sh]))) (.ref t10) := LnAt.new (B5.trans (But.of s0)) (P5.same s0) n10 (ln2 (by decide +kernel))
    replace f0 := f0.same q10
    replace f1 := f1.same q10
    replace f2 := f2.same q10
    replace f3 := f3.same q10
    replace f4 := f4.same q10
    replace f5 := f5.same q10
    replace f6 := f6.same q10
    replace f7 := f7.same q10
    replace f8 := f8.same q10
    replace f9 := f9.same q10
    replace hls := q10 _ _ hls
    replace s0 := s0.trans q10
    clear q10 n10
    generalize hG10 : upd G9 t10 (.tup (V.str "list" :: setV [sh])) = G10 at s0 f0 f1 f2 f3 f4 f5 f6 f7 f8 f9 f10 hls
    replace hG10 : upd G9 t10 (.tup (V.str "list" :: [V.int (sh : Int)])) = G10 := hG10
    rw [hG10]
    clear hG10
    refine ⟨(by show 1 ≤ sizeLine; decide), fun t11 n11 => ?_⟩
    have q11 := same_new (o := (.tup (V.str "text" :: setV []))) n11
    have f11 : LnAt H (upd G10 t11 (.tup (V.str "text" :: setV []))) (.ref t11) := LnAt.new (B5.trans (But.of s0)) (P5.same s0) n11 (ln0 (by decide +kernel))
    replace f0 := f0.same q11
    replace f1 := f1.same q11
    replace f2 := f2.same q11
    replace f3 := f3.same q11
    replace f4 := f4.same q11
    replace f5 := f5.same q11
    replace f6 := f6.same q11
    replace f7 := f7.same q11
    replace f8 := f8.same q11
    replace f9 := f9.same q11
    replace f10 := f10.same q11
    replace hls := q11 _ _ hls
    replace s0 := s0.trans q11
    clear q11 n11
    generalize hG11 : upd G10 t11 (.tup (V.str "text" :: setV [])) = G11 at s0 f0 f1 f2 f3 f4 f5 f6 f7 f8 f9 f10 f11 hls
    replace hG11 : upd G10 t11 (.tup (V.str "text" :: [])) = G11 := hG11
    rw [hG11]
    clear hG11
    refine ⟨(by show 7 ≤ sizeLine; decide), fun lm nlm => ?_⟩
    have qm := same_new (o := .lst [V.ref t5, V.ref t6, V.ref t7, V.ref t8, V.ref t9, V.ref t10, V.ref t11]) nlm
    have hlm : (upd G11 lm (.lst [V.ref t5, V.ref t6, V.ref t7, V.ref t8, V.ref t9, V.ref t10, V.ref t11])) lm = some (.lst [V.ref t5, V.ref t6, V.ref t7, V.ref t8, V.ref t9, V.ref t10, V.ref t11]) := upd_same
    replace hls := qm _ _ hls
    have all : ∀ v ∈ [V.ref t0, V.ref t1, V.ref t2, V.ref t3, V.ref t4] ++ [V.ref t5, V.ref t6, V.ref t7, V.ref t8, V.ref t9, V.ref t10, V.ref t11], LnAt H (upd G11 lm (.lst [V.ref t5, V.ref t6, V.ref t7, V.ref t8, V.ref t9, V.ref t10, V.ref t11])) v := by
      refine List.forall_mem_cons.mpr ⟨f0.same qm, ?_⟩
      refine List.forall_mem_cons.mpr ⟨f1.same qm, ?_⟩
      refine List.forall_mem_cons.mpr ⟨f2.same qm, ?_⟩
      refine List.forall_mem_cons.mpr ⟨f3.same qm, ?_⟩
      refine List.forall_mem_cons.mpr ⟨f4.same qm, ?_⟩
      refine List.forall_mem_cons.mpr ⟨f5.same qm, ?_⟩
      refine List.forall_mem_cons.mpr ⟨f6.same qm, ?_⟩
      refine List.forall_mem_cons.mpr ⟨f7.same qm, ?_⟩
      refine List.forall_mem_cons.mpr ⟨f8.same qm, ?_⟩
      refine List.forall_mem_cons.mpr ⟨f9.same qm, ?_⟩
      refine List.forall_mem_cons.mpr ⟨f10.same qm, ?_⟩
      refine List.forall_mem_cons.mpr ⟨f11.same qm, ?_⟩
      exact fun v hv => absurd hv List.not_mem_nil
    replace s0 := s0.trans qm
    clear qm nlm f0 f1 f2 f3 f4 f5 f6 f7 f8 f9 f10 f11
    generalize upd G11 lm (.lst [V.ref t5, V.ref t6, V.ref t7, V.ref t8, V.ref t9, V.ref t10, V.ref t11]) = GM at s0 hls hlm all ⊢
    refine ⟨ls, lm, _, _, rfl, rfl, hls, hlm, (by show 12 ≤ sizeLine; decide), fun lw nlw => ?_⟩
    have hlen : ([V.ref t0, V.ref t1, V.ref t2, V.ref t3, V.ref t4] ++ [V.ref t5, V.ref t6, V.ref t7, V.ref t8, V.ref t9, V.ref t10, V.ref t11]).length = 12 := rfl
    generalize [V.ref t0, V.ref t1, V.ref t2, V.ref t3, V.ref t4] ++ [V.ref t5, V.ref t6, V.ref t7, V.ref t8, V.ref t9, V.ref t10, V.ref t11] = xs at all hlen ⊢
    have qw := same_new (o := .lst xs) nlw
    have PM := P5.same s0
    refine ⟨.ref p, rfl, .ref lw, rfl, p, lw, xs, rfl, PM.same qw, (PM.ne nlw).symm, .inl (SqL.of upd_same), by omega, by omega, fun v H6 hv P6 b6 => ?_⟩
    obtain ⟨x, z, ks, rfl, hx, hl, hn⟩ := all v hv
    have hx2 := qw _ _ hx
    have nx : x ≠ p := fun e => by
      obtain ⟨ys, e2⟩ := (PM.same qw).lst
      rw [e, e2] at hx2
      cases hx2
    exact q H6 x z ks (((B5.trans (But.of s0)).trans (But.of qw)).trans b6) P6 hn (b6 _ _ nx hx2) hl
end
/-! ### answers to lines that are known -/
theorem line_text : lineW "text" = some (("text" : Str), []) := by decide +kernel
theorem line_live : lineW "live" = some (("live" : Str), []) := by decide +kernel
theorem line_copied : lineW "copied" = some (("copied" : Str), []) := by decide +kernel
theorem line_changes : lineW "changes" = some (("changes" : Str), []) := by decide +kernel
theorem line_undo : lineW "undo" = some (("undo" : Str), []) := by decide +kernel
section
variable {n fl fa c : Nat} {L : List Nat} {qs : List (Nat × Nat)}
theorem ans_text : ansW n fl fa c L qs "text" [] = .ok (textS n fl fa c L) L qs := by
  show ansA n fl fa c L qs "text" = _
  unfold ansA
  rw [if_neg (by decide), if_neg (by decide), if_neg (by decide), if_neg (by decide)]
theorem ans_live : ansW n fl fa c L qs "live" [] = .ok (rowS L) L qs := by
  show ansA n fl fa c L qs "live" = _
  unfold ansA
  rw [if_pos rfl]
theorem ans_copied : ansW n fl fa c L qs "copied" [] = .ok (natS (lastC qs)) L qs := by
  show ansA n fl fa c L qs "copied" = _
  unfold ansA
  rw [if_neg (by decide), if_pos rfl]
theorem ans_changes : ansW n fl fa c L qs "changes" [] = .ok (natS qs.length) L qs := by
  show ansA n fl fa c L qs "changes" = _
  unfold ansA
  rw [if_neg (by decide), if_neg (by decide), if_pos rfl]
end
/-! ### what the methods answer, as promises of answers -/
/-- a number is handed back: its text -/
def strQ (Q : VK) : VK := fun v H' => ∃ i : Int, [v] = [V.int i] ∧ i.natAbs.log2 < 1920 ∧ Q (.str (Str.ofString (toString i))) H'
section
variable {K : PySem.W.Frag} {C : Addr} {R : ErrC} {p pl : Addr} {n fl fa c : Nat} {L : List Nat} {qs : List (Nat × Nat)} {k x : Nat} {H : Hp} {Q : VK} {E : XK}
theorem own_int {K : PySem.W.Frag} {H : Hp} {k : Nat} : CountV K H (.int (k : Int)) (some (k : Int)) := .inl ⟨_, rfl, rfl⟩
theorem some_int {k x : Nat} (e : some (k : Int) = some (x : Int)) : x = k := by have := Option.some.inj e; omega
theorem numB_nat {c k : Nat} (h : k < c) : numB c (some (k : Int)) = true := by
  rw [numB_some, decide_eq_true (show (0 : Int) ≤ (k : Int) by omega), decide_eq_true (show (k : Int) < (c : Int) by omega)]
  rfl
theorem small510 {m : Nat} (h : m ≤ 2 ^ 510) : ((m : Int)).natAbs.log2 < 1920 := nat_str (Nat.lt_of_le_of_lt h (by decide +kernel))
theorem fail_ans (B : CluB C H p pl n fl fa c L qs) (ok : CluOk n fl fa c L) (lq : qs.length ≤ 100000) (q : AnsQ R C p pl n fl fa c H Q E (ansW n fl fa c L qs "fail" [k])) : spCluFail K C R.l R.f [.ref p, .int (k : Int)] H (strQ Q) E := by
  have fa60 : fa ≤ 60 := Nat.le_trans ok.an ok.std.n60
  replace q : AnsQ R C p pl n fl fa c H Q E (ansB n fl fa c L qs "fail" k) := q
  unfold ansB at q
  rw [if_pos rfl] at q
  refine ⟨p, pl, n, fl, fa, c, L, qs, .int k, some (k : Int), rfl, B, ok, own_int, lq, fun e => ?_, fun e few => ?_, fun x e hx few H' b B' => ?_⟩
  · rw [if_neg (fun hk => by rw [liveB_nat hk] at e; cases e)] at q
    exact q
  · obtain ⟨x, e2, hx⟩ := liveB_some e
    obtain rfl := some_int e2
    rw [if_pos hx, if_neg (by omega)] at q
    exact q
  · obtain rfl := some_int e
    rw [if_pos hx, if_pos few] at q
    exact ⟨_, rfl, small510 (failC_big fa60 ok.big), q H' b B'⟩
theorem rec_ans (B : CluB C H p pl n fl fa c L qs) (ok : CluOk n fl fa c L) (lq : qs.length ≤ 100000) (q : AnsQ R C p pl n fl fa c H Q E (ansW n fl fa c L qs "recover" [k])) : spCluRec K C R.d [.ref p, .int (k : Int)] H (strQ Q) E := by
  have fa60 : fa ≤ 60 := Nat.le_trans ok.an ok.std.n60
  replace q : AnsQ R C p pl n fl fa c H Q E (ansB n fl fa c L qs "recover" k) := q
  unfold ansB at q
  rw [if_neg (by decide), if_pos rfl] at q
  refine ⟨p, pl, n, fl, fa, c, L, qs, .int k, some (k : Int), rfl, B, ok, own_int, lq, fun e => ?_, fun x e hx no H' b B' => ?_⟩
  · rw [if_neg (fun hk => by rw [deadB_nat hk.1 hk.2] at e; cases e)] at q
    exact q
  · obtain rfl := some_int e
    rw [if_pos ⟨hx, no⟩] at q
    exact ⟨_, rfl, small510 (loadC_big fa60 ok.big), q H' b B'⟩
theorem load_ans (B : CluB C H p pl n fl fa c L qs) (ok : CluOk n fl fa c L) (q : AnsQ R C p pl n fl fa c H Q E (ansW n fl fa c L qs "load" [k])) : spCluLoad K C R.l [.ref p, .int (k : Int)] H (strQ Q) E := by
  have fa60 : fa ≤ 60 := Nat.le_trans ok.an ok.std.n60
  replace q : AnsQ R C p pl n fl fa c H Q E (ansB n fl fa c L qs "load" k) := q
  unfold ansB at q
  rw [if_neg (by decide), if_neg (by decide), if_pos rfl] at q
  refine ⟨p, pl, n, fl, fa, c, L, qs, .int k, some (k : Int), rfl, B, ok, own_int, fun e => ?_, fun e H' s => ?_⟩
  · rw [if_neg (fun hk => by rw [liveB_nat hk] at e; cases e)] at q
    exact q
  · obtain ⟨x, e2, hx⟩ := liveB_some e
    obtain rfl := some_int e2
    rw [if_pos hx] at q
    exact ⟨_, rfl, small510 (loadC_big fa60 ok.big), B.to2 q s⟩
theorem own_ans {Q' : VK} (B : CluB C H p pl n fl fa c L qs) (ok : CluOk n fl fa c L) (q : AnsQ R C p pl n fl fa c H Q E (ansW n fl fa c L qs "owners" [k])) (q' : ∀ H' t r, H' t = some (.tup (setV r)) → (∀ y ∈ r, y < 60) → r.length ≤ 60 → (∀ H2, Same H' H2 → Q (.str (rowS r)) H2) → Q' (.ref t) H') : spCluOwn K C R.n [.ref p, .int (k : Int)] H Q' E := by
  have fa60 : fa ≤ 60 := Nat.le_trans ok.an ok.std.n60
  replace q : AnsQ R C p pl n fl fa c H Q E (ansB n fl fa c L qs "owners" k) := q
  unfold ansB at q
  rw [if_neg (by decide), if_neg (by decide), if_neg (by decide), if_pos rfl] at q
  refine ⟨p, pl, n, fl, fa, c, L, qs, .int k, some (k : Int), rfl, B, ok, own_int, fun e => ?_, fun x e hx H' t s nt ht => ?_⟩
  · rw [if_neg (fun hk => by rw [numB_nat hk] at e; cases e)] at q
    exact q
  · obtain rfl := some_int e
    rw [if_pos hx] at q
    have lt := path_lt ok.std hx
    exact q' H' t _ ht (fun y hy => Nat.lt_of_lt_of_le (lt y ((List.mem_filter.mp (List.mem_of_mem_take hy)).1)) ok.std.n60) (Nat.le_trans (List.length_take_le _ _) fa60) fun H2 s2 => B.to2 q (s.trans s2)
theorem succ_ans {Q' : VK} (B : CluB C H p pl n fl fa c L qs) (ok : CluOk n fl fa c L) (q : AnsQ R C p pl n fl fa c H Q E (ansW n fl fa c L qs "successor" [k, x])) (q1 : ∀ H', Q (.str "-") H' → Q' .non H') (q2 : ∀ H' (m : Nat), m < 60 → Q (.str (natS m)) H' → Q' (.int (m : Int)) H') : spCluSuc K C R.n R.l R.f [.ref p, .int (k : Int), .int (x : Int)] H Q' E := by
  replace q : AnsQ R C p pl n fl fa c H Q E (ansC n fl fa c L qs k x) := q
  unfold ansC at q
  refine ⟨p, pl, n, fl, fa, c, L, qs, .int k, some (k : Int), .int x, some (x : Int), rfl, B, ok, own_int, own_int, fun e => ?_, fun k' e hk => ⟨fun e2 => ?_, fun e2 few => ?_, fun x' e2 hx few H' s => ?_⟩⟩
  · rw [if_neg (fun hk => by rw [numB_nat hk] at e; cases e)] at q
    exact q
  · obtain rfl := some_int e
    rw [if_pos hk, if_neg (fun hx => by rw [liveB_nat hx] at e2; cases e2)] at q
    exact q
  · obtain rfl := some_int e
    obtain ⟨x', e3, hx⟩ := liveB_some e2
    obtain rfl := some_int e3
    rw [if_pos hk, if_pos hx, if_neg (by omega)] at q
    exact q
  · obtain rfl := some_int e
    obtain rfl := some_int e2
    rw [if_pos hk, if_pos hx, if_pos few] at q
    generalize hv : (if L.length ≤ fa then V.non else sucV L (path n (min n (fl + fa)) c k').1 fa x') = v at q ⊢
    have fin := B.to2 q s
    have hcase : v = .non ∨ ∃ m : Nat, v = .int (m : Nat) ∧ m < 60 := by
      rw [← hv]
      split
      · exact .inl rfl
      · unfold sucV
        split
        · refine .inr ⟨_, rfl, ?_⟩
          rw [List.getD_eq_getElem?_getD]
          cases g : (inL L (path n (min n (fl + fa)) c k').1)[fa]? with
          | none => exact (by decide : 0 < 60)
          | some y => exact Nat.lt_of_lt_of_le (path_lt ok.std hk y (List.mem_filter.mp (List.mem_of_getElem? g)).1) ok.std.n60
        · exact .inl rfl
    clear hv
    rcases hcase with rfl | ⟨m, rfl, hm⟩
    · exact q1 _ fin
    · exact q2 _ m hm fin
theorem undo_ans (B : CluB C H p pl n fl fa c L qs) (ok : CluOk n fl fa c L) (led : LedA n fl L qs) {z : Str} (hz : z = "undo") (q : AnsQ R C p pl n fl fa c H Q E (ansW n fl fa c L qs z [])) : spCluUndo C R.u [.ref p] H (strQ Q) E := by
  subst hz
  replace q : AnsQ R C p pl n fl fa c H Q E (ansA n fl fa c L qs "undo") := q
  unfold ansA at q
  rw [if_neg (by decide), if_neg (by decide), if_neg (by decide), if_pos rfl] at q
  refine ⟨p, pl, n, fl, fa, c, L, qs, rfl, B, ok.sixty, fun e => ?_, fun rs x v H' e b B' => ?_⟩
  · subst e
    exact q _ (Same.refl _)
  · subst e
    rw [List.getLast?_concat] at q
    dsimp only at q
    rw [List.dropLast_concat] at q
    have hx := (led.pop).2
    exact ⟨_, rfl, nat_str (Nat.lt_of_lt_of_le hx (Nat.le_trans ok.std.n60 (by decide +kernel))), q H' b B'⟩
end
/-! ### what the cluster beside answers -/
def spAnsw54 (C : Addr) (R : ErrC) : Sp := fun vs H Q E => ∃ (p pl t : Addr) (n fl fa c : Nat) (L : List Nat) (qs : List (Nat × Nat)) (z : Str) (ks : List Nat), vs = [.ref p, .ref t] ∧ H t = some (.tup (.str z :: setV ks)) ∧ formsL.lookup z = some ks.length ∧ z ≠ "list" ∧ CluB C H p pl n fl fa c L qs ∧ CluOk n fl fa c L ∧ LedA n fl L qs ∧ qs.length ≤ 100000 ∧
  AnsQ R C p pl n fl fa c H Q E (ansW n fl fa c L qs z ks)
section
variable {P : Program} {w : World} {K : PySem.W.Frag} {mg : Str → Option Value} {base : Heap}
theorem ok_answ54 (T : Txt K mg) {j : Nat} : FnOk P w K mg base (L2.CX P w) (j + 9) T.fAnsw54 T.fdAnsw54 ["_law_cluster", "_law_line_here"] (spAnsw54 T.cClu ⟨T.cNoN, T.cNotL, T.cNotD, T.cTooF, T.cNoU⟩) := by
  refine Fun_okT T.FAnsw54 scAnsw54 (by decide +kernel) (by decide) (fun vs H Q E h => ?_) (fun cdv A outer s H vs Q E hr h => ?_)
  · obtain ⟨p, pl, t, n, fl, fa, c, L, qs, z, ks, rfl, _⟩ := h
    rfl
  · obtain ⟨p, pl, t, n, fl, fa, c, L, qs, z, ks, rfl, hT, hz, nl, B, ok, led, lq, q⟩ := h
    refine ⟨_, psst_cons (PST.of (ps_par (i := 2) (j := 3) rfl scAnsw54.nd rfl rfl (by decide) rfl rfl (pa_cons (pe_ix (ix_tupK K) (pv 1) pe_int (fun _ _ => rfl)) (pa_cons (pe_slice sl_tupA (pv 1) (po_some pe_int) po_none) pa_nil)) (by rfl))) (psst_cons (PST.of (ps_if (pt_cmpR op_eq (pv 2) pe_str (nomark _)) (pss_cons (ps_set (i := 4) scAnsw54.nd rfl (.inl rfl) (pe_meth (pv 0) T.clClu T.mtCluSuccessor (ok_clusuccessor T) hr T.bCluSuccessor .nil (passes_call (takes_of rfl rfl rfl rfl) (fun _ _ _ _ h => h)) (pa_cons (pe_ix (ix_tupK K) (pv 3) pe_int (fun _ _ => rfl)) (pa_cons (pe_ix (ix_tupK K) (pv 3) pe_int (fun _ _ => rfl)) pa_nil)))) (pss_one (ps_ret (pe_ifExp (pt_cmpR op_isN (pv 4) pe_non (nomark _)) pe_str (pe_callTy call_str_int (by rfl) T.n_str (by decide +kernel) (pa_cons (pv 4) pa_nil)))))) pss_nil)) (psst_cons (PST.of (ps_if (pt_cmpR op_eq (pv 2) pe_str (nomark _)) (pss_one (ps_ret (pe_call (ok_words54 T) hr (by rfl) T.gWords54 T.FWords54.kp T.bWords54 .nil pass0 (pa_cons (pe_meth (pv 0) T.clClu T.mtCluOwners (ok_cluowners T) hr T.bCluOwners .nil (passes_call (takes_of rfl rfl rfl rfl) (fun _ _ _ _ h => h)) (pa_cons (pe_ix (ix_tupK K) (pv 3) pe_int (fun _ _ => rfl)) pa_nil)) pa_nil)))) pss_nil)) (psst_cons (PST.of (ps_if (pt_cmpR op_eq (pv 2) pe_str (nomark _)) (pss_one (ps_ret (pe_call (ok_words54 T) hr (by rfl) T.gWords54 T.FWords54.kp T.bWords54 .nil pass0 (pa_cons (pe_meth0 (pv 0) T.clClu T.mtCluLive (ok_clulive T) hr T.bCluLive .nil pass0) pa_nil)))) pss_nil)) (psst_cons (CwR.pst_if (pt_cmpR op_eq (pv 2) pe_str (nomark _)) (CwR.psst_one (CwR.pst_ret (CwR.pet_replC (pe_call (ok_showc T) hr (by rfl) T.gShowC T.FShowC.kp T.bShowC .nil pass0 (pa_cons (pv 0) pa_nil))))) (PSsT.of pss_nil)) (PSsT.of (pss_cons (ps_if (pt_cmpR op_eq (pv 2) pe_str (nomark _)) (pss_one (ps_ret (pe_callTy call_str_int (by rfl) T.n_str (by decide +kernel) (pa_cons (pe_meth (pv 0) T.clClu T.mtCluFail (ok_clufail T) hr T.bCluFail .nil (passes_call (takes_of rfl rfl rfl rfl) (fun _ _ _ _ h => h)) (pa_cons (pe_ix (ix_tupK K) (pv 3) pe_int (fun _ _ => rfl)) pa_nil)) pa_nil)))) pss_nil) (pss_cons (ps_if (pt_cmpR op_eq (pv 2) pe_str (nomark _)) (pss_one (ps_ret (pe_callTy call_str_int (by rfl) T.n_str (by decide +kernel) (pa_cons (pe_meth (pv 0) T.clClu T.mtCluRecover (ok_clurecover T) hr T.bCluRecover .nil (passes_call (takes_of rfl rfl rfl rfl) (fun _ _ _ _ h => h)) (pa_cons (pe_ix (ix_tupK K) (pv 3) pe_int (fun _ _ => rfl)) pa_nil)) pa_nil)))) pss_nil) (pss_cons (ps_if (pt_cmpR op_eq (pv 2) pe_str (nomark _)) (pss_one (ps_ret (pe_callTy call_str_int (by rfl) T.n_str (by decide +kernel) (pa_cons (pe_meth (pv 0) T.clClu T.mtCluLoad (ok_cluload T) hr T.bCluLoad .nil (passes_call (takes_of rfl rfl rfl rfl) (fun _ _ _ _ h => h)) (pa_cons (pe_ix (ix_tupK K) (pv 3) pe_int (fun _ _ => rfl)) pa_nil)) pa_nil)))) pss_nil) (pss_cons (ps_if (pt_cmpR op_eq (pv 2) pe_str (nomark _)) (pss_one (ps_ret (pe_callTy call_str_int (by rfl) T.n_str (by decide +kernel) (pa_cons (pe_meth0 (pv 0) T.clClu T.mtCluCopied (ok_clucopied T) hr T.bCluCopied .nil pass0) pa_nil)))) pss_nil) (pss_one (ps_ret (pe_callTy call_str_int (by rfl) T.n_str (by decide +kernel) (pa_cons (pe_ifExp (pt_cmpR op_eq (pv 2) pe_str (nomark _)) (pe_meth0 (pv 0) T.clClu T.mtCluChanges (ok_cluchanges T) hr T.bCluChanges .nil pass0) (pe_meth0 (pv 0) T.clClu T.mtCluUndo (ok_cluundo T) hr T.bCluUndo .nil (passes_call (takes_of rfl rfl rfl rfl) (fun _ _ _ _ h => h)))) pa_nil))))))))))))), ?_⟩
    obtain ⟨⟨dx, tl, h1, h2⟩, us, h3, h4⟩ := id B
    refine ⟨.ref t, rfl, t, _, 0, V.str z, rfl, rfl, SqT.of hT, L2.atI_nat (j := 0) rfl, .ref t, rfl, _, rfl, t, _, rfl, SqT.of hT, fun e => ?_, fun _ u nu => ⟨_, _, rfl, ?_⟩⟩
    · exfalso
      have e1 := e.1
      rw [show HT.sIx (V.str z :: setV ks).length 0 (some (1 : Int)) = min 1 (V.str z :: setV ks).length from HT.sIx_nat _ 0 1, List.length_cons] at e1
      omega
    have ec : cutV (V.str z :: setV ks) (some 1) none = setV ks := cut_dropD (j := 1) (by simp)
    have s1 := same_new (o := .tup (cutV (V.str z :: setV ks) (some 1) none)) nu
    have hu : (upd H u (.tup (cutV (V.str z :: setV ks) (some 1) none))) u = some (.tup (setV ks)) := by rw [upd_same, ec]
    dsimp only
    generalize upd H u (.tup (cutV (V.str z :: setV ks) (some 1) none)) = H1 at s1 hu ⊢
    replace B := B.same s1
    replace q := q.on s1
    replace h1 := s1 _ _ h1
    clear h2 h3 h4 hT s1 nu ec
    have n60 := ok.std.n60
    have fl60 : fl ≤ 60 := by have := ok.fn; omega
    have fa60 : fa ≤ 60 := Nat.le_trans ok.an n60
    have l60 := ok.sixty
    have one : ∀ {y : Str}, formsL.lookup y = some 1 → z = y → ∃ k, ks = [k] := fun h e => by
      rw [e, h] at hz
      obtain ⟨k, r, rfl⟩ := List.exists_cons_of_length_pos (l := ks) (by have := Option.some.inj hz; omega)
      cases r with
      | nil => exact ⟨k, rfl⟩
      | cons => have := Option.some.inj hz; simp at this
    have none0 : ∀ {y : Str}, formsL.lookup y = some 0 → z = y → ks = [] := fun h e => by
      rw [e, h] at hz
      exact List.length_eq_zero_iff.mp (Option.some.inj hz).symm
    refine ⟨_, rfl, rfl, _, rfl, ?_⟩
    rw [str_test]
    refine ite2 (fun hb => ?_) (fun h0 => ?_)
    · obtain rfl := of_decide_eq_true hb
      obtain ⟨k, x, rfl⟩ : ∃ k x, ks = [k, x] := by
        have e : ks.length = 2 := by
          rw [show formsL.lookup ("successor" : Str) = some 2 by decide +kernel] at hz
          exact (Option.some.inj hz).symm
        match ks, e with
        | [k, x], _ => exact ⟨k, x, rfl⟩
      refine ⟨.ref p, rfl, p, dx, _, rfl, h1, fldC_no (by decide +kernel), .ref u, rfl, u, _, 0, _, rfl, rfl, SqT.of hu, rfl, .ref u, rfl, u, _, 1, _, rfl, rfl, SqT.of hu, rfl, ?_⟩
      dsimp only [tNil]
      refine succ_ans B ok q (fun H' q2 => ?_) (fun H' m hm q2 => ?_)
      · refine ⟨_, rfl, rfl, true, rfl, ?_⟩
        show ite (true = true) _ _
        rw [if_pos rfl]
        exact q2
      · refine ⟨_, rfl, rfl, false, rfl, iteF ?_⟩
        exact ⟨_, rfl, _, rfl, nat_str (Nat.lt_trans hm (by decide +kernel)), q2⟩
    refine ⟨_, rfl, rfl, _, rfl, ?_⟩
    rw [str_test]
    refine ite2 (fun hb => ?_) (fun h1' => ?_)
    · obtain rfl := of_decide_eq_true hb
      obtain ⟨k, rfl⟩ := one (y := "owners") (by decide +kernel) rfl
      refine ⟨.ref p, rfl, p, dx, _, rfl, h1, fldC_no (by decide +kernel), .ref u, rfl, u, _, 0, _, rfl, rfl, SqT.of hu, rfl, ?_⟩
      dsimp only [tNil]
      refine own_ans B ok q fun H' t r ht lt rl q2 => ?_
      exact ⟨t, _, r.map natS, rfl, SqT.of ht, words_nat lt, by rw [List.length_map]; omega, fun w hw => (by
        obtain ⟨y, hy, rfl⟩ := List.mem_map.mp hw
        exact Nat.le_trans (natS_short (Nat.le_of_lt (lt y hy))) (by decide)), fun H2 s2 => q2 H2 s2⟩
    refine ⟨_, rfl, rfl, _, rfl, ?_⟩
    rw [str_test]
    refine ite2 (fun hb => ?_) (fun h2' => ?_)
    · obtain rfl := of_decide_eq_true hb
      obtain rfl := none0 (y := "live") (by decide +kernel) rfl
      rw [ans_live] at q
      refine ⟨.ref p, rfl, p, dx, _, rfl, h1, fldC_no (by decide +kernel), p, pl, n, fl, fa, c, L, qs, rfl, B, fun t ht => ?_⟩
      exact ⟨t, _, L.map natS, rfl, SqT.of ht, words_nat (fun y hy => Nat.lt_of_lt_of_le (ok.lt y hy) n60), by rw [List.length_map]; omega, fun w hw => (by
        obtain ⟨y, hy, rfl⟩ := List.mem_map.mp hw
        exact Nat.le_trans (natS_short (Nat.le_trans (Nat.le_of_lt (ok.lt y hy)) n60)) (by decide)), fun H2 s2 => B.to2 q s2⟩
    refine ⟨_, rfl, rfl, _, rfl, ?_⟩
    rw [str_test]
    refine ite2 (fun hb => ?_) (fun h3' => ?_)
    · obtain rfl := of_decide_eq_true hb
      obtain rfl := none0 (y := "text") (by decide +kernel) rfl
      rw [ans_text] at q
      refine ⟨.ref p, rfl, p, pl, n, fl, fa, c, L, qs, rfl, B, n60, fl60, fa60, ok.big, l60, fun H' s => ?_⟩
      refine ⟨_, rfl, ?_, B.to2 q s⟩
      have := clusT_short (L := L) n60 fl60 fa60 ok.big
      have e : (Str.ofString " | ").length = 3 := by decide +kernel
      show _ + (_ + 1) * (Str.ofString " | ").length ≤ _
      rw [e]
      omega
    refine ⟨_, rfl, rfl, _, rfl, ?_⟩
    rw [str_test]
    refine ite2 (fun hb => ?_) (fun h4' => ?_)
    · obtain rfl := of_decide_eq_true hb
      obtain ⟨k, rfl⟩ := one (y := "fail") (by decide +kernel) rfl
      refine ⟨.ref p, rfl, p, dx, _, rfl, h1, fldC_no (by decide +kernel), .ref u, rfl, u, _, 0, _, rfl, rfl, SqT.of hu, rfl, ?_⟩
      exact fail_ans B ok lq q
    refine ⟨_, rfl, rfl, _, rfl, ?_⟩
    rw [str_test]
    refine ite2 (fun hb => ?_) (fun h5' => ?_)
    · obtain rfl := of_decide_eq_true hb
      obtain ⟨k, rfl⟩ := one (y := "recover") (by decide +kernel) rfl
      refine ⟨.ref p, rfl, p, dx, _, rfl, h1, fldC_no (by decide +kernel), .ref u, rfl, u, _, 0, _, rfl, rfl, SqT.of hu, rfl, ?_⟩
      exact rec_ans B ok lq q
    refine ⟨_, rfl, rfl, _, rfl, ?_⟩
    rw [str_test]
    refine ite2 (fun hb => ?_) (fun h6' => ?_)
    · obtain rfl := of_decide_eq_true hb
      obtain ⟨k, rfl⟩ := one (y := "load") (by decide +kernel) rfl
      refine ⟨.ref p, rfl, p, dx, _, rfl, h1, fldC_no (by decide +kernel), .ref u, rfl, u, _, 0, _, rfl, rfl, SqT.of hu, rfl, ?_⟩
      exact load_ans B ok q
    refine ⟨_, rfl, rfl, _, rfl, ?_⟩
    rw [str_test]
    refine ite2 (fun hb => ?_) (fun h7' => ?_)
    · obtain rfl := of_decide_eq_true hb
      obtain rfl := none0 (y := "copied") (by decide +kernel) rfl
      rw [ans_copied] at q
      refine ⟨.ref p, rfl, p, dx, _, rfl, h1, fldC_no (by decide +kernel), p, pl, n, fl, fa, c, L, qs, rfl, B, ?_⟩
      exact ⟨_, rfl, nat_str (Nat.lt_trans (led.big lq) (by decide +kernel)), B.to2 q (Same.refl _)⟩
    refine ⟨_, rfl, rfl, _, rfl, ?_⟩
    rw [str_test]
    refine ite2 (fun hb => ?_) (fun h8' => ?_)
    · obtain rfl := of_decide_eq_true hb
      obtain rfl := none0 (y := "changes") (by decide +kernel) rfl
      rw [ans_changes] at q
      refine ⟨.ref p, rfl, p, dx, _, rfl, h1, fldC_no (by decide +kernel), p, pl, n, fl, fa, c, L, qs, rfl, B, ?_⟩
      exact ⟨_, rfl, nat_str (Nat.lt_of_le_of_lt lq (by decide +kernel)), B.to2 q (Same.refl _)⟩
    · have hzu : z = "undo" := by
        have hm : z ∈ formsL.map (·.1) := by
          obtain ⟨l1, l2, e, _⟩ := List.lookup_eq_some_iff.mp hz
          rw [e]
          simp
        have key : ∀ y ∈ formsL.map (·.1), y = ("successor" : Str) ∨ y = "owners" ∨ y = "live" ∨ y = "text" ∨ y = "fail" ∨ y = "recover" ∨ y = "load" ∨ y = "copied" ∨ y = "changes" ∨ y = "list" ∨ y = "undo" := by decide +kernel
        rcases key z hm with e | e | e | e | e | e | e | e | e | e | e
        · exact absurd (decide_eq_true e) h0
        · exact absurd (decide_eq_true e) h1'
        · exact absurd (decide_eq_true e) h2'
        · exact absurd (decide_eq_true e) h3'
        · exact absurd (decide_eq_true e) h4'
        · exact absurd (decide_eq_true e) h5'
        · exact absurd (decide_eq_true e) h6'
        · exact absurd (decide_eq_true e) h7'
        · exact absurd (decide_eq_true e) h8'
        · exact absurd e nl
        · exact e
      obtain rfl := none0 (y := "undo") (by decide +kernel) hzu
      refine ⟨.ref p, rfl, p, dx, _, rfl, h1, fldC_no (by decide +kernel), ?_⟩
      exact undo_ans B ok led hzu q
end
/-! ### what the desk says -/
def spSay (K : PySem.W.Frag) (C CC CNL : Addr) (R : ErrC) : Sp := fun vs H Q E => ∃ (d dx p pl : Addr) (n fl fa c : Nat) (L : List Nat) (qs : List (Nat × Nat)) (v : V), vs = [.ref d, v] ∧ H d = some (.ins C dx [("cluster", .ref p)]) ∧ CluB CC H p pl n fl fa c L qs ∧ CluOk n fl fa c L ∧ LedA n fl L qs ∧ qs.length ≤ 100000 ∧
  ((∃ x : Str, v = .str x ∧ x.length + 2 ≤ sizeLine ∧ (lineW x = none → Raised "value" CNL (.str x) H E) ∧ ∀ z ks, lineW x = some (z, ks) → AnsQ R CC p pl n fl fa c H Q E (ansW n fl fa c L qs z ks)) ∨
   (∃ t, TyX K H v (.type t) ∧ t ∈ tyNames ∧ (t == "str") = false ∧ Raised "value" CNL v H E))
theorem lineW_len {x z : Str} {ks : List Nat} (h : lineW x = some (z, ks)) : formsL.lookup z = some ks.length := by
  unfold lineW at h
  split at h
  · cases h
  · split at h
    · rename_i hc
      obtain ⟨e1, e2⟩ := Prod.mk.inj (Option.some.inj h)
      rw [← e1, ← e2, List.length_map]
      exact hc.2
    · cases h
theorem forms_two {z : Str} {k : Nat} (h : formsL.lookup z = some k) : k ≤ 2 := by
  obtain ⟨l1, l2, e, _⟩ := List.lookup_eq_some_iff.mp h
  have hm : (z, k) ∈ formsL := by rw [e]; simp
  have key : ∀ q ∈ formsL, q.2 ≤ 2 := by decide +kernel
  exact key _ hm
section
variable {P : Program} {w : World} {K : PySem.W.Frag} {mg : Str → Option Value} {base : Heap}
theorem ok_desksay (T : Txt K mg) {es : Array DictEntry} {en : Nat} (D : FormsD K w T.dForms es en) {j : Nat} : FnOk P w K mg base (L2.CX P w) (j + 11) T.fDeskSay T.fdDeskSay ["self", "line"] (spSay K T.cDesk T.cClu T.cNoLi ⟨T.cNoN, T.cNotL, T.cNotD, T.cTooF, T.cNoU⟩) := by
  refine T.FDeskSay.okX scDeskSay (fun vs H Q E h => ?_) (fun cdv A outer s H vs Q E hr h => ?_)
  · obtain ⟨d, dx, p, pl, n, fl, fa, c, L, qs, v, rfl, _⟩ := h
    rfl
  · obtain ⟨d, dx, p, pl, n, fl, fa, c, L, qs, v, rfl, hd, B, ok, led, lq, h⟩ := h
    refine ⟨_, pss_cons (ps_asg (pe_call (ok_readl T D) hr (by rfl) T.gReadL T.FReadL.kp T.bReadL .nil (passes_call (takes_of rfl rfl rfl rfl) (fun _ _ _ _ h => h)) (pa_cons (pv 1) pa_nil)) (pg_tup rfl (pgs_cons (pg_name (i := 2) scDeskSay.nd rfl (.inl rfl)) (pgs_cons (pg_name (i := 3) scDeskSay.nd rfl (.inl rfl)) pgs_nil)))) (pss_cons (ps_if (pt_cmpR op_eq (pe_callB (call_lenK K) (by rfl) T.n_len PySem.boot_len (pa_cons (pv 3) pa_nil)) pe_int (nomark _)) (pss_one (ps_ret (pe_call (ok_ansal T) hr (by rfl) T.gAnsAl T.FAnsAl.kp T.bAnsAl .nil (passes_call (takes_of rfl rfl rfl rfl) (fun _ _ _ _ h => h)) (pa_cons (pe_fld (pv 0) rfl) (pa_cons (pv 2) pa_nil))))) pss_nil) (pss_cons (ps_if (pt_cmpR op_eq (pe_callB (call_lenK K) (by rfl) T.n_len PySem.boot_len (pa_cons (pv 3) pa_nil)) pe_int (nomark _)) (pss_one (ps_ret (pe_call (ok_ansone T) hr (by rfl) T.gAnsOne T.FAnsOne.kp T.bAnsOne .nil (passes_call (takes_of rfl rfl rfl rfl) (fun _ _ _ _ h => h)) (pa_cons (pe_fld (pv 0) rfl) (pa_cons (pv 2) (pa_cons (pe_ix (ix_tupK K) (pv 3) pe_int (fun _ _ => rfl)) pa_nil)))))) pss_nil) (pss_one (ps_ret (pe_call (ok_anssucc T) hr (by rfl) T.gAnsSucc T.FAnsSucc.kp T.bAnsSucc .nil (passes_call (takes_of rfl rfl rfl rfl) (fun _ _ _ _ h => h)) (pa_cons (pe_fld (pv 0) rfl) (pa_cons (pe_ix (ix_tupK K) (pv 3) pe_int (fun _ _ => rfl)) (pa_cons (pe_ix (ix_tupK K) (pv 3) pe_int (fun _ _ => rfl)) pa_nil)))))))), ?_⟩
    refine ⟨v, rfl, v, rfl, ?_⟩
    rcases h with ⟨x, rfl, hl, q0, q⟩ | h
    rotate_left
    · exact .inr h
    refine .inl ⟨x, rfl, hl, q0, fun z ks hz H1 t e s1 nt ht he => ?_⟩
    have q1 := (q z ks hz).on s1
    have two := forms_two (lineW_len hz)
    refine ⟨t, _, rfl, SqT.of ht, rfl, _, _, rfl, _, _, rfl, rfl, ?_⟩
    refine ⟨.ref e, rfl, e, _, rfl, .inr (SqT.of he), rfl, _, rfl, ?_⟩
    rw [setV_len]
    have hd1 := s1 _ _ hd
    have B1 := B.same s1
    match ks, two, q1, he with
    | [], _, q1, he =>
      refine iteT ?_
      exact ⟨.ref d, rfl, d, T.cDesk, dx, _, _, rfl, hd1, T.clDesk, T.naDesk_cluster, rfl, _, rfl, p, pl, n, fl, fa, c, L, qs, z, rfl, B1, ok, led, lq, q1⟩
    | [k], _, q1, he =>
      refine iteF ?_
      refine ⟨.ref e, rfl, e, _, rfl, .inr (SqT.of he), rfl, _, rfl, iteT ?_⟩
      exact ⟨.ref d, rfl, d, T.cDesk, dx, _, _, rfl, hd1, T.clDesk, T.naDesk_cluster, rfl, _, rfl, .ref e, rfl, e, _, 0, _, rfl, rfl, SqT.of he, rfl, p, pl, n, fl, fa, c, L, qs, z, k, rfl, B1, ok, led, lq, q1⟩
    | [k, x2], _, q1, he =>
      refine iteF ?_
      refine ⟨.ref e, rfl, e, _, rfl, .inr (SqT.of he), rfl, _, rfl, iteF ?_⟩
      exact ⟨.ref d, rfl, d, T.cDesk, dx, _, _, rfl, hd1, T.clDesk, T.naDesk_cluster, rfl, .ref e, rfl, e, _, 0, _, rfl, rfl, SqT.of he, rfl, .ref e, rfl, e, _, 1, _, rfl, rfl, SqT.of he, rfl, p, pl, n, fl, fa, c, L, qs, k, x2, rfl, B1, ok, q1⟩
    | _ :: _ :: _ :: _, two, _, _ => exact absurd two (by simp)
end
/-! ### a desk in the heap -/
structure DeskAt (C CC : Addr) (H : Hp) (d p pl : Addr) (n fl fa c : Nat) (L : List Nat) (qs : List (Nat × Nat)) : Prop where
  ob : ∃ dx, H d = some (.ins C dx [("cluster", .ref p)])
  clu : CluB CC H p pl n fl fa c L qs
  ok : CluOk n fl fa c L
  led : LedA n fl L qs
section
variable {C CC CNL : Addr} {R : ErrC} {K : PySem.W.Frag} {H H' : Hp} {d p pl : Addr} {n fl fa c : Nat} {L L' : List Nat} {qs qs' : List (Nat × Nat)} {Q : VK} {E : XK}
theorem DeskAt.ne (D : DeskAt C CC H d p pl n fl fa c L qs) : d ≠ p ∧ d ≠ pl := by
  obtain ⟨dx, h⟩ := D.ob
  obtain ⟨⟨dx2, tl, h1, h2⟩, us, h3, h4⟩ := D.clu
  refine ⟨fun z => ?_, fun z => ?_⟩
  · rw [z, h1] at h
    have := congrArg (fun o => match o with | some (HO.ins _ _ fs) => fs.length | _ => 0) h
    exact absurd this (by show ¬ 6 = 1; decide)
  · rw [z, h3] at h
    cases h
theorem DeskAt.same (D : DeskAt C CC H d p pl n fl fa c L qs) (s : Same H H') : DeskAt C CC H' d p pl n fl fa c L qs := by
  obtain ⟨dx, h⟩ := D.ob
  exact ⟨⟨dx, s _ _ h⟩, D.clu.same s, D.ok, D.led⟩
theorem DeskAt.on (D : DeskAt C CC H d p pl n fl fa c L qs) (b : But2 p pl H H') (B : CluB CC H' p pl n fl fa c L' qs') (ok : CluOk n fl fa c L') (led : LedA n fl L' qs') : DeskAt C CC H' d p pl n fl fa c L' qs' := by
  obtain ⟨dx, h⟩ := D.ob
  obtain ⟨n1, n2⟩ := D.ne
  exact ⟨⟨dx, b _ _ n1 n2 h⟩, B, ok, led⟩
/-- a line is told to the desk -/
theorem DeskAt.say (D : DeskAt C CC H d p pl n fl fa c L qs) (lq : qs.length ≤ 100000) {x z : Str} {ks : List Nat} (hx : x.length + 2 ≤ sizeLine) (hl : lineW x = some (z, ks)) (q : AnsQ R CC p pl n fl fa c H Q E (ansW n fl fa c L qs z ks)) : spSay K C CC CNL R [.ref d, .str x] H Q E := by
  obtain ⟨dx, h⟩ := D.ob
  exact ⟨d, dx, p, pl, n, fl, fa, c, L, qs, .str x, rfl, h, D.clu, D.ok, D.led, lq, .inl ⟨x, rfl, hx, fun e => (by rw [hl] at e; cases e), fun z' ks' e => (by
    rw [hl] at e
    obtain ⟨rfl, rfl⟩ := Prod.mk.inj (Option.some.inj e)
    exact q)⟩⟩
/-- such a line is answered, the cluster stays as it is -/
theorem DeskAt.ask (D : DeskAt C CC H d p pl n fl fa c L qs) (lq : qs.length ≤ 100000) {x z s : Str} {ks : List Nat} (hx : x.length + 2 ≤ sizeLine) (hl : lineW x = some (z, ks)) (ha : ansW n fl fa c L qs z ks = .ok s L qs) (q : ∀ H', But2 p pl H H' → DeskAt C CC H' d p pl n fl fa c L qs → Q (.str s) H') : spSay K C CC CNL R [.ref d, .str x] H Q E :=
  D.say lq hx hl (by rw [ha]; exact fun H' b B => q H' b (D.on b B D.ok D.led))
theorem DeskAt.tell (D : DeskAt C CC H d p pl n fl fa c L qs) (lq : qs.length ≤ 100000) {x z s : Str} {ks : List Nat} (hx : x.length + 2 ≤ sizeLine) (hl : lineW x = some (z, ks)) (ha : ansW n fl fa c L qs z ks = .ok s L' qs') (q : ∀ H', But2 p pl H H' → DeskAt C CC H' d p pl n fl fa c L' qs' → qs'.length ≤ qs.length + 1 → Q (.str s) H') : spSay K C CC CNL R [.ref d, .str x] H Q E := by
  have k := ans_keep D.ok D.led z ks
  rw [ha] at k
  obtain ⟨k1, k2, k3⟩ := k
  exact D.say lq hx hl (by rw [ha]; exact fun H' b B => q H' b (D.on b B k1 k2) k3)
end
/-! ### a cluster that can be made -/
theorem cluInit_ok {K : PySem.W.Frag} {C CN CP : Addr} {H : Hp} {p dx : Addr} {n fl fa c : Nat} {Q : VK} {E : XK} (hp : H p = some (.ins C dx [])) (n2 : 2 ≤ n) (f1 : 1 ≤ fl) (fn : fl < n) (a1 : 1 ≤ fa) (an : fa ≤ n) (st : Std n (min n (fl + fa)) c)
    (q : ∀ H' pl, But p H H' → H pl = none → CluB C H' p pl n fl fa c (List.range' 0 n) [] → Q .non H') : spCluInit K C CN CP [.ref p, .int n, .int fl, .int fa, .int c] H Q E := by
  have cnt : ∀ {k : Nat}, CountV K H (.int (k : Int)) (some (k : Int)) := fun {k} => .inl ⟨_, rfl, rfl⟩
  have n6 := st.n60
  refine ⟨p, dx, _, _, _, _, some (n : Int), some (fl : Int), some (fa : Int), some (c : Int), rfl, hp, cnt, cnt, cnt, cnt, fun z => ?_, fun n' e _ _ => ?_⟩
  · rw [field_yes (by omega) (by omega)] at z
    cases z
  obtain rfl : n = n' := by have := Option.some.inj e; omega
  refine ⟨fun z => ?_, fun fl' e _ _ => ?_⟩
  · rw [field_yes (by omega) (by omega)] at z
    cases z
  obtain rfl : fl = fl' := by have := Option.some.inj e; omega
  refine ⟨fun z => ?_, fun fa' e _ _ => ?_⟩
  · rw [field_yes (by omega) (by omega)] at z
    cases z
  obtain rfl : fa = fa' := by have := Option.some.inj e; omega
  refine ⟨fun z => ?_, fun c' e _ H9 pl9 b9 npl B9 => ?_⟩
  · rw [std_poss st] at z
    cases z
  obtain rfl : c = c' := by have := Option.some.inj e; omega
  exact q H9 pl9 b9 npl B9
/-- what is new stands beside all else -/
theorem made_same {H H9 : Hp} {p dx C : Addr} (np : H p = none) (ndx : H dx = none) (b9 : But p (upd (upd H dx (.own p)) p (.ins C dx [])) H9) : Same H H9 := fun b o e => by
  refine b9 b o (ne_of_none e np) ?_
  rw [upd_ne (ne_of_none e np), upd_ne (ne_of_none e ndx)]
  exact e
theorem made_free {H : Hp} {p dx C q : Addr} (h : (upd (upd H dx (.own p)) p (.ins C dx [])) q = none) (np : H p = none) (ndx : H dx = none) : H q = none := by
  cases e : H q with
  | none => rfl
  | some o =>
    rw [upd_ne (ne_of_none e np), upd_ne (ne_of_none e ndx), e] at h
    cases h
theorem CluB.far3 {C : Addr} {H H' : Hp} {p0 p pl p1 pl1 : Addr} {n fl fa c n1 fl1 fa1 c1 : Nat} {L L1 : List Nat} {qs qs1 : List (Nat × Nat)} (B : CluB C H p pl n fl fa c L qs) (B1 : CluB C H p1 pl1 n1 fl1 fa1 c1 L1 qs1) (P : StrAt H p0) (e1 : p ≠ p1) (e2 : pl ≠ pl1) (e3 : pl ≠ p0) (b : ∀ q o, q ≠ p0 → q ≠ p1 → q ≠ pl1 → H q = some o → H' q = some o) : CluB C H' p pl n fl fa c L qs := by
  obtain ⟨⟨dx, tl, h1, h2⟩, us, h3, h4⟩ := B
  obtain ⟨⟨dx2, tl2, g1, g2⟩, us2, g3, g4⟩ := B1
  obtain ⟨x, y, k, _⟩ := P
  refine ⟨⟨dx, tl, b _ _ (fun z => by rw [z, k] at h1; cases h1) e1 (fun z => by rw [z, g3] at h1; cases h1) h1, b _ _ (fun z => by rw [z, k] at h2; cases h2) (fun z => by rw [z, g1] at h2; cases h2) (fun z => by rw [z, g3] at h2; cases h2) h2⟩, us, b _ _ e3 (fun z => by rw [z, g1] at h3; cases h3) e2 h3, h4.same fun u xs e => b _ _ (fun z => by rw [z, k] at e; cases e) (fun z => by rw [z, g1] at e; cases e) (fun z => by rw [z, g3] at e; cases e) e⟩
theorem CluB.far {C : Addr} {H H' : Hp} {p pl p2 pl2 : Addr} {n fl fa c n2 fl2 fa2 c2 : Nat} {L L2 : List Nat} {qs qs2 : List (Nat × Nat)} (B : CluB C H p pl n fl fa c L qs) (B2 : CluB C H p2 pl2 n2 fl2 fa2 c2 L2 qs2) (n1 : p ≠ p2) (n2 : pl ≠ pl2) (b : But2 p2 pl2 H H') : CluB C H' p pl n fl fa c L qs := by
  obtain ⟨⟨dx, tl, h1, h2⟩, us, h3, h4⟩ := B
  obtain ⟨⟨dx2, tl2, g1, g2⟩, us2, g3, g4⟩ := B2
  refine ⟨⟨dx, tl, b _ _ n1 (fun z => by rw [z, g3] at h1; cases h1) h1, b _ _ (fun z => by rw [z, g1] at h2; cases h2) (fun z => by rw [z, g3] at h2; cases h2) h2⟩, us, b _ _ (fun z => by rw [z, g1] at h3; cases h3) n2 h3, h4.same fun u xs e => b _ _ (fun z => by rw [z, g1] at e; cases e) (fun z => by rw [z, g3] at e; cases e) e⟩
theorem strAt_far {C : Addr} {H H' : Hp} {p0 p pl : Addr} {n fl fa c : Nat} {L : List Nat} {qs : List (Nat × Nat)} (P : StrAt H p0) (B : CluB C H p pl n fl fa c L qs) (ne : p0 ≠ pl) (b : But2 p pl H H') : StrAt H' p0 := by
  obtain ⟨⟨dx, tl, h1, h2⟩, _⟩ := B
  obtain ⟨x, y, e, r⟩ := P
  exact ⟨x, y, b _ _ (fun z => by rw [z, h1] at e; cases e) ne e, r⟩
/-! ### texts of signs that there are -/
def OkS (x : Str) : Prop := ∀ c ∈ x.cps.toList, c < 0x110000
theorem OkS.of {x : Str} (h : x.cps.toList.all (fun c => decide (c < 0x110000)) = true) : OkS x := fun c hc => of_decide_eq_true (List.all_eq_true.mp h c hc)
theorem sh_str {x : Str} (h : OkS x) : Sh 0 x.length (.str x) := by
  refine ⟨?_, Nat.le_refl _, rfl, ?_, Nat.le_refl _⟩
  · show x.cps.all (· < 0x110000) = true
    rw [← Array.all_toList, List.all_eq_true]
    exact fun c hc => decide_eq_true (h c hc)
  · show (x.cps.toList.all fun c => decide (c < 16 ^ 8)) = true
    rw [List.all_eq_true]
    exact fun c hc => decide_eq_true (Nat.lt_trans (h c hc) (by decide))
theorem OkS.app {a b : Str} (ha : OkS a) (hb : OkS b) : OkS (a ++ b) := fun c hc => by
  have e : (a ++ b).cps.toList = a.cps.toList ++ b.cps.toList := Array.toList_append
  rw [e] at hc
  rcases List.mem_append.mp hc with h | h
  · exact ha c h
  · exact hb c h
theorem joinL_from {S : List Nat} {c : Nat} : ∀ {parts : List (List Nat)}, c ∈ TL.joinL S parts → c ∈ S ∨ ∃ p ∈ parts, c ∈ p
  | [], h => absurd h List.not_mem_nil
  | [q], h => .inr ⟨q, List.mem_cons_self, h⟩
  | q :: q2 :: r, h => by
    have h : c ∈ q ++ (S ++ TL.joinL S (q2 :: r)) := h
    rcases List.mem_append.mp h with h | h
    · exact .inr ⟨q, List.mem_cons_self, h⟩
    · rcases List.mem_append.mp h with h | h
      · exact .inl h
      · rcases joinL_from h with h | ⟨p, hp, h⟩
        · exact .inl h
        · exact .inr ⟨p, List.mem_cons_of_mem _ hp, h⟩
theorem joinL_to {S p : List Nat} {c : Nat} : ∀ {parts : List (List Nat)}, p ∈ parts → c ∈ p → c ∈ TL.joinL S parts
  | [], h, _ => absurd h List.not_mem_nil
  | [q], h, hc => by
    rw [List.mem_singleton.mp h] at hc
    exact hc
  | q :: q2 :: r, h, hc => by
    show c ∈ q ++ (S ++ TL.joinL S (q2 :: r))
    rcases List.mem_cons.mp h with rfl | h
    · exact List.mem_append_left _ hc
    · exact List.mem_append_right _ (List.mem_append_right _ (joinL_to h hc))
theorem OkS.join {y : Str} {ps : List Str} (hy : OkS y) (h : ∀ p ∈ ps, OkS p) : OkS (Txt.join y ps) := fun c hc => by
  have e : (Txt.join y ps).cps.toList = TL.joinL (TL.tl y) (ps.map TL.tl) := by
    rw [TL.join_eq]
    exact TL.tl_join y ps
  rw [e] at hc
  rcases joinL_from hc with h1 | ⟨p, hp, h1⟩
  · exact hy c h1
  · obtain ⟨q, hq, rfl⟩ := List.mem_map.mp hp
    exact h q hq c h1
theorem OkS.split {x y p : Str} (h : OkS x) (hp : p ∈ Txt.split x y) : OkS p := fun c hc => by
  have e := congrArg TL.tl (StrLaws.join_split x y)
  rw [TL.tl_join] at e
  have h2 := joinL_to (S := TL.tl y) (List.mem_map.mpr ⟨p, hp, rfl⟩ : TL.tl p ∈ (Txt.split x y).map TL.tl) hc
  rw [e] at h2
  exact h c h2
theorem OkS.nat (n : Nat) : OkS (natS n) := fun c hc => by
  rw [natS_signs] at hc
  have := TL.numL_digits n c hc
  omega
theorem eqD_can {K : PySem.W.Frag} {H : Hp} {x y : V} {d : PyData} {Q : VK} (hx : Dp K H x d) (hy : Dp K H y d) (can : d.canLay0 = true) (dep : d.depth ≤ 64) (q : Q (.bl true) H) : rEqD K x y H Q := by
  have sh : SeqAt.shaped d = true := by
    unfold SeqAt.shaped
    rw [can]
    exact decide_eq_true dep
  refine ⟨d, d, hx, hy, sh, sh, ?_⟩
  rw [SeqAt.eqv_refl d can]
  exact q
theorem two_can {a b : Str} (ha : OkS a) (hb : OkS b) : (PyData.list [.str a, .str b]).canLay0 = true := by
  show (PyData.canLay0 (.str a) && (PyData.canLay0 (.str b) && true)) = true
  rw [(sh_str ha).can, (sh_str hb).can]
  rfl
theorem OkS.line : OkS lineS := OkS.of (by decide +kernel)
theorem OkS.blank : OkS blankS := OkS.of (by decide +kernel)
/-! ### the texts of a cluster are texts -/
theorem clus_ok {n fl fa c : Nat} {L : List Nat} : OkS (clusT n fl fa c L) := by
  refine OkS.join OkS.line fun p hp => ?_
  simp only [List.mem_cons, List.not_mem_nil, or_false] at hp
  rcases hp with rfl | rfl
  · refine OkS.join OkS.blank fun p hp => ?_
    simp only [List.mem_cons, List.not_mem_nil, or_false] at hp
    rcases hp with rfl | rfl | rfl | rfl | rfl
    · exact OkS.of (by decide +kernel)
    · exact OkS.nat _
    · exact OkS.nat _
    · exact OkS.nat _
    · exact OkS.nat _
  · refine OkS.join OkS.blank fun p hp => ?_
    rcases List.mem_cons.mp hp with rfl | hp
    · exact OkS.of (by decide +kernel)
    · split at hp
      · rw [List.mem_singleton.mp hp]
        exact OkS.of (by decide +kernel)
      · obtain ⟨x, _, rfl⟩ := List.mem_map.mp hp
        exact OkS.nat _
theorem text_eq (n fl fa c : Nat) (L : List Nat) : textS n fl fa c L = Txt.join barS (Txt.split (clusT n fl fa c L) lineS) := by
  unfold textS
  rw [line_mk, StrLaws.replace_one, TL.join_eq]
theorem text_ok {n fl fa c : Nat} {L : List Nat} : OkS (textS n fl fa c L) := by
  rw [text_eq]
  exact OkS.join (OkS.of (by decide +kernel)) fun p hp => clus_ok.split hp
theorem row_ok {L : List Nat} : OkS (rowS L) := OkS.join OkS.blank fun p hp => by
  obtain ⟨x, _, rfl⟩ := List.mem_map.mp hp
  exact OkS.nat _
/-! ### the desk beside the cluster -/
theorem Tabs_but2 {T : List (Addr × Str)} {C : Addr} {H H' : Hp} {p pl : Addr} {n fl fa c : Nat} {L : List Nat} {qs : List (Nat × Nat)} (t : LamX.Tabs T H) (b : But2 p pl H H') (B : CluB C H p pl n fl fa c L qs) : LamX.Tabs T H' := fun q hq => by
  obtain ⟨⟨dx, tl, h1, h2⟩, us, h3, h4⟩ := B
  obtain ⟨ps, e1, e2, e3⟩ := t q hq
  refine ⟨ps, b _ _ (fun z => ?_) (fun z => ?_) e1, e2, fun pos cv hc => ?_⟩
  · rw [z, h1] at e1
    cases e1
  · rw [z, h3] at e1
    cases e1
  · obtain ⟨c, f1, f2⟩ := e3 pos cv hc
    refine ⟨c, f1, b _ _ (fun z => ?_) (fun z => ?_) f2⟩
    · rw [z, h1] at f2
      unfold LamX.CodeO at f2
      cases f2
    · rw [z, h3] at f2
      unfold LamX.CodeO at f2
      cases f2
theorem StrAt.ext54 {H H' : Hp} {p : Addr} (P : StrAt H p) (e : LamX.ExtN H H') : StrAt H' p := by
  obtain ⟨x, y, h, r⟩ := P
  exact ⟨x, y, e _ _ h (fun _ z => by cases z), r⟩
theorem CluB.ext54 {C : Addr} {H H' : Hp} {p pl : Addr} {n fl fa c : Nat} {L : List Nat} {qs : List (Nat × Nat)} (h : CluB C H p pl n fl fa c L qs) (s : LamX.ExtN H H') : CluB C H' p pl n fl fa c L qs := by
  obtain ⟨⟨dx, tl, h1, h2⟩, us, h3, h4⟩ := h
  exact ⟨⟨dx, tl, s _ _ h1 (fun _ z => by cases z), s _ _ h2 (fun _ z => by cases z)⟩, us, s _ _ h3 (fun _ z => by cases z), h4.same fun u xs e => s _ _ e (fun _ z => by cases z)⟩
structure R54 (tabs : List (Addr × Str)) (C CC : Addr) (H0 H : Hp) (p0 t p1 pl1 d p2 pl2 : Addr) (n fl fa c : Nat) (L1 : List Nat) (qs1 : List (Nat × Nat)) (L2 : List Nat) (qs2 : List (Nat × Nat)) : Prop where
  str : StrAt H p0
  siz : H t = some (.tup [V.int n, V.int fl, V.int fa, V.int c])
  clu : CluB CC H p1 pl1 n fl fa c L1 qs1
  dsk : DeskAt C CC H d p2 pl2 n fl fa c L2 qs2
  tab : LamX.Tabs tabs H
  keep : ∀ b o, b ≠ p0 → H0 b = some o → (∀ ps, o ≠ .tbl ps) → H b = some o
  ne : p0 ≠ p1 ∧ p0 ≠ pl1 ∧ p0 ≠ p2 ∧ p0 ≠ pl2 ∧ p1 ≠ p2 ∧ pl1 ≠ pl2
  no : H0 p1 = none ∧ H0 pl1 = none ∧ H0 p2 = none ∧ H0 pl2 = none
section
variable {tabs : List (Addr × Str)} {C CC : Addr} {H0 H H' : Hp} {p0 t p1 pl1 d p2 pl2 : Addr} {n fl fa c : Nat} {L1 L2 L' : List Nat} {qs1 qs2 qs' : List (Nat × Nat)}
theorem R54.ext (S : R54 tabs C CC H0 H p0 t p1 pl1 d p2 pl2 n fl fa c L1 qs1 L2 qs2) (e : LamX.ExtN H H') (tb : LamX.Tabs tabs H') : R54 tabs C CC H0 H' p0 t p1 pl1 d p2 pl2 n fl fa c L1 qs1 L2 qs2 := by
  obtain ⟨dx, hd⟩ := S.dsk.ob
  exact ⟨S.str.ext54 e, e _ _ S.siz (fun _ z => by cases z), S.clu.ext54 e, ⟨⟨dx, e _ _ hd (fun _ z => by cases z)⟩, S.dsk.clu.ext54 e, S.dsk.ok, S.dsk.led⟩, tb, fun b o n h z => e _ _ (S.keep b o n h z) z, S.ne, S.no⟩
theorem R54.same (S : R54 tabs C CC H0 H p0 t p1 pl1 d p2 pl2 n fl fa c L1 qs1 L2 qs2) (s : Same H H') : R54 tabs C CC H0 H' p0 t p1 pl1 d p2 pl2 n fl fa c L1 qs1 L2 qs2 := S.ext (extN_same s) (tabs_same S.tab s)
theorem R54.to (S : R54 tabs C CC H0 H p0 t p1 pl1 d p2 pl2 n fl fa c L1 qs1 L2 qs2) (b : But p0 H H') (P : StrAt H' p0) : R54 tabs C CC H0 H' p0 t p1 pl1 d p2 pl2 n fl fa c L1 qs1 L2 qs2 := by
  obtain ⟨ys, e⟩ := S.str.lst
  obtain ⟨dx, hd⟩ := S.dsk.ob
  refine ⟨P, b _ _ (fun z => ?_) S.siz, S.clu.but e S.ne.2.1.symm b, ⟨⟨dx, b _ _ (fun z => ?_) hd⟩, S.dsk.clu.but e S.ne.2.2.2.1.symm b, S.dsk.ok, S.dsk.led⟩, tabs_but S.tab e b, fun q o n h z => b _ _ n (S.keep q o n h z), S.ne, S.no⟩
  · have h := S.siz
    rw [z, e] at h
    cases h
  · rw [z, e] at hd
    cases hd
theorem tup_but2 {H H' : Hp} {p pl t : Addr} {xs : List V} {n fl fa c : Nat} {L : List Nat} {qs : List (Nat × Nat)} (B : CluB CC H p pl n fl fa c L qs) (b : But2 p pl H H') (h : H t = some (.tup xs)) : H' t = some (.tup xs) := by
  obtain ⟨⟨dx, tl, h1, h2⟩, us, h3, h4⟩ := B
  exact b _ _ (fun z => by rw [z, h1] at h; cases h) (fun z => by rw [z, h3] at h; cases h) h
/-- the cluster beside goes on -/
theorem R54.one (S : R54 tabs C CC H0 H p0 t p1 pl1 d p2 pl2 n fl fa c L1 qs1 L2 qs2) (b : But2 p1 pl1 H H') (B : CluB CC H' p1 pl1 n fl fa c L' qs') : R54 tabs C CC H0 H' p0 t p1 pl1 d p2 pl2 n fl fa c L' qs' L2 qs2 := by
  obtain ⟨x, y, e, r⟩ := S.str
  obtain ⟨dx, hd⟩ := S.dsk.ob
  obtain ⟨⟨dx1, tl, h1, h2⟩, us, h3, h4⟩ := id S.clu
  refine ⟨⟨x, y, b _ _ S.ne.1 S.ne.2.1 e, r⟩, tup_but2 S.clu b S.siz, B, ⟨⟨dx, b _ _ (fun z => ?_) (fun z => ?_) hd⟩, S.dsk.clu.far S.clu S.ne.2.2.2.2.1.symm S.ne.2.2.2.2.2.symm b, S.dsk.ok, S.dsk.led⟩, Tabs_but2 S.tab b S.clu, fun q o n h z => b q o (ne_of_none h S.no.1) (ne_of_none h S.no.2.1) (S.keep q o n h z), S.ne, S.no⟩
  · rw [z, h1] at hd
    have := congrArg (fun o => match o with | some (HO.ins _ _ fs) => fs.length | _ => 0) hd
    exact absurd this (by show ¬ 6 = 1; decide)
  · rw [z, h3] at hd
    cases hd
/-- the desk goes on -/
theorem R54.two (S : R54 tabs C CC H0 H p0 t p1 pl1 d p2 pl2 n fl fa c L1 qs1 L2 qs2) (b : But2 p2 pl2 H H') (D : DeskAt C CC H' d p2 pl2 n fl fa c L' qs') : R54 tabs C CC H0 H' p0 t p1 pl1 d p2 pl2 n fl fa c L1 qs1 L' qs' := by
  obtain ⟨x, y, e, r⟩ := S.str
  exact ⟨⟨x, y, b _ _ S.ne.2.2.1 S.ne.2.2.2.1 e, r⟩, tup_but2 S.dsk.clu b S.siz, S.clu.far S.dsk.clu S.ne.2.2.2.2.1 S.ne.2.2.2.2.2 b, D, Tabs_but2 S.tab b S.dsk.clu, fun q o n h z => b q o (ne_of_none h S.no.2.2.1) (ne_of_none h S.no.2.2.2) (S.keep q o n h z), S.ne, S.no⟩
end
/-- the text of a line -/
def lnS (z : Str) (ks : List Nat) : Str := Txt.join blankS (z :: ks.map natS)
theorem lnS_words {z : Str} {ks : List Nat} (h : ∀ k ∈ ks, k < 10 ^ 40) : PySem.Paired WordV (.str z :: setV ks) (z :: ks.map natS) := by
  refine .cons (.inl rfl) ?_
  induction ks with
  | nil => exact .nil
  | cons k r ih => exact .cons (.inr ⟨k, rfl, Nat.lt_trans (h k List.mem_cons_self) (by decide +kernel), rfl⟩) (ih fun y hy => h y (List.mem_cons_of_mem _ hy))
theorem forms_words : ∀ y ∈ formsL.map (·.1), y.length ≤ 9 ∧ 32 ∉ TL.tl y ∧ y.cps.toList.all (fun c => decide (c < 0x110000)) = true := by decide +kernel
theorem form_mem {z : Str} {k : Nat} (h : formsL.lookup z = some k) : z ∈ formsL.map (·.1) := by
  obtain ⟨l1, l2, e, _⟩ := List.lookup_eq_some_iff.mp h
  rw [e]
  simp
theorem natS_free54 {x c : Nat} (h : c < 48 ∨ 57 < c) : c ∉ TL.tl (natS x) := fun z => by
  have e : TL.tl (natS x) = TL.numL x := natS_signs x
  rw [e] at z
  have := TL.numL_digits x c z
  omega
theorem lnS_line {z : Str} {ks : List Nat} (h : LnOk z ks) : lineW (lnS z ks) = some (z, ks) := by
  obtain ⟨h1, h2⟩ := h
  obtain ⟨f1, f2, f3⟩ := forms_words z (form_mem h1)
  have e : Txt.split (lnS z ks) blankS = z :: ks.map natS := by
    refine TL.split_join (y := blankS) (s := 32) (S := []) (by rw [blank_mk]) (by decide +kernel) (List.cons_ne_nil _ _) fun p hp => ?_
    rcases List.mem_cons.mp hp with rfl | hp
    · exact f2
    · obtain ⟨x, _, rfl⟩ := List.mem_map.mp hp
      exact natS_free54 (by omega)
  unfold lineW
  rw [e]
  have a : (ks.map natS).all numW = true := List.all_eq_true.mpr fun w hw => by
    obtain ⟨x, hx, rfl⟩ := List.mem_map.mp hw
    exact natS_num (h2 x hx)
  dsimp only
  rw [if_pos ⟨a, by rw [List.length_map]; exact h1⟩, List.map_map]
  have : ks.map (valW ∘ natS) = ks := by
    conv => rhs; rw [← List.map_id ks]
    exact List.map_congr_left fun x _ => natS_val x
  rw [this]
theorem lnS_len {z : Str} {ks : List Nat} (h : LnOk z ks) : (lnS z ks).length ≤ 200 := by
  obtain ⟨h1, h2⟩ := h
  obtain ⟨f1, f2, f3⟩ := forms_words z (form_mem h1)
  have two := forms_two h1
  have j1 := join_len blankS (z :: ks.map natS)
  have m1 := sum_le (f := fun x : Str => x.length) (b := 40) (l := ks.map natS) fun w hw => by
    obtain ⟨x, hx, rfl⟩ := List.mem_map.mp hw
    exact natS_len (by decide) (h2 x hx)
  have a2 : blankS.length = 1 := by decide +kernel
  simp only [List.map_cons, List.sum_cons, List.length_cons, List.length_map, a2] at j1 m1
  show (Txt.join blankS (z :: ks.map natS)).length ≤ 200
  omega
/-- an outcome at x -/
def OutAt (H : Hp) (v : V) (a : Ans) : Prop := ∃ x, v = .ref x ∧ H x = some (.tup [.str (outN a).1, (outN a).2])
def outD : Ans → PyData
  | .ok s _ _ => .tuple [.str "returned", .str s]
  | .noN k => .tuple [.str "NoNumber", .int (k : Int)]
  | .notL k => .tuple [.str "NotLive", .int (k : Int)]
  | .notD k => .tuple [.str "NotDead", .int (k : Int)]
  | .tooF u => .tuple [.str "TooFew", .int (u : Int)]
  | .noU => .tuple [.str "NoUndo", .none]
/-- answers that can be shown -/
def AnsSh : Ans → Prop
  | .ok s _ _ => OkS s ∧ s.length ≤ 70000
  | .noN k => k < 10 ^ 40
  | .notL k => k < 10 ^ 40
  | .notD k => k < 10 ^ 40
  | .tooF u => u < 10 ^ 40
  | .noU => True
theorem nm_sh : ∀ nm ∈ (["returned", "NoNumber", "NotLive", "NotDead", "TooFew", "NoUndo"] : List Str), nm.cps.toList.all (fun c => decide (c < 0x110000)) = true ∧ nm.length ≤ 20 := by decide +kernel
theorem pair_sh {nm : Str} (h : nm ∈ (["returned", "NoNumber", "NotLive", "NotDead", "TooFew", "NoUndo"] : List Str)) {dv : PyData} (hd : Sh 0 70000 dv) : Sh 60 80000 (.tuple [.str nm, dv]) := by
  obtain ⟨h1, h2⟩ := nm_sh nm h
  exact (Sh.tup (ShAll.cons ((sh_str (OkS.of h1)).mono (Nat.le_refl 0) h2) (ShAll.cons hd ShAll.nil))).mono (by decide) (by decide)
theorem OutAt.show {K : PySem.W.Frag} {H : Hp} {v : V} {a : Ans} (h : OutAt H v a) (s : AnsSh a) : ShowV K H v (outD a) := by
  obtain ⟨x, rfl, hx⟩ := h
  have nat : ∀ {k : Nat}, k < 10 ^ 40 → Sh 0 70000 (.int (k : Int)) := fun {k} hk => (Sh.int (b := 200) (by decide) (by decide) (by rw [Int.natAbs_natCast]; exact Nat.lt_trans hk (by decide +kernel))).mono (Nat.le_refl 0) (by decide)
  cases a with
  | ok s L qs => exact .inl ⟨.tup (SqT.of hx) (.cons (.str _) (.cons (.str _) .nil)), pair_sh (by decide +kernel) ((sh_str s.1).mono (Nat.le_refl 0) s.2)⟩
  | noN k => exact .inl ⟨.tup (SqT.of hx) (.cons (.str _) (.cons (.int _) .nil)), pair_sh (by decide +kernel) (nat s)⟩
  | notL k => exact .inl ⟨.tup (SqT.of hx) (.cons (.str _) (.cons (.int _) .nil)), pair_sh (by decide +kernel) (nat s)⟩
  | notD k => exact .inl ⟨.tup (SqT.of hx) (.cons (.str _) (.cons (.int _) .nil)), pair_sh (by decide +kernel) (nat s)⟩
  | tooF u => exact .inl ⟨.tup (SqT.of hx) (.cons (.str _) (.cons (.int _) .nil)), pair_sh (by decide +kernel) (nat s)⟩
  | noU => exact .inl ⟨.tup (SqT.of hx) (.cons (.str _) (.cons .non .nil)), pair_sh (by decide +kernel) (Sh.none.mono (Nat.le_refl 0) (by decide))⟩
/-! ### a desk, of a text that can be read -/
def spDesk57 (K : PySem.W.Frag) (C CC : Addr) : Sp := fun vs H Q E => ∃ (p dx : Addr) (x : Str), vs = [.ref p, .str x] ∧ H p = some (.ins C dx []) ∧ spReadC K CC [.str x] H (fun v H' => ∃ c, v = .ref c ∧ H' p = some (.ins C dx []) ∧ Q .non (upd H' p (.ins C dx [("cluster", .ref c)]))) E
section
variable {P : Program} {w : World} {K : PySem.W.Frag} {mg : Str → Option Value} {base : Heap}
theorem ok_deskinit (T : Txt K mg) {j : Nat} : FnOk P w K mg base (L2.CX P w) (j + 10) T.fDeskInit T.fdDeskInit ["self", "text"] (spDesk57 K T.cDesk T.cClu) := by
  refine T.FDeskInit.okX scDeskInit (fun vs H Q E h => ?_) (fun cdv A outer s H vs Q E hr h => ?_)
  · obtain ⟨p, dx, v, rfl, _⟩ := h
    rfl
  · obtain ⟨p, dx, x, rfl, hp, x', row, row2, n, fl, fa, c, ds, e, h1, h2, h3, h4, h5, h6, h7, q⟩ := h
    refine ⟨_, pss_one (ps_fld (pv 0) (pe_call (ok_readc T) hr (by rfl) T.gReadC T.FReadC.kp T.bReadC .nil (passes_call (takes_of rfl rfl rfl rfl) (fun _ _ _ _ h => h)) (pa_cons (pv 1) pa_nil)) rfl), ?_⟩
    cases e
    refine ⟨_, rfl, x, row, row2, n, fl, fa, c, ds, rfl, h1, h2, h3, h4, h5, h6, h7, fun H' p1 pl s n1 n2 B => ?_⟩
    obtain ⟨c1, e1, e2, e3⟩ := q H' p1 pl s n1 n2 B
    cases e1
    refine ⟨.ref p, rfl, p, T.cDesk, dx, _, rfl, e2, T.clDesk, T.naDesk_cluster, (by show 0 < 1000; decide), ?_⟩
    exact e3
end
/-! ### a cluster's text, read back -/
section
open TL PySem.NumText
theorem tl_inj52 {a b : Str} (h : tl a = tl b) : a = b := (List.cons.inj (map_tl_inj (l := [a]) (m := [b]) (by rw [List.map_cons, List.map_cons, h]))).1
theorem joinL_free52 {S : List Nat} {c : Nat} (hS : c ∉ S) : ∀ {parts : List (List Nat)}, (∀ p ∈ parts, c ∉ p) → c ∉ joinL S parts
  | [], _ => List.not_mem_nil
  | [p], h => h p List.mem_cons_self
  | p :: q :: r, h => by
    show c ∉ p ++ (S ++ joinL S (q :: r))
    rw [List.mem_append, List.mem_append]
    rintro (z | z | z)
    · exact h p List.mem_cons_self z
    · exact hS z
    · exact joinL_free52 hS (fun x hx => h x (List.mem_cons_of_mem _ hx)) z
theorem tl_blank52 : tl blankS = [32] := by rw [blank_mk]
theorem tl_line52 : tl lineS = [10] := by rw [line_mk]
theorem tl_join52 (y : Str) (parts : List Str) : tl (Txt.join y parts) = joinL (tl y) (parts.map tl) := by rw [join_eq, tl_join]
theorem natS_free52 {x c : Nat} (h : c < 48 ∨ 57 < c) : c ∉ tl (natS x) := by
  rw [show tl (natS x) = numL x from tl_num x]
  exact numL_free h
theorem word_free52 {c : Nat} (h : c ≤ 32) : c ∉ tl clusterS ∧ c ∉ tl deadS ∧ c ∉ tl dashS := by
  have e : tl clusterS = [99, 108, 117, 115, 116, 101, 114] := by decide +kernel
  have e2 : tl deadS = [100, 101, 97, 100] := by decide +kernel
  have e3 : tl dashS = [45] := by decide +kernel
  rw [e, e2, e3]
  refine ⟨?_, ?_, ?_⟩ <;> · simp only [List.mem_cons, List.not_mem_nil, or_false]; omega
def headWs (n fl fa c : Nat) : List Str := [clusterS, natS n, natS fl, natS fa, natS c]
def deadWs (ds : List Nat) : List Str := deadS :: if ds = [] then [dashS] else ds.map natS
theorem headWs_free {n fl fa c d : Nat} (h : d ≤ 32) : ∀ w ∈ headWs n fl fa c, d ∉ tl w := by
  intro w hw
  simp only [headWs, List.mem_cons, List.not_mem_nil, or_false] at hw
  rcases hw with rfl | rfl | rfl | rfl | rfl
  · exact (word_free52 h).1
  all_goals exact natS_free52 (.inl (by omega))
theorem deadWs_free {ds : List Nat} {d : Nat} (h : d ≤ 32) : ∀ w ∈ deadWs ds, d ∉ tl w := by
  intro w hw
  rcases List.mem_cons.mp hw with rfl | hw
  · exact (word_free52 h).2.1
  split at hw
  · rw [List.mem_singleton.mp hw]
    exact (word_free52 h).2.2
  · obtain ⟨x, _, rfl⟩ := List.mem_map.mp hw
    exact natS_free52 (.inl (by omega))
theorem row_free52 {ws : List Str} (h : ∀ w ∈ ws, 10 ∉ tl w) : 10 ∉ tl (Txt.join blankS ws) := by
  rw [tl_join52, tl_blank52]
  refine joinL_free52 (by decide) fun p hp => ?_
  obtain ⟨w, hw, rfl⟩ := List.mem_map.mp hp
  exact h w hw
theorem split_clus (n fl fa c : Nat) (L : List Nat) : Txt.split (clusT n fl fa c L) lineS = [headT n fl fa c, deadT (goneL n L)] := by
  unfold clusT
  refine split_join tl_line52 (by decide +kernel) (List.cons_ne_nil _ _) fun p hp => ?_
  rcases List.mem_cons.mp hp with rfl | hp
  · exact row_free52 (headWs_free (n := n) (fl := fl) (fa := fa) (c := c) (by decide))
  · rw [List.mem_singleton.mp hp]
    exact row_free52 (deadWs_free (ds := goneL n L) (by decide))
theorem split_headT (n fl fa c : Nat) : Txt.split (headT n fl fa c) blankS = headWs n fl fa c :=
  split_join tl_blank52 (by decide +kernel) (List.cons_ne_nil _ _) (headWs_free (by decide))
theorem split_deadT (ds : List Nat) : Txt.split (deadT ds) blankS = deadWs ds :=
  split_join tl_blank52 (by decide +kernel) (List.cons_ne_nil _ _) (deadWs_free (by decide))
theorem big60' {x : Nat} (h : x ≤ 60) : x < 10 ^ 40 := Nat.lt_of_le_of_lt h (by decide +kernel)
theorem fields_headT {n fl fa c : Nat} (hn : n < 10 ^ 40) (hf : fl < 10 ^ 40) (ha : fa < 10 ^ 40) (hc : c < 10 ^ 40) : fieldsW (headT n fl fa c) clusterS 4 = some [n, fl, fa, c] := by
  unfold fieldsW
  rw [split_headT, if_pos]
  · show some [valW (natS n), valW (natS fl), valW (natS fa), valW (natS c)] = _
    rw [natS_val, natS_val, natS_val, natS_val]
  · refine ⟨rfl, rfl, ?_⟩
    show (numW (natS n) && (numW (natS fl) && (numW (natS fa) && (numW (natS c) && true)))) = true
    rw [natS_num hn, natS_num hf, natS_num ha, natS_num hc]
    rfl
theorem chk_asc {n : Nat} : ∀ {ds : List Nat} {m : Nat}, Asc ds → (∀ x ∈ ds, m ≤ x ∧ x < n) → chk (n : Int) (m : Int) (natD ds) = true
  | [], _, _, _ => rfl
  | x :: ds, m, a, h => by
    obtain ⟨h1, h2⟩ := h x List.mem_cons_self
    have a2 := List.pairwise_cons.mp a
    show (decide ((m : Int) ≤ (x : Int)) && (decide ((x : Int) < (n : Int)) && chk (n : Int) ((x : Int) + 1) (natD ds))) = true
    have ih := chk_asc (n := n) (m := x + 1) a2.2 fun y hy => ⟨a2.1 y hy, (h y (List.mem_cons_of_mem _ hy)).2⟩
    rw [decide_eq_true (show (m : Int) ≤ (x : Int) by omega), decide_eq_true (show (x : Int) < (n : Int) by omega)]
    exact ih
theorem dead_back {n fl : Nat} {ds : List Nat} (a : Asc ds) (h : ∀ x ∈ ds, x < n) (n60 : n ≤ 60) (hl : ds.length ≤ fl) : deadW n fl (deadT ds) = some ds := by
  unfold deadW
  by_cases e : ds = []
  · subst e
    rw [if_pos (by decide +kernel)]
  · have nums : (ds.map natS).all numW = true := by
      rw [List.all_map, List.all_eq_true]
      exact fun x hx => natS_num (big60' (by have := h x hx; omega))
    have ws : deadWs ds = deadS :: ds.map natS := by unfold deadWs; rw [if_neg e]
    rw [if_neg fun z => ?_, split_deadT, ws, if_pos]
    · show some ((ds.map natS).map valW) = _
      rw [List.map_map, show (valW ∘ natS) = id from funext natS_val, List.map_id]
    · refine ⟨rfl, fun z => e (List.map_eq_nil_iff.mp z), nums, ?_, by show (ds.map natS).length ≤ fl; rw [List.length_map]; exact hl⟩
      show chk (n : Int) 0 (natD ((ds.map natS).map valW)) = true
      rw [List.map_map, show (valW ∘ natS) = id from funext natS_val, List.map_id]
      exact chk_asc (m := 0) a fun x hx => ⟨Nat.zero_le _, h x hx⟩
    · have e1 := split_deadT ds
      rw [z, ws] at e1
      have e2 : Txt.split deadRowS blankS = [deadS, dashS] := by decide +kernel
      rw [e2] at e1
      have e3 : [dashS] = ds.map natS := (List.cons.inj e1).2
      rw [← e3] at nums
      exact absurd nums (by decide +kernel)
theorem goneL_twice {n : Nat} {L : List Nat} (a : Asc L) (h : ∀ x ∈ L, x < n) : goneL n (goneL n L) = L := by
  have ga : ∀ M, Asc (goneL n M) := fun M => (asc_range' n 0).sublist List.filter_sublist
  have gm : ∀ M x, x ∈ goneL n M ↔ x < n ∧ x ∉ M := fun M x => by
    unfold goneL
    rw [List.mem_filter, mem_range0]
    simp
  refine asc_unique (ga _) a ((List.perm_ext_iff_of_nodup (asc_nodup (ga _)) (asc_nodup a)).mpr fun x => ?_)
  rw [gm, gm]
  constructor
  · exact fun z => Classical.byContradiction fun w => z.2 ⟨z.1, w⟩
  · exact fun z => ⟨h x z, fun w => w.2 z⟩
theorem clus_put {n fl fa c : Nat} {ds : List Nat} : (("cluster " : Str) ++ Txt.join blankS [natS n, natS fl, natS fa, natS c]) ++ ("\ndead " : Str) ++ Txt.join blankS (if ds = [] then [dashS] else ds.map natS) = Txt.join lineS [headT n fl fa c, deadT ds] := by
  have hne : (if ds = [] then [dashS] else ds.map natS) ≠ [] := by
    split
    · exact List.cons_ne_nil _ _
    · rename_i h
      exact fun e => h (List.map_eq_nil_iff.mp e)
  unfold deadT headT
  generalize (if ds = [] then [dashS] else ds.map natS) = ws at hne
  apply tl_inj52
  obtain ⟨w, r, rfl⟩ := List.exists_cons_of_ne_nil hne
  rw [tl_append, tl_append, tl_append, tl_join52, tl_join52, tl_join52, tl_line52]
  have e : tl ("cluster " : Str) = tl clusterS ++ [32] := by decide +kernel
  have e2 : tl ("\ndead " : Str) = [10] ++ (tl deadS ++ [32]) := by decide +kernel
  rw [e, e2]
  show _ = tl (Txt.join blankS [clusterS, natS n, natS fl, natS fa, natS c]) ++ ([10] ++ tl (Txt.join blankS (deadS :: w :: r)))
  rw [tl_join52, tl_join52, tl_blank52]
  show _ = (tl clusterS ++ ([32] ++ joinL [32] [tl (natS n), tl (natS fl), tl (natS fa), tl (natS c)])) ++ ([10] ++ (tl deadS ++ ([32] ++ joinL [32] ((w :: r).map tl))))
  simp only [List.append_assoc, List.map_cons, List.map_nil]
theorem clusT_len {n fl fa c : Nat} {L : List Nat} (n60 : n ≤ 60) (f60 : fl ≤ 60) (a60 : fa ≤ 60) (hc : c < 10 ^ 40) : (clusT n fl fa c L).length + 2 ≤ sizeLine ∧ (Txt.split (deadT (goneL n L)) blankS).length ≤ 100 := by
  have gl : (goneL n L).length ≤ 60 := by
    have := List.length_filter_le (fun x => !decide (x ∈ L)) (List.range' 0 n)
    rw [List.length_range'] at this
    exact Nat.le_trans this n60
  have a1 : deadS.length = 4 := by decide +kernel
  have a2 : blankS.length = 1 := by decide +kernel
  have a3 : lineS.length = 1 := by decide +kernel
  have a0 : clusterS.length = 7 := by decide +kernel
  have k : ∀ x, x < 10 ^ 40 → (natS x).length ≤ 40 := fun x hx => natS_len (by decide) hx
  have wl : (deadWs (goneL n L)).length ≤ 61 := by
    unfold deadWs
    split
    · exact (by decide)
    · rw [List.length_cons, List.length_map]
      omega
  refine ⟨?_, by rw [split_deadT]; omega⟩
  have j1 := join_len blankS [clusterS, natS n, natS fl, natS fa, natS c]
  have j2 := join_len blankS (deadWs (goneL n L))
  have m1 := sum_le (f := fun x : Str => x.length) (b := 40) (l := deadWs (goneL n L)) fun w hw => by
    rcases List.mem_cons.mp hw with rfl | hw
    · rw [a1]; decide
    split at hw
    · rw [List.mem_singleton.mp hw]; decide +kernel
    · obtain ⟨x, hx, rfl⟩ := List.mem_map.mp hw
      have := mem_range0.mp (List.mem_filter.mp hx).1
      exact k x (big60' (by omega))
  have j3 := join_len lineS [headT n fl fa c, deadT (goneL n L)]
  have h1 : (headT n fl fa c).length ≤ 200 := by
    have b1 := k n (big60' n60)
    have b2 := k fl (big60' f60)
    have b3 := k fa (big60' a60)
    have b4 := k c hc
    simp only [List.map_cons, List.map_nil, List.sum_cons, List.sum_nil, List.length_cons, List.length_nil, a0, a2] at j1
    unfold headT
    omega
  have h2 : (deadT (goneL n L)).length ≤ 3000 := by
    rw [a2] at j2
    show (Txt.join blankS (deadWs (goneL n L))).length ≤ 3000
    omega
  simp only [List.map_cons, List.map_nil, List.sum_cons, List.sum_nil, List.length_cons, List.length_nil, a3] at j3
  rw [sizeLine_eq]
  show (Txt.join lineS [headT n fl fa c, deadT (goneL n L)]).length + 2 ≤ _
  omega
end
/-! ### the servers that are up (without the law's own text) -/
def upL (n : Nat) (gone : List Nat) : List Nat := (List.range' 0 n).filter fun y => !decide (y ∈ gone)
theorem asc_ext {a b : List Nat} (ha : Asc a) (hb : Asc b) (h : ∀ x, x ∈ a ↔ x ∈ b) : a = b := asc_unique ha hb ((List.perm_ext_iff_of_nodup (asc_nodup ha) (asc_nodup hb)).mpr h)
theorem upL_asc (n : Nat) (gone : List Nat) : Asc (upL n gone) := (asc_range' n 0).sublist List.filter_sublist
theorem upL_mem {n : Nat} {gone : List Nat} {x : Nat} : x ∈ upL n gone ↔ x < n ∧ x ∉ gone := by
  unfold upL
  rw [List.mem_filter, mem_range0]
  simp
theorem upL_nil (n : Nat) : upL n [] = List.range' 0 n := List.filter_eq_self.mpr fun x _ => rfl
theorem upL_fail {n x : Nat} {gone : List Nat} (h : x ∈ upL n gone) : turnL (upL n gone) x = upL n (gone ++ [x]) := by
  refine asc_ext (turn_asc (upL_asc _ _)) (upL_asc _ _) fun y => ?_
  simp only [turn_mem, upL_mem, List.mem_append, List.mem_singleton]
  constructor
  · rintro (⟨⟨a, b⟩, c⟩ | ⟨_, c⟩)
    · exact ⟨a, fun z => z.elim b c⟩
    · exact absurd (upL_mem.mp h) c
  · rintro ⟨a, b⟩
    exact .inl ⟨⟨a, fun z => b (.inl z)⟩, fun z => b (.inr z)⟩
theorem upL_back {n x k : Nat} {gone : List Nat} (nd : gone.Nodup) (lt : ∀ y ∈ gone, y < n) (h : gone[k]? = some x) : turnL (upL n gone) x = upL n (gone.eraseIdx k) ∧ x ∉ upL n gone := by
  have pm := erase_perm gone k x h
  have nd2 := pm.nodup_iff.mpr nd
  have hx : x ∈ gone := List.mem_of_getElem? h
  have no : x ∉ upL n gone := fun z => (upL_mem.mp z).2 hx
  refine ⟨asc_ext (turn_asc (upL_asc _ _)) (upL_asc _ _) fun y => ?_, no⟩
  have hy : y ∈ gone ↔ y = x ∨ y ∈ gone.eraseIdx k := by rw [← pm.mem_iff, List.mem_cons]
  have hxe : x ∉ gone.eraseIdx k := (List.nodup_cons.mp nd2).1
  simp only [turn_mem, upL_mem, hy]
  constructor
  · rintro (⟨⟨a, b⟩, c⟩ | ⟨rfl, c⟩)
    · exact ⟨a, fun z => b (.inr z)⟩
    · exact ⟨lt _ hx, hxe⟩
  · rintro ⟨a, b⟩
    by_cases e : y = x
    · exact .inr ⟨e, fun z => no (upL_mem.mpr z)⟩
    · exact .inl ⟨⟨a, fun z => z.elim e b⟩, e⟩
theorem upL_len {n : Nat} {gone : List Nat} (nd : gone.Nodup) (lt : ∀ y ∈ gone, y < n) : (upL n gone).length + gone.length = n := by
  have p : (upL n gone ++ gone).Perm (List.range' 0 n) := by
    refine (List.perm_ext_iff_of_nodup (List.nodup_append.mpr ⟨asc_nodup (upL_asc _ _), nd, fun a ha b hb e => (upL_mem.mp ha).2 (by rw [e]; exact hb)⟩) (asc_nodup (asc_range' n 0))).mpr fun y => ?_
    rw [List.mem_append, upL_mem, mem_range0]
    constructor
    · rintro (h | h)
      · exact h.1
      · exact lt y h
    · intro h
      by_cases c : y ∈ gone
      · exact .inr c
      · exact .inl ⟨h, c⟩
  have := p.length_eq
  rw [List.length_append, List.length_range'] at this
  exact this
theorem tIf_split {c : TT} {t u : TS} {D : _} {σ : L2.St} {H : Hp} (R : Bool → Hp → Prop) (h1 : ∀ Q : Bool → Hp → Prop, (∀ b H1, R b H1 → Q b H1) → c σ H Q) (h2 : ∀ b H1, R b H1 → if b = true then t D σ H1 else u D σ H1) : tIfS c t u D σ H := h1 _ h2
/-! ### a desk of the text of a cluster -/
theorem gone_facts {n fl : Nat} {L : List Nat} (a : Asc L) (lt : ∀ x ∈ L, x < n) (few : n ≤ L.length + fl) : Asc (goneL n L) ∧ (∀ x ∈ goneL n L, x < n) ∧ (goneL n L).length ≤ fl := by
  refine ⟨(asc_range' n 0).sublist List.filter_sublist, fun x hx => mem_range0.mp (List.mem_filter.mp hx).1, ?_⟩
  have h := upL_len (n := n) (asc_nodup a) lt
  have e : upL n L = goneL n L := rfl
  rw [e] at h
  omega
theorem desk_ok {C CC : Addr} {K : PySem.W.Frag} {H : Hp} {d ddx : Addr} {n fl fa c : Nat} {L : List Nat} {Q : VK} {E : XK} (ok : CluOk n fl fa c L) (c40 : c < 10 ^ 40) (nd : H d = none) (nddx : H ddx = none) (ned : ddx ≠ d)
    (q : ∀ H' p pl, Same H H' → H p = none → H pl = none → DeskAt C CC H' d p pl n fl fa c L [] → Q .non H') : spDesk57 K C CC [.ref d, .str (clusT n fl fa c L)] (upd (upd H ddx (.own d)) d (.ins C ddx [])) Q E := by
  have n60 := ok.std.n60
  have fl60 : fl ≤ 60 := by have := ok.fn; omega
  have fa60 : fa ≤ 60 := by have := ok.an; omega
  have k40 : ∀ k : Nat, k ≤ 60 → k < 10 ^ 40 := fun k hk => big60' hk
  obtain ⟨g1, g2, g3⟩ := gone_facts ok.asc ok.lt ok.few
  obtain ⟨tl, ts100⟩ := clusT_len (L := L) n60 fl60 fa60 c40
  have s1 : Same H (upd H ddx (.own d)) := same_new nddx
  have nd1 : (upd H ddx (.own d)) d = none := by rw [upd_ne ned.symm]; exact nd
  have s2 : Same H (upd (upd H ddx (.own d)) d (.ins C ddx [])) := s1.trans (same_new nd1)
  have hd : (upd (upd H ddx (.own d)) d (.ins C ddx [])) d = some (.ins C ddx []) := upd_same
  generalize upd (upd H ddx (.own d)) d (.ins C ddx []) = H1 at s2 hd ⊢
  refine ⟨d, ddx, _, rfl, hd, _, _, _, n, fl, fa, c, goneL n L, rfl, tl, split_clus n fl fa c L, fields_headT (k40 n n60) (k40 fl fl60) (k40 fa fa60) c40, ⟨ok.n2, n60, ok.f1, ok.fn, ok.a1, ok.an, ok.std⟩, ts100, dead_back g1 g2 n60 g3, Nat.le_trans g3 fl60, fun H2 p pl s3 np npl B => ?_⟩
  rw [goneL_twice ok.asc ok.lt] at B
  refine ⟨p, rfl, s3 _ _ hd, ?_⟩
  have ne : d ≠ p := fun z => by rw [← z, hd] at np; cases np
  have npl2 : d ≠ pl := fun z => by rw [← z, hd] at npl; cases npl
  have hd2 := s3 _ _ hd
  have s4 : Same H (upd H2 d (.ins C ddx [("cluster", .ref p)])) := fun b o e => by
    rw [upd_ne (ne_of_none e nd)]
    exact s3 _ _ (s2 _ _ e)
  refine q _ p pl s4 (s2.free np) (s2.free npl) ⟨⟨ddx, upd_same⟩, ?_, ok, .nil ok.asc ok.lt ok.few⟩
  obtain ⟨⟨dx, t1, h1, h2⟩, us, h3, h4⟩ := B
  have k : ∀ b x, b ≠ d → H2 b = some x → (upd H2 d (.ins C ddx [("cluster", .ref p)])) b = some x := fun b x z e => by rw [upd_ne z]; exact e
  exact ⟨⟨dx, t1, k _ _ ne.symm h1, k _ _ (fun z => by rw [z, hd2] at h2; cases h2) h2⟩, us, k _ _ npl2.symm h3, h4.same fun u xs e => k _ _ (fun z => by rw [z, hd2] at e; cases e) e⟩
/-- all servers live -/
theorem gone_all (n : Nat) : goneL n (List.range' 0 n) = [] := by
  unfold goneL
  rw [List.filter_eq_nil_iff]
  exact fun x hx => by simpa using hx
theorem clus_all (n fl fa c : Nat) : (("cluster " : Str) ++ Txt.join blankS [natS n, natS fl, natS fa, natS c]) ++ ("\ndead -" : Str) = clusT n fl fa c (List.range' 0 n) := by
  have h := clus_put (n := n) (fl := fl) (fa := fa) (c := c) (ds := [])
  rw [if_pos rfl] at h
  have e : ("\ndead " : Str) ++ Txt.join blankS [dashS] = ("\ndead -" : Str) := by decide +kernel
  have as : ∀ a b d : Str, (a ++ b) ++ d = a ++ (b ++ d) := fun a b d => tl_inj52 (by rw [TL.tl_append, TL.tl_append, TL.tl_append, TL.tl_append, List.append_assoc])
  rw [as, e] at h
  rw [h]
  unfold clusT
  rw [gone_all]
theorem all_ok {n fl fa c : Nat} (n2 : 2 ≤ n) (f1 : 1 ≤ fl) (fn : fl < n) (a1 : 1 ≤ fa) (an : fa ≤ n) (st : Std n (min n (fl + fa)) c) (big : c < 2 ^ 500) : CluOk n fl fa c (List.range' 0 n) :=
  ⟨n2, f1, fn, a1, an, st, big, asc_range' n 0, fun x hx => mem_range0.mp hx, by rw [List.length_range']; omega⟩
/-! ### data while tables grow -/
section
variable {K : PySem.W.Frag} {H H' : Hp}
mutual
theorem Dp.ext (e : LamX.ExtN H H') : ∀ {d : PyData} {v : V}, Dp K H v d → Dp K H' v d
  | .none, _, h => by cases h; exact .non
  | .bool _, _, h => by cases h; exact .bl _
  | .int _, _, h => by cases h; exact .int _
  | .str _, _, h => by cases h; exact .str _
  | .list ds, _, h => by
    cases h with
    | lst hs ha => exact .lst (SqL_extN hs e) (DpAll.ext e ha)
  | .tuple ds, _, h => by
    cases h with
    | tup hs ha => exact .tup (SqT_extN hs e) (DpAll.ext e ha)
  | .dict _, _, h => by cases h
theorem DpAll.ext (e : LamX.ExtN H H') : ∀ {ds : List PyData} {vs : List V}, DpAll K H vs ds → DpAll K H' vs ds
  | [], _, h => by cases h; exact .nil
  | d :: ds, _, h => by
    cases h with
    | cons h1 h2 => exact .cons (Dp.ext e h1) (DpAll.ext e h2)
end
theorem ItemS.ext {v : V} {d : PyData} (e : LamX.ExtN H H') (h : ItemS K H v d) : ItemS K H' v d := by
  rcases h with ⟨h, h2⟩ | ⟨e1, p, e2, h⟩
  · exact .inl ⟨Dp.ext e h, h2⟩
  · exact .inr ⟨e1, p, e2, e _ _ h (fun _ z => by cases z)⟩
theorem TyX.ext {v : V} {t : Value} (e : LamX.ExtN H H') (h : TyX K H v t) : TyX K H' v t := by
  cases h with
  | base h =>
    cases h with
    | non => exact .base .non
    | bl x => exact .base (.bl x)
    | int i => exact .base (.int i)
    | str x => exact .base (.str x)
    | flt x => exact .base (.flt x)
    | lst z => exact .base (.lst (e _ _ z (fun _ q => by cases q)))
    | frz z => exact .base (.frz (e _ _ z (fun _ q => by cases q)))
    | tup z => exact .base (.tup (e _ _ z (fun _ q => by cases q)))
    | dK z => exact .base (.dK (e _ _ z (fun _ q => by cases q)))
    | dT z => exact .base (.dT (e _ _ z (fun _ q => by cases q)))
    | ins z a1 a2 a3 a4 a5 => exact .base (.ins (e _ _ z (fun _ q => by cases q)) a1 a2 a3 a4 a5)
  | byt b => exact .byt b
  | set z => exact .set (e _ _ z (fun _ q => by cases q))
  | kList a b => exact .kList a b
  | kTuple a b => exact .kTuple a b
  | kDict a b => exact .kDict a b
  | fTuple z => exact .fTuple (e _ _ z (fun _ q => by cases q))
  | fDict z => exact .fDict (e _ _ z (fun _ q => by cases q))
theorem CountV.ext {v : V} {o : Option Int} (e : LamX.ExtN H H') (h : CountV K H v o) : CountV K H' v o := by
  rcases h with h | ⟨h1, t, h2, h3, h4⟩
  · exact .inl h
  · exact .inr ⟨h1, t, h2, h3, TyX.ext e h4⟩
end
theorem pair_show {K : PySem.W.Frag} {H : Hp} {x : Addr} {nm : Str} {v : V} {d : PyData} (hx : H x = some (.tup [.str nm, v])) (hd : ItemS K H v d) (hs : Sh 0 100 (.str nm)) (h1 : (PyData.tuple [.str nm, .dict []]).showable = true) (h2 : (PyData.tuple [.str nm, .dict []]).shown.length ≤ sizeLine) : ShowV K H (.ref x) (.tuple [.str nm, d]) := by
  rcases hd with ⟨h, s⟩ | ⟨rfl, p, rfl, hp⟩
  · exact .inl ⟨.tup (SqT.of hx) (.cons (.str _) (.cons h .nil)), (Sh.tup (ShAll.cons (hs.mono (Nat.zero_le 50) (Nat.le_refl _)) (ShAll.cons s (ShAll.nil.mono (Nat.zero_le 50) (Nat.le_refl 0))))).mono (by decide) (by decide)⟩
  · exact .inr ⟨x, rfl, .tup (SqT.of hx) (.cons (.str _) (.cons (.dic hp) .nil)), h1, by show max 0 (max 1 0) + 1 ≤ 60; decide, h2⟩
/-- names of outcomes, each fit to be shown -/
def NmOk (nm : Str) : Prop := Sh 0 100 (.str nm) ∧ (PyData.tuple [.str nm, .dict []]).showable = true ∧ (PyData.tuple [.str nm, .dict []]).shown.length ≤ sizeLine
theorem nm_ret : NmOk "returned" := ⟨⟨by decide +kernel, by decide +kernel, by decide +kernel, by decide +kernel, by decide +kernel⟩, by decide +kernel, by decide +kernel⟩
theorem nm_NoN : NmOk "NoNumber" := ⟨⟨by decide +kernel, by decide +kernel, by decide +kernel, by decide +kernel, by decide +kernel⟩, by decide +kernel, by decide +kernel⟩
theorem nm_NotL : NmOk "NotLive" := ⟨⟨by decide +kernel, by decide +kernel, by decide +kernel, by decide +kernel, by decide +kernel⟩, by decide +kernel, by decide +kernel⟩
theorem nm_NotD : NmOk "NotDead" := ⟨⟨by decide +kernel, by decide +kernel, by decide +kernel, by decide +kernel, by decide +kernel⟩, by decide +kernel, by decide +kernel⟩
theorem nm_TooF : NmOk "TooFew" := ⟨⟨by decide +kernel, by decide +kernel, by decide +kernel, by decide +kernel, by decide +kernel⟩, by decide +kernel, by decide +kernel⟩
theorem nm_NotP : NmOk "NotPossible" := ⟨⟨by decide +kernel, by decide +kernel, by decide +kernel, by decide +kernel, by decide +kernel⟩, by decide +kernel, by decide +kernel⟩
theorem nm_NoC : NmOk "NoCluster" := ⟨⟨by decide +kernel, by decide +kernel, by decide +kernel, by decide +kernel, by decide +kernel⟩, by decide +kernel, by decide +kernel⟩
/-! ### three tables -/
theorem hu3a {P P2 P3 : Addr} {q q2 q3 : Str} (n2 : P ≠ P2) (n3 : P ≠ P3) : ∀ p ∈ [(P, q), (P2, q2), (P3, q3)], p.1 = P → p.2 = q := fun p hp e => by
  simp only [List.mem_cons, List.not_mem_nil, or_false] at hp
  rcases hp with rfl | rfl | rfl
  · rfl
  · exact absurd e.symm n2
  · exact absurd e.symm n3
theorem hu3b {P P2 P3 : Addr} {q q2 q3 : Str} (n1 : P ≠ P2) (n3 : P2 ≠ P3) : ∀ p ∈ [(P, q), (P2, q2), (P3, q3)], p.1 = P2 → p.2 = q2 := fun p hp e => by
  simp only [List.mem_cons, List.not_mem_nil, or_false] at hp
  rcases hp with rfl | rfl | rfl
  · exact absurd e n1
  · rfl
  · exact absurd e.symm n3
theorem hu3c {P P2 P3 : Addr} {q q2 q3 : Str} (n1 : P ≠ P3) (n2 : P2 ≠ P3) : ∀ p ∈ [(P, q), (P2, q2), (P3, q3)], p.1 = P3 → p.2 = q3 := fun p hp e => by
  simp only [List.mem_cons, List.not_mem_nil, or_false] at hp
  rcases hp with rfl | rfl | rfl
  · exact absurd e n1
  · exact absurd e n2
  · rfl
/-! ### the desk beside the cluster, judged -/
theorem join_two (y a b : Str) : (Txt.join y [a, b]).length = a.length + (y.length + b.length) := by
  rw [TL.len_tl, TL.join_eq, TL.tl_join]
  show (TL.tl a ++ (TL.tl y ++ TL.tl b)).length = _
  rw [List.length_append, List.length_append]
  rfl
theorem textS_len {n fl fa c : Nat} {L : List Nat} (n60 : n ≤ 60) (fl60 : fl ≤ 60) (fa60 : fa ≤ 60) (cb : c < 2 ^ 500) : (textS n fl fa c L).length ≤ 60000 := by
  rw [text_eq, split_clus, join_two]
  have h := clusT_short (L := L) n60 fl60 fa60 cb
  have e : (clusT n fl fa c L).length = (headT n fl fa c).length + (lineS.length + (deadT (goneL n L)).length) := join_two _ _ _
  have e2 : barS.length = 3 := by decide +kernel
  omega
theorem ans_sh {n fl fa c : Nat} {L : List Nat} {qs : List (Nat × Nat)} (ok : CluOk n fl fa c L) (led : LedA n fl L qs) (lq : qs.length ≤ 100000) {z : Str} {ks : List Nat} (h : ∀ k ∈ ks, k < 10 ^ 40) : AnsSh (ansW n fl fa c L qs z ks) := by
  have n60 := ok.std.n60
  have fl60 : fl ≤ 60 := by have := ok.fn; omega
  have fa60 : fa ≤ 60 := Nat.le_trans ok.an n60
  have nat : ∀ {m : Nat}, m < 2 ^ 1000 → OkS (natS m) ∧ (natS m).length ≤ 70000 := fun hm => ⟨OkS.nat _, Nat.le_trans (natS_small hm) (by decide)⟩
  have row : ∀ {r : List Nat}, r.length ≤ 60 → (∀ x ∈ r, x < 60) → OkS (rowS r) ∧ (rowS r).length ≤ 70000 := fun h1 h2 => ⟨row_ok, Nat.le_trans (rowS_len h1 h2) (by decide)⟩
  have b510 : ∀ {m : Nat}, m ≤ 2 ^ 510 → m < 2 ^ 1000 := fun h => Nat.lt_of_le_of_lt h (by decide +kernel)
  match ks, h with
  | [], _ =>
    show AnsSh (ansA n fl fa c L qs z)
    unfold ansA
    split
    · exact row ok.sixty fun x hx => Nat.lt_of_lt_of_le (ok.lt x hx) n60
    split
    · exact nat (Nat.lt_trans (led.big lq) (by decide +kernel))
    split
    · exact nat (Nat.lt_of_le_of_lt lq (by decide +kernel))
    split
    · cases e : qs.getLast? with
      | none => trivial
      | some q =>
        obtain ⟨rs, rfl⟩ := List.getLast?_eq_some_iff.mp e
        exact nat (Nat.lt_of_lt_of_le led.pop.2 (Nat.le_trans n60 (by decide +kernel)))
    · exact ⟨text_ok, Nat.le_trans (textS_len n60 fl60 fa60 ok.big) (by decide)⟩
  | [k], h =>
    have hk := h k List.mem_cons_self
    show AnsSh (ansB n fl fa c L qs z k)
    unfold ansB
    split
    · split
      · split
        · exact nat (b510 (failC_big fa60 ok.big))
        · exact Nat.lt_of_le_of_lt ok.sixty (by decide +kernel)
      · exact hk
    split
    · split
      · exact nat (b510 (loadC_big fa60 ok.big))
      · exact hk
    split
    · split
      · exact nat (b510 (loadC_big fa60 ok.big))
      · exact hk
    split
    · split
      · rename_i hc
        exact row (Nat.le_trans (List.length_take_le _ _) fa60) fun y hy => Nat.lt_of_lt_of_le (path_lt ok.std hc y (List.mem_filter.mp (List.mem_of_mem_take hy)).1) n60
      · exact hk
    · split
      · rename_i hc
        exact row (by rw [path_len]; omega) fun y hy => Nat.lt_of_lt_of_le (path_lt ok.std hc y hy) n60
      · exact hk
  | k :: x :: _, h =>
    have hk := h k List.mem_cons_self
    have hx := h x (List.mem_cons_of_mem _ List.mem_cons_self)
    show AnsSh (ansC n fl fa c L qs k x)
    unfold ansC
    split
    · split
      · split
        · split
          · exact ⟨OkS.of (by decide +kernel), by decide +kernel⟩
          · unfold sucV
            split
            · refine nat ?_
              rw [List.getD_eq_getElem?_getD]
              cases g : (inL L (path n (min n (fl + fa)) c k).1)[fa]? with
              | none => exact (by decide +kernel : 0 < 2 ^ 1000)
              | some y => exact Nat.lt_of_lt_of_le (path_lt ok.std (by assumption) y (List.mem_filter.mp (List.mem_of_getElem? g)).1) (Nat.le_trans n60 (by decide +kernel))
            · exact ⟨OkS.of (by decide +kernel), by decide +kernel⟩
        · exact Nat.lt_of_le_of_lt ok.sixty (by decide +kernel)
      · exact hx
    · exact hk
/-- the live servers and changes behind an answer -/
def afterA (a : Ans) (L : List Nat) (qs : List (Nat × Nat)) : List Nat × List (Nat × Nat) := match a with
  | .ok _ L' qs' => (L', qs')
  | _ => (L, qs)
/-- the heap behind an answer -/
def Went (C : Addr) (p pl : Addr) (n fl fa c : Nat) (H H7 : Hp) : Ans → Prop
  | .ok _ L' qs' => ∃ H1, But2 p pl H H1 ∧ CluB C H1 p pl n fl fa c L' qs' ∧ Same H1 H7
  | _ => Same H H7
theorem out_ansq {K : PySem.W.Frag} {mg : Str → Option Value} (T : Txt K mg) {C p pl : Addr} {n fl fa c : Nat} {H6 : Hp} {Q Q' : VK} (a : Ans)
    (hq : ∀ v H1, (∀ H2 x, Same H1 H2 → H1 x = none → H2 x = some (.tup [.str "returned", v]) → Q (.ref x) H2) → Q' v H1)
    (fin : ∀ H7 y, Went C p pl n fl fa c H6 H7 a → H7 y = some (.tup [.str (outN a).1, (outN a).2]) → Q (.ref y) H7) : AnsQ ⟨T.cNoN, T.cNotL, T.cNotD, T.cTooF, T.cNoU⟩ C p pl n fl fa c H6 Q' (EOutL T Q) a := by
  cases a with
  | ok s L' qs' => exact fun H7 b7 B7 => hq _ H7 fun H8 y s8 ny hy => fin H8 y ⟨H7, b7, B7, s8⟩ hy
  | noN k => exact fun H' dd s1 hdd ndd => ⟨"NoNumber", _, .inr (.inl ⟨rfl, rfl, dd, rfl, hdd⟩), fun H8 y s8 ny hy => fin H8 y (s1.trans s8) hy⟩
  | notL k => exact fun H' dd s1 hdd ndd => ⟨"NotLive", _, .inr (.inr (.inl ⟨rfl, rfl, dd, rfl, hdd⟩)), fun H8 y s8 ny hy => fin H8 y (s1.trans s8) hy⟩
  | notD k => exact fun H' dd s1 hdd ndd => ⟨"NotDead", _, .inr (.inr (.inr (.inl ⟨rfl, rfl, dd, rfl, hdd⟩))), fun H8 y s8 ny hy => fin H8 y (s1.trans s8) hy⟩
  | tooF k => exact fun H' dd s1 hdd ndd => ⟨"TooFew", _, .inr (.inr (.inr (.inr (.inl ⟨rfl, rfl, dd, rfl, hdd⟩)))), fun H8 y s8 ny hy => fin H8 y (s1.trans s8) hy⟩
  | noU => exact fun H' s1 => ⟨"NoUndo", _, .inr (.inr (.inr (.inr (.inr ⟨rfl, rfl, rfl, rfl⟩)))), fun H8 y s8 ny hy => fin H8 y (s1.trans s8) hy⟩
section
variable {tabs : List (Addr × Str)} {C CC : Addr} {H0 H H' : Hp} {p0 t p1 pl1 d p2 pl2 : Addr} {n fl fa c : Nat} {L1 L2 L' : List Nat} {qs1 qs2 qs' : List (Nat × Nat)}
theorem R54.went1 (S : R54 tabs C CC H0 H p0 t p1 pl1 d p2 pl2 n fl fa c L1 qs1 L2 qs2) {a : Ans} (w : Went CC p1 pl1 n fl fa c H H' a) : R54 tabs C CC H0 H' p0 t p1 pl1 d p2 pl2 n fl fa c (afterA a L1 qs1).1 (afterA a L1 qs1).2 L2 qs2 := by
  cases a with
  | ok s L' qs' =>
    obtain ⟨H1, b, B, s1⟩ := w
    exact (S.one b B).same s1
  | noN _ => exact S.same w
  | notL _ => exact S.same w
  | notD _ => exact S.same w
  | tooF _ => exact S.same w
  | noU => exact S.same w
theorem R54.went2 (S : R54 tabs C CC H0 H p0 t p1 pl1 d p2 pl2 n fl fa c L1 qs1 L2 qs2) {z : Str} {ks : List Nat} (w : Went CC p2 pl2 n fl fa c H H' (ansW n fl fa c L2 qs2 z ks)) : R54 tabs C CC H0 H' p0 t p1 pl1 d p2 pl2 n fl fa c L1 qs1 (afterA (ansW n fl fa c L2 qs2 z ks) L2 qs2).1 (afterA (ansW n fl fa c L2 qs2 z ks) L2 qs2).2 ∧ (afterA (ansW n fl fa c L2 qs2 z ks) L2 qs2).2.length ≤ qs2.length + 1 := by
  have k := ans_keep S.dsk.ok S.dsk.led z ks
  cases e : ansW n fl fa c L2 qs2 z ks with
  | ok s L' qs' =>
    rw [e] at w k
    obtain ⟨H1, b, B, s1⟩ := w
    exact ⟨(S.two b (S.dsk.on b B k.1 k.2.1)).same s1, k.2.2⟩
  | noN _ => rw [e] at w; exact ⟨S.same w, Nat.le_succ _⟩
  | notL _ => rw [e] at w; exact ⟨S.same w, Nat.le_succ _⟩
  | notD _ => rw [e] at w; exact ⟨S.same w, Nat.le_succ _⟩
  | tooF _ => rw [e] at w; exact ⟨S.same w, Nat.le_succ _⟩
  | noU => rw [e] at w; exact ⟨S.same w, Nat.le_succ _⟩
theorem went_tup {p pl x : Addr} {xs : List V} {L : List Nat} {qs : List (Nat × Nat)} {a : Ans} (B : CluB CC H p pl n fl fa c L qs) (w : Went CC p pl n fl fa c H H' a) (h : H x = some (.tup xs)) : H' x = some (.tup xs) := by
  cases a with
  | ok s L' qs' =>
    obtain ⟨H1, b, _, s1⟩ := w
    exact s1 _ _ (tup_but2 B b h)
  | noN _ => exact w _ _ h
  | notL _ => exact w _ _ h
  | notD _ => exact w _ _ h
  | tooF _ => exact w _ _ h
  | noU => exact w _ _ h
end
def spRight54 (K : PySem.W.Frag) (tabs : List (Addr × Str)) : Sp := fun vs H Q _ => ∃ (p0 t : Addr) (n fl fa c turns : Nat), vs = [.ref p0, .ref t, .int (turns : Int)] ∧ StrAt H p0 ∧ H t = some (.tup [V.int n, V.int fl, V.int fa, V.int c]) ∧ 2 ≤ n ∧ 1 ≤ fl ∧ fl < n ∧ 1 ≤ fa ∧ fa ≤ n ∧ Std n (min n (fl + fa)) c ∧ c < 10 ^ 38 ∧ turns ≤ 30 ∧ LamX.Tabs tabs H ∧
  ∀ H', (∀ b o, b ≠ p0 → H b = some o → (∀ ps, o ≠ .tbl ps) → H' b = some o) → StrAt H' p0 → LamX.Tabs tabs H' → Q (.bl true) H'
section
variable {P : Program} {w : World} {K : PySem.W.Frag} {mg : Str → Option Value} {base : Heap}
theorem ok_right54 (T : Txt K mg) {es : Array DictEntry} {en : Nat} (D : FormsD K w T.dForms es en) (B : TBs T base) {j : Nat} : FnG P w K mg base CX0 (j + 14) T.fRight54 T.fdRight54 ["_law_stream_here", "_law_sizes_here", "_law_turns"] (spRight54 K (tabsOf T)) := by
  refine Fun_ok0C T.FRight54 T.coRight54 scRight54 (fun vs H Q E h => ?_) (fun A outer s H vs Q E gd hr h => ?_)
  · obtain ⟨p0, t, n, fl, fa, c, turns, rfl, _⟩ := h
    rfl
  · obtain ⟨p0, t, n, fl, fa, c, turns, rfl, P0, hT, n2, f1, fn, a1, an, st, c38, lt30, tab, q⟩ := h
    have hu66 : (A.deeper (envOfC "_law_right" (defScope sRight54) s.heap.objs.size T.fRight54 (.ref T.ccRight54))).units + 66 < cLine := by
      have := hr.un
      omega
    refine ⟨_, pss_cons (ps_asg (pv 1) (pg_tup rfl (pgs_cons (pg_name (i := 3) scRight54.nd rfl (.inl rfl)) (pgs_cons (pg_name (i := 4) scRight54.nd rfl (.inl rfl)) (pgs_cons (pg_name (i := 5) scRight54.nd rfl (.inl rfl)) (pgs_cons (pg_name (i := 6) scRight54.nd rfl (.inl rfl)) pgs_nil)))))) (pss_cons (ps_set (i := 7) scRight54.nd rfl (.inr rfl) (pe_make T.mkClu (ok_cluinit T) hr (by rfl) T.gcClu T.bCluInit .nil passF (pa_cons (pv 3) (pa_cons (pv 4) (pa_cons (pv 5) (pa_cons (pv 6) pa_nil)))))) (pss_cons (ps_set (i := 8) scRight54.nd rfl (.inr rfl) (pe_make T.mkDesk (ok_deskinit T) hr (by rfl) T.gcDesk T.bDeskInit .nil passF (pa_cons (pe_op op_add_str (pe_op op_add_str pe_str (pe_call (ok_words54 T) hr (by rfl) T.gWords54 T.FWords54.kp T.bWords54 .nil pass0 (pa_cons (pv 1) pa_nil))) pe_str) pa_nil))) (pss_cons (ps_for PassesOwn.never rfl (pi_range1 (by rfl) T.n_range (pa_cons (pv 2) pa_nil)) (pg_name (i := 9) scRight54.nd rfl (.inl rfl)) (pss_cons (ps_set (i := 10) scRight54.nd rfl (.inr rfl) (pe_call (ok_line54 T) hr (by rfl) T.gLine54 T.FLine54.kp T.bLine54 .nil pass0 (pa_cons (pv 0) (pa_cons (pv 1) pa_nil)))) (C8.pss_cut (ps_if (pt_cmpR op_eq (pe_ix (ix_tupK K) (pv 10) pe_int (fun _ _ => rfl)) pe_str (nomark _)) (pss_one (ps_set (i := 11) scRight54.nd rfl (.inl rfl) (pe_call (ok_list54 T) hr (by rfl) T.gList54 T.FList54.kp T.bList54 .nil pass0 (pa_cons (pv 1) (pa_cons (pe_ix (ix_tupK K) (pv 10) pe_int (fun _ _ => rfl)) pa_nil))))) (pss_one (ps_set (i := 11) scRight54.nd rfl (.inl rfl) (pe_lam (T := tabsOf T) T.FLOut54 (by rfl) T.gLOut54 T.bLOut54 scLOut54 rfl (Or.inl rfl) (fun cdg => gives_lout54 T rfl rfl) B.tbRight54 rfl (.head _) hu1 hr (LamX.lamS_by (sc := defScope sRight54) (by decide +kernel)) (fun A outer s H E f c' hr => (pe_call (ok_answ54 T) hr (by rfl) T.gAnsw54 T.FAnsw54.kp T.bAnsw54 .nil (passes_call (takes_of rfl rfl rfl rfl) (fun _ _ _ _ h => h)) (pa_cons (pv 7) (pa_cons (pv 10) pa_nil)))))))) (pss_cons (ps_set (i := 12) scRight54.nd rfl (.inl rfl) (pe_lam (T := tabsOf T) T.FLOut54 (by rfl) T.gLOut54 T.bLOut54 scLOut54 rfl (Or.inl rfl) (fun cdg => gives_lout54 T rfl rfl) B.tbRight54 rfl (.head _) hu1 hr (LamX.lamS_by (sc := defScope sRight54) (by decide +kernel)) (fun A outer s H E f c' hr => (pe_meth (pv 8) T.clDesk T.mtDeskSay (ok_desksay T D) hr T.bDeskSay .nil (passes_call (takes_of rfl rfl rfl rfl) (fun _ _ _ _ h => h)) (pa_cons (pe_call (ok_words54 T) hr (by rfl) T.gWords54 T.FWords54.kp T.bWords54 .nil pass0 (pa_cons (pv 10) pa_nil)) pa_nil))))) (pss_cons (ps_if (pt_cmpR op_ne (pe_callB (call_reprZ K gd hu66) (by rfl) T.n_repr (by decide +kernel) (pa_cons (pv 12) pa_nil)) (pe_callB (call_reprZ K gd hu66) (by rfl) T.n_repr (by decide +kernel) (pa_cons (pv 11) pa_nil)) (nomark _)) (pss_one (ps_ret pe_bl)) pss_nil) (pss_one (ps_if (PW.pt (pw_or (pt_cmpR op_ne (pe_meth (pv 8) T.clDesk T.mtDeskSay (ok_desksay T D) hr T.bDeskSay .nil passF (pa_cons pe_str pa_nil)) (pe_call (ok_words54 T) hr (by rfl) T.gWords54 T.FWords54.kp T.bWords54 .nil pass0 (pa_cons (pe_meth0 (pv 7) T.clClu T.mtCluLive (ok_clulive T) hr T.bCluLive .nil pass0) pa_nil)) (nomark _)) (pw_or1 (pt_cmpR op_ne (pe_meth (pv 8) T.clDesk T.mtDeskSay (ok_desksay T D) hr T.bDeskSay .nil passF (pa_cons pe_str pa_nil)) (pe_callTy call_str_int (by rfl) T.n_str (by decide +kernel) (pa_cons (pe_meth0 (pv 7) T.clClu T.mtCluChanges (ok_cluchanges T) hr T.bCluChanges .nil pass0) pa_nil)) (nomark _))))) (pss_one (ps_ret pe_bl)) pss_nil))))))) (pss_one (ps_ret pe_bl))))), ?_⟩
    refine ⟨.ref t, rfl, t, _, rfl, SqT.of hT, rfl, _, _, rfl, _, _, rfl, _, _, rfl, _, _, rfl, rfl, ?_⟩
    have n60 := st.n60
    have fl60 : fl ≤ 60 := by omega
    have fa60 : fa ≤ 60 := by omega
    have c500 : c < 2 ^ 500 := Nat.lt_trans c38 (by decide +kernel)
    have c40 : c < 10 ^ 40 := Nat.lt_trans c38 (by decide +kernel)
    have ok0 := all_ok n2 f1 fn a1 an st c500
    refine ⟨_, rfl, _, rfl, _, rfl, _, rfl, fun p1 dx np1 ndx nex => ?_⟩
    refine cluInit_ok upd_same n2 f1 fn a1 an st fun H1 pl1 b1 npl1 B1 => ⟨rfl, ?_⟩
    have s1 := made_same np1 ndx b1
    have npl1' := made_free npl1 np1 ndx
    have k1000 : ∀ k : Nat, k < 10 ^ 40 → k < 2 ^ 1000 := fun k hk => Nat.lt_trans hk (by decide +kernel)
    have k40 : ∀ k : Nat, k ≤ 60 → k < 10 ^ 40 := fun k hk => big60' hk
    have e1 : ("cluster " : Str).length = 8 := by decide +kernel
    have e2 : ("\ndead -" : Str).length = 7 := by decide +kernel
    have app : ∀ a b : Str, (a ++ b).length = a.length + b.length := fun a b => Array.size_append
    have l40 : ∀ x, x < 10 ^ 40 → (natS x).length ≤ 40 := fun x hx => natS_len (by decide) hx
    have j1 := join_len blankS [natS n, natS fl, natS fa, natS c]
    have w1 := l40 n (k40 n n60)
    have w2 := l40 fl (k40 fl fl60)
    have w3 := l40 fa (k40 fa fa60)
    have w4 := l40 c c40
    simp only [List.map_cons, List.map_nil, List.sum_cons, List.sum_nil, List.length_cons, List.length_nil, show blankS.length = 1 by decide +kernel] at j1
    refine ⟨.ref t, rfl, t, _, [natS n, natS fl, natS fa, natS c], rfl, SqT.of (s1 _ _ hT), .cons (.inr ⟨n, rfl, k1000 n (k40 n n60), rfl⟩) (.cons (.inr ⟨fl, rfl, k1000 fl (k40 fl fl60), rfl⟩) (.cons (.inr ⟨fa, rfl, k1000 fa (k40 fa fa60), rfl⟩) (.cons (.inr ⟨c, rfl, k1000 c c40, rfl⟩) .nil))), (by show 4 ≤ 1000; decide), fun w hw => ?_, fun H2 s2 => ?_⟩
    · simp only [List.mem_cons, List.not_mem_nil, or_false] at hw
      rcases hw with rfl | rfl | rfl | rfl <;> omega
    refine ⟨_, _, rfl, rfl, by rw [e1, sizeLine_eq]; omega, _, _, rfl, rfl, by rw [app, e1, e2, sizeLine_eq]; omega, ?_⟩
    rw [clus_all]
    refine fun d ddx nd nddx ned => ?_
    refine desk_ok ok0 c40 nd nddx ned fun H3 p2 pl2 s3 np2 npl2 DA => ⟨rfl, ?_⟩
    have s12 := s1.trans s2
    have s13 := s12.trans s3
    have B2 := B1.same s2
    have P2 := P0.same s12
    have S0 : R54 (tabsOf T) T.cDesk T.cClu H H3 p0 t p1 pl1 d p2 pl2 n fl fa c (List.range' 0 n) [] (List.range' 0 n) [] :=
      ⟨P0.same s13, s13 _ _ hT, B2.same s3, DA, tabs_same tab s13, fun b o _ e _ => s13 _ _ e, ⟨P0.ne np1, P0.ne npl1', P2.ne np2, P2.ne npl2, (B2.nep np2).1.symm, (B2.nep npl2).2.symm⟩, ⟨np1, npl1', s12.free np2, s12.free npl2⟩⟩
    clear s1 s2 s3 s12 s13 B1 B2 P2 b1 npl1 np1 npl1' np2 npl2 nd nddx ned ndx nex DA w1 w2 w3 w4 j1 l40 e1 e2
    refine ⟨_, rfl, turns, rfl, by omega, by omega, ?_⟩
    refine for_range (lo := 0) (fun z σ H' => ∃ (L : List Nat) (qs : List (Nat × Nat)) (v9 v10 v11 v12 : Option V), σ = [some (.ref p0), some (.ref t), some (.int (turns : Int)), some (.int (n : Int)), some (.int (fl : Int)), some (.int (fa : Int)), some (.int (c : Int)), some (.ref p1), some (.ref d), v9, v10, v11, v12] ∧ R54 (tabsOf T) T.cDesk T.cClu H H' p0 t p1 pl1 d p2 pl2 n fl fa c L qs L qs ∧ qs.length ≤ z) ⟨_, [], none, none, none, none, rfl, S0, Nat.zero_le _⟩ ?_ ?_
    rotate_left
    · rintro σ H' ⟨L, qs, v9, v10, v11, v12, rfl, S, lq⟩
      exact q H' S.keep S.str S.tab
    rintro i σ H' hi ⟨L, qs, v9, v10, v11, v12, rfl, S, lq⟩
    have hi : i < 30 := by omega
    have lq' : qs.length ≤ 100000 := by omega
    refine ⟨.ref p0, rfl, .ref t, rfl, p0, t, n, fl, fa, c, rfl, S.str, S.siz, by omega, n60, st.c0, c38, fun H4 x z ks b4 P4 nx hx hl => ?_⟩
    have S4 := S.to b4 P4
    have ok := S.dsk.ok
    have led := S.dsk.led
    clear b4 P4 nx S S0
    have hsh := ans_sh (z := z) (ks := ks) ok led lq' hl.2
    refine ⟨fun σ H5 => ∃ (y : Addr), σ = [some (.ref p0), some (.ref t), some (.int (turns : Int)), some (.int (n : Int)), some (.int (fl : Int)), some (.int (fa : Int)), some (.int (c : Int)), some (.ref p1), some (.ref d), some (.int (0 + (i : Int))), some (.ref x), some (.ref y), v12] ∧ R54 (tabsOf T) T.cDesk T.cClu H H5 p0 t p1 pl1 d p2 pl2 n fl fa c (afterA (ansW n fl fa c L qs z ks) L qs).1 (afterA (ansW n fl fa c L qs z ks) L qs).2 L qs ∧ OutAt H5 (.ref y) (ansW n fl fa c L qs z ks) ∧ H5 x = some (.tup (.str z :: setV ks)), ?_, ?_⟩
    · refine ⟨.ref x, rfl, x, _, 0, V.str z, rfl, rfl, SqT.of hx, L2.atI_nat (j := 0) rfl, rfl, _, rfl, ?_⟩
      rw [str_test]
      refine ite2 (fun hb => ?_) (fun hb => ?_)
      · obtain rfl := of_decide_eq_true hb
        obtain ⟨k, rfl⟩ : ∃ k, ks = [k] := by
          have e := hl.1
          rw [show formsL.lookup ("list" : Str) = some 1 by decide +kernel] at e
          match ks, Option.some.inj e with
          | [k], _ => exact ⟨k, rfl⟩
        refine ⟨.ref t, rfl, .ref x, rfl, x, _, 1, V.int k, rfl, rfl, SqT.of hx, L2.atI_nat (j := 1) rfl, t, n, fl, fa, c, k, L, qs, rfl, SqT.of S4.siz, st, c500, fun H5 y s5 ny hy => ?_⟩
        refine ⟨y, rfl, ?_, ⟨y, rfl, hy⟩, s5 _ _ hx⟩
        have e : afterA (ansW n fl fa c L qs "list" [k]) L qs = (L, qs) := by
          rw [ans_list]
          split <;> rfl
        rw [e]
        exact S4.same s5
      · refine ⟨S4.tab, fun H5 e5 t5 => fun H6 Q' s6 hq => ?_⟩
        have S6 := (S4.ext e5 t5).same s6
        have hx6 := s6 _ _ (e5 _ _ hx (fun _ z => by cases z))
        refine ⟨.ref p1, rfl, .ref x, rfl, p1, pl1, x, n, fl, fa, c, L, qs, z, ks, rfl, hx6, hl.1, fun e => hb (decide_eq_true e), S6.clu, ok, led, lq', ?_⟩
        refine out_ansq T _ hq fun H7 y w hy => ?_
        exact ⟨y, rfl, S6.went1 w, ⟨y, rfl, hy⟩, went_tup S6.clu w hx6⟩
    rintro σ H5 ⟨y, rfl, S5, ho, hx5⟩
    refine ⟨S5.tab, fun H6 e6 t6 => fun H7 Q' s7 hq => ?_⟩
    have S7 := (S5.ext e6 t6).same s7
    have hx7 := s7 _ _ (e6 _ _ hx5 (fun _ z => by cases z))
    obtain ⟨y', ey, hy5⟩ := ho
    obtain rfl : y = y' := by injection ey
    have hy7 := s7 _ _ (e6 _ _ hy5 (fun _ z => by cases z))
    obtain ⟨dxd, hd⟩ := S7.dsk.ob
    have ll := lnS_len hl
    refine ⟨.ref d, rfl, d, dxd, _, rfl, hd, rfl, .ref x, rfl, x, _, z :: ks.map natS, rfl, SqT.of hx7, lnS_words hl.2, by rw [List.length_cons, List.length_map]; have := forms_two hl.1; omega, fun w hw => ?_, fun H8 s8 => ?_⟩
    · rcases List.mem_cons.mp hw with rfl | hw
      · exact Nat.le_trans (forms_words _ (form_mem hl.1)).1 (by decide)
      · obtain ⟨k, hk, rfl⟩ := List.mem_map.mp hw
        exact Nat.le_trans (natS_len (by decide) (hl.2 k hk)) (by decide)
    have S8 := S7.same s8
    have hy8 := s8 _ _ hy7
    refine S8.dsk.say lq' (by rw [sizeLine_eq]; have : (lnS z ks).length = (Txt.join blankS (z :: ks.map natS)).length := rfl; omega) (lnS_line hl) ?_
    refine out_ansq T _ hq fun H9 y2 w hy2 => ?_
    obtain ⟨S9, l9⟩ := S8.went2 w
    have hy9 := went_tup S8.dsk.clu w hy8
    generalize hLa : (afterA (ansW n fl fa c L qs z ks) L qs).1 = La at S9
    generalize hqa : (afterA (ansW n fl fa c L qs z ks) L qs).2 = qa at S9 l9
    have lqa : qa.length ≤ 100000 := by omega
    refine ⟨.ref y2, rfl, .ref y2, outD (ansW n fl fa c L qs z ks), rfl, OutAt.show ⟨y2, rfl, hy2⟩ hsh, .ref y, rfl, .ref y, outD (ansW n fl fa c L qs z ks), rfl, OutAt.show ⟨y, rfl, hy9⟩ hsh, rfl, _, rfl, iteNS rfl ?_⟩
    clear hy9 hy2 w S8 S7 hy8 hy7 hx7 hx5 hy5 hd s8 s7 e6 t6 hq S5 hx S4 hLa hqa
    obtain ⟨dx9, hd9⟩ := S9.dsk.ob
    have okA := S9.dsk.ok
    refine ⟨.ref d, rfl, d, dx9, _, rfl, hd9, rfl, S9.dsk.ask lqa (by decide +kernel) line_live ans_live fun HA bA DA => ?_⟩
    have SA := S9.two bA DA
    obtain ⟨⟨dx1, tl1, g1, g2⟩, _⟩ := id SA.clu
    refine ⟨.ref p1, rfl, p1, dx1, _, rfl, g1, fldC_no (by decide +kernel), p1, pl1, n, fl, fa, c, La, qa, rfl, SA.clu, fun tt htt => ?_⟩
    refine ⟨tt, _, La.map natS, rfl, SqT.of htt, words_nat (fun v hv => Nat.lt_of_lt_of_le (okA.lt v hv) n60), by rw [List.length_map]; have := okA.sixty; omega, fun w hw => (by
      obtain ⟨v, hv, rfl⟩ := List.mem_map.mp hw
      exact Nat.le_trans (natS_short (Nat.le_trans (Nat.le_of_lt (okA.lt v hv)) n60)) (by decide)), fun HB sB => ⟨rfl, _, rfl, iteNS rfl ?_⟩⟩
    have SB := SA.same sB
    obtain ⟨dxB, hdB⟩ := SB.dsk.ob
    refine ⟨.ref d, rfl, d, dxB, _, rfl, hdB, rfl, SB.dsk.ask lqa (by decide +kernel) line_changes ans_changes fun HC bC DC => ?_⟩
    have SC := SB.two bC DC
    obtain ⟨⟨dx2, tl2, f1', f2'⟩, _⟩ := id SC.clu
    refine ⟨.ref p1, rfl, p1, dx2, _, rfl, f1', fldC_no (by decide +kernel), p1, pl1, n, fl, fa, c, La, qa, rfl, SC.clu, _, rfl, nat_str (Nat.lt_of_le_of_lt lqa (by decide +kernel)), rfl, _, rfl, iteNS rfl ?_⟩
    exact ⟨La, qa, _, _, _, _, rfl, SC, by omega⟩
end
/-! ### the law -/
def spLaw (K : PySem.W.Frag) (tabs : List (Addr × Str)) : Sp := fun vs H Q _ => ∃ (a : Addr) (ns : List Int), vs = [.ref a] ∧ SqL K H a (ns.map V.int) ∧ ns.length ≤ 63 ∧ LamX.Tabs tabs H ∧ ∀ H', Q (.bl true) H'
section
variable {P : Program} {w : World} {K : PySem.W.Frag} {mg : Str → Option Value} {base : Heap}
theorem ok_law {f : Addr} {fd : FuncData} (F : Fun K "law" "law" sLaw f fd) (T : Txt K mg) {es : Array DictEntry} {en : Nat} (D : FormsD K w T.dForms es en) (co : True) (B : TBs T base) : FnG P w K mg base CX0 16 f fd ["_law_script"] (spLaw K (tabsOf T)) := by
  refine Fun_ok0 F scLaw (fun vs H Q E h => ?_) (fun cdv A outer s H vs Q E gd hr h => ?_)
  · obtain ⟨a, ns, rfl, _⟩ := h
    rfl
  · obtain ⟨a, ns, rfl, hS, hlen, hT0, q⟩ := h
    refine ⟨_, pss_cons (ps_for PassesOwn.never rfl (pi_range1 (by rfl) T.n_range (pa_cons (pe_callB (call_max2 rfl) (by rfl) T.n_max (by decide +kernel) (pa_cons pe_int (pa_cons (pe_callB (call_min2 rfl) (by rfl) T.n_min (by decide +kernel) (pa_cons pe_int (pa_cons (pe_callB (call_lenK K) (by rfl) T.n_len PySem.boot_len (pa_cons (pv 0) pa_nil)) pa_nil))) pa_nil))) pa_nil)) (pg_name (i := 1) scLaw.nd rfl (.inl rfl)) (pss_cons (ps_set (i := 2) scLaw.nd rfl (.inl rfl) (pe_call (ok_stream T) hr (by rfl) T.gStream T.FStream.kp T.bStream .nil pass0 (pa_cons (pv 0) (pa_cons (pv 1) pa_nil)))) (pss_cons (ps_if (pt_not (pt_val (pe_callG (ok_right54 T D B) gd hr (by rfl) T.gRight54 T.FRight54.kp T.bRight54 pass0 (pa_cons (pv 2) (pa_cons (pe_call (ok_sizess T) hr (by rfl) T.gSizesS T.FSizesS.kp T.bSizesS .nil pass0 (pa_cons (pv 2) (pa_cons pe_int pa_nil))) (pa_cons pe_int pa_nil)))))) (pss_one (ps_ret pe_bl)) pss_nil) (pss_one (ps_if (pt_not (pt_val (pe_callG (ok_right54 T D B) gd hr (by rfl) T.gRight54 T.FRight54.kp T.bRight54 pass0 (pa_cons (pv 2) (pa_cons (pe_call (ok_sizess T) hr (by rfl) T.gSizesS T.FSizesS.kp T.bSizesS .nil pass0 (pa_cons (pv 2) (pa_cons pe_int pa_nil))) (pa_cons pe_int pa_nil)))))) (pss_one (ps_ret pe_bl)) pss_nil))))) (pss_one (ps_ret pe_bl)), ?_⟩
    refine ⟨.ref a, rfl, a, _, rfl, .inl hS, _, _, rfl, _, _, rfl, _, rfl, ?_, ?_, ?_⟩
    · split <;> split <;> omega
    · split <;> split <;> omega
    refine for_range (lo := 0) (fun i σ H2 => ∃ v1 v2, σ = [some (.ref a), v1, v2] ∧ LamX.ExtN H H2 ∧ LamX.Tabs (tabsOf T) H2) ⟨none, none, rfl, LamX.ExtN.refl H, hT0⟩ ?_ ?_
    rotate_left
    · rintro σ H2 ⟨v1, v2, rfl, _⟩
      exact q _
    rintro i σ H2 hi ⟨v1, v2, rfl, e2, tab⟩
    have hi3 : i < 3 := by
      refine Nat.lt_of_lt_of_le hi ?_
      split <;> split <;> omega
    rw [Int.zero_add]
    refine ⟨.ref a, rfl, _, rfl, a, ns, i, rfl, SqL_extN hS e2, by omega, by omega, fun H3 p0 s3 np0 P3 => ?_⟩
    have keepE : ∀ {H' : Hp}, (∀ b o, b ≠ p0 → H2 b = some o → (∀ ps, o ≠ .tbl ps) → H' b = some o) → LamX.ExtN H H' := fun k b o h n => k b o (ne_of_none (e2 b o h n) np0) (e2 b o h n) n
    have tab3 := tabs_same tab s3
    refine ⟨.ref p0, rfl, .ref p0, rfl, p0, 6, rfl, P3, by decide, by decide, fun H4 tz n fl fa qf b4 P4 ntz n2 n6 f1 fn a1 an q1 q2 htz => ?_⟩
    have c38 : ∀ {n d k : Nat}, 1 ≤ n → n ≤ 60 → d ≤ n → k ≤ 2 → leastL n d * k < 10 ^ 38 := fun h1 h2 h3 h4 =>
      Nat.lt_of_le_of_lt (Nat.mul_le_mul (Nat.le_of_lt (leastL_lt h1 h2 h3)) h4) (by decide +kernel)
    obtain ⟨ys3, e3⟩ := P3.lst
    have tab4 := tabs_but tab3 e3 b4
    refine ⟨p0, tz, n, fl, fa, _, 30, rfl, P4, htz, n2, f1, fn, a1, an, std_of (by omega) (by omega) (by omega) qf (by omega), c38 (by omega) (by omega) (by omega) q2, by decide, tab4, fun H5 k5 P5 tab5 => ⟨_, rfl, iteF ?_⟩⟩
    have k25 : ∀ b o, b ≠ p0 → H2 b = some o → (∀ ps, o ≠ .tbl ps) → H5 b = some o := fun b o n h z => k5 b o n (b4 b o n (s3 b o h)) z
    refine ⟨.ref p0, rfl, .ref p0, rfl, p0, 60, rfl, P5, by decide, by decide, fun H6 tz2 n' fl' fa' qf' b6 P6 ntz' n2' n6' f1' fn' a1' an' q1' q2' htz' => ?_⟩
    obtain ⟨ys5, e5⟩ := P5.lst
    have tab6 := tabs_but tab5 e5 b6
    refine ⟨p0, tz2, n', fl', fa', _, 12, rfl, P6, htz', n2', f1', fn', a1', an', std_of (by omega) (by omega) (by omega) qf' (by omega), c38 (by omega) (by omega) (by omega) q2', by decide, tab6, fun H7 k7 P7 tab7 => ⟨_, rfl, iteF ?_⟩⟩
    exact ⟨_, _, rfl, keepE fun b o n h z => k7 b o n (b6 b o n (k25 b o n h z)) z, tab7⟩
end
theorem all_mk {l : PySem.W.OpenLaw} {w : World} {K : PySem.W.Frag} {h : Heap} {mg : Str → Option Value} {fa f1 f2 f3 f4 f5 f6 f7 f8 f9 f10 f11 f12 f13 f14 f15 f16 f17 f18 f19 f20 f21 f22 f23 f24 f25 f26 f27 f28 f29 f30 f31 f32 f33 f34 f35 f36 f37 f38 f39 f40 f41 f42 f43 f44 f45 : Addr} (X : K.In h) (G : h.Ns mainGlobals mg) (hfa : mg "law" = some (.ref fa))
    {od1 an1 od2 an2 od3 an3 od4 an4 od5 an5 od6 an6 od7 an7 od8 an8 od9 an9 od10 an10 od11 an11 od12 an12 od13 an13 od14 an14 od15 an15 od16 an16 od17 an17 od18 an18 od19 an19 od20 an20 od21 an21 od22 an22 od23 an23 od24 an24 od25 an25 od26 an26 od27 an27 od28 an28 od29 an29 od30 an30 od31 an31 od32 an32 od33 an33 od34 an34 od35 an35 od36 an36 od37 an37 od38 an38 od39 an39 od40 an40 od41 an41 od42 an42 od43 an43 od44 an44 od45 an45 : Option Addr} {sl1 sl2 sl3 sl4 sl5 sl6 sl7 sl8 sl9 sl10 sl11 sl12 sl13 sl14 sl15 sl16 sl17 sl18 sl19 sl20 sl21 sl22 sl23 sl24 sl25 sl26 sl27 sl28 sl29 sl30 sl31 sl32 sl33 sl34 sl35 sl36 sl37 sl38 sl39 sl40 sl41 sl42 sl43 sl44 sl45 : Array (Option Value)} {oc1 kV1 dc1 pm1 cd1 ct1 oc2 kV2 dc2 pm2 cd2 ct2 oc3 kV3 dc3 pm3 cd3 ct3 oc4 kV4 dc4 pm4 cd4 ct4 oc5 kV5 dc5 pm5 cd5 ct5 oc6 kV6 dc6 pm6 cd6 ct6 oc7 kV7 dc7 pm7 cd7 ct7 oc8 kV8 dc8 pm8 cd8 ct8 oc9 kV9 dc9 pm9 cd9 ct9 oc10 kV10 dc10 pm10 cd10 ct10 oc11 kV11 dc11 pm11 cd11 ct11 oc12 kV12 dc12 pm12 cd12 ct12 oc13 kV13 dc13 pm13 cd13 ct13 oc14 kV14 dc14 pm14 cd14 ct14 oc15 kV15 dc15 pm15 cd15 ct15 oc16 kV16 dc16 pm16 cd16 ct16 oc17 kV17 dc17 pm17 cd17 ct17 oc18 kV18 dc18 pm18 cd18 ct18 oc19 kV19 dc19 pm19 cd19 ct19 oc20 kV20 dc20 pm20 cd20 ct20 oc21 kV21 dc21 pm21 cd21 ct21 oc22 kV22 dc22 pm22 cd22 ct22 oc23 kV23 dc23 pm23 cd23 ct23 oc24 kV24 dc24 pm24 cd24 ct24 oc25 kV25 dc25 pm25 cd25 ct25 oc26 kV26 dc26 pm26 cd26 ct26 oc27 kV27 dc27 pm27 cd27 ct27 oc28 kV28 dc28 pm28 cd28 ct28 oc29 kV29 dc29 pm29 cd29 ct29 oc30 kV30 dc30 pm30 cd30 ct30 oc31 kV31 dc31 pm31 cd31 ct31 oc32 kV32 dc32 pm32 cd32 ct32 oc33 kV33 dc33 pm33 cd33 ct33 oc34 kV34 dc34 pm34 cd34 ct34 oc35 kV35 dc35 pm35 cd35 ct35 oc36 kV36 dc36 pm36 cd36 ct36 oc37 kV37 dc37 pm37 cd37 ct37 oc38 kV38 dc38 pm38 cd38 ct38 oc39 kV39 dc39 pm39 cd39 ct39 oc40 kV40 dc40 pm40 cd40 ct40 oc41 kV41 dc41 pm41 cd41 ct41 oc42 kV42 dc42 pm42 cd42 ct42 oc43 kV43 dc43 pm43 cd43 ct43 oc44 kV44 dc44 pm44 cd44 ct44 oc45 kV45 dc45 pm45 cd45 ct45 : Value}
    {CBase CNoN CNotP CTooS CNoC CNotL CNotD CTooF CNoU CNoT CNoLi fi2 fi3 fi4 fi5 fi6 fi7 fi8 fi10 fi11 : Addr}
    {nm2 q2 : Str} {N2 : Addr} {bs2 : List Value} {sn2 : List Str} {sub2 : List Value} {ab2 : Bool} {col2 : Option Bool} {dd2 : Option Addr} {m0_2 m1_2 m2_2 m3_2 m5_2 : Option Value} {odi2 ani2 : Option Addr} {sli2 : Array (Option Value)} {oci2 kVi2 dci2 pmi2 cdi2 cti2 : Value}
    {nm3 q3 : Str} {N3 : Addr} {bs3 : List Value} {sn3 : List Str} {sub3 : List Value} {ab3 : Bool} {col3 : Option Bool} {dd3 : Option Addr} {m0_3 m1_3 m2_3 m3_3 m5_3 : Option Value} {odi3 ani3 : Option Addr} {sli3 : Array (Option Value)} {oci3 kVi3 dci3 pmi3 cdi3 cti3 : Value}
    {nm4 q4 : Str} {N4 : Addr} {bs4 : List Value} {sn4 : List Str} {sub4 : List Value} {ab4 : Bool} {col4 : Option Bool} {dd4 : Option Addr} {m0_4 m1_4 m2_4 m3_4 m5_4 : Option Value} {odi4 ani4 : Option Addr} {sli4 : Array (Option Value)} {oci4 kVi4 dci4 pmi4 cdi4 cti4 : Value}
    {nm5 q5 : Str} {N5 : Addr} {bs5 : List Value} {sn5 : List Str} {sub5 : List Value} {ab5 : Bool} {col5 : Option Bool} {dd5 : Option Addr} {m0_5 m1_5 m2_5 m3_5 m5_5 : Option Value} {odi5 ani5 : Option Addr} {sli5 : Array (Option Value)} {oci5 kVi5 dci5 pmi5 cdi5 cti5 : Value}
    {nm6 q6 : Str} {N6 : Addr} {bs6 : List Value} {sn6 : List Str} {sub6 : List Value} {ab6 : Bool} {col6 : Option Bool} {dd6 : Option Addr} {m0_6 m1_6 m2_6 m3_6 m5_6 : Option Value} {odi6 ani6 : Option Addr} {sli6 : Array (Option Value)} {oci6 kVi6 dci6 pmi6 cdi6 cti6 : Value}
    {nm7 q7 : Str} {N7 : Addr} {bs7 : List Value} {sn7 : List Str} {sub7 : List Value} {ab7 : Bool} {col7 : Option Bool} {dd7 : Option Addr} {m0_7 m1_7 m2_7 m3_7 m5_7 : Option Value} {odi7 ani7 : Option Addr} {sli7 : Array (Option Value)} {oci7 kVi7 dci7 pmi7 cdi7 cti7 : Value}
    {nm8 q8 : Str} {N8 : Addr} {bs8 : List Value} {sn8 : List Str} {sub8 : List Value} {ab8 : Bool} {col8 : Option Bool} {dd8 : Option Addr} {m0_8 m1_8 m2_8 m3_8 m5_8 : Option Value} {odi8 ani8 : Option Addr} {sli8 : Array (Option Value)} {oci8 kVi8 dci8 pmi8 cdi8 cti8 : Value}
    {nm10 q10 : Str} {N10 : Addr} {bs10 : List Value} {sn10 : List Str} {sub10 : List Value} {ab10 : Bool} {col10 : Option Bool} {dd10 : Option Addr} {m0_10 m1_10 m2_10 m3_10 m5_10 : Option Value} {odi10 ani10 : Option Addr} {sli10 : Array (Option Value)} {oci10 kVi10 dci10 pmi10 cdi10 cti10 : Value}
    {nm11 q11 : Str} {N11 : Addr} {bs11 : List Value} {sn11 : List Str} {sub11 : List Value} {ab11 : Bool} {col11 : Option Bool} {dd11 : Option Addr} {m0_11 m1_11 m2_11 m3_11 m5_11 : Option Value} {odi11 ani11 : Option Addr} {sli11 : Array (Option Value)} {oci11 kVi11 dci11 pmi11 cdi11 cti11 : Value}
    {CClu CDesk : Addr}
    {mf1 mf2 mf3 mf4 mf5 mf6 mf7 mf8 mf9 mf10 mf11 mf12 mf13 mf14 mf15 mf16 mf17 mf18 mf19 : Addr} {mod1 man1 mod2 man2 mod3 man3 mod4 man4 mod5 man5 mod6 man6 mod7 man7 mod8 man8 mod9 man9 mod10 man10 mod11 man11 mod12 man12 mod13 man13 mod14 man14 mod15 man15 mod16 man16 mod17 man17 mod18 man18 mod19 man19 : Option Addr} {msl1 msl2 msl3 msl4 msl5 msl6 msl7 msl8 msl9 msl10 msl11 msl12 msl13 msl14 msl15 msl16 msl17 msl18 msl19 : Array (Option Value)} {moc1 mkV1 mdc1 mpm1 mcd1 mct1 moc2 mkV2 mdc2 mpm2 mcd2 mct2 moc3 mkV3 mdc3 mpm3 mcd3 mct3 moc4 mkV4 mdc4 mpm4 mcd4 mct4 moc5 mkV5 mdc5 mpm5 mcd5 mct5 moc6 mkV6 mdc6 mpm6 mcd6 mct6 moc7 mkV7 mdc7 mpm7 mcd7 mct7 moc8 mkV8 mdc8 mpm8 mcd8 mct8 moc9 mkV9 mdc9 mpm9 mcd9 mct9 moc10 mkV10 mdc10 mpm10 mcd10 mct10 moc11 mkV11 mdc11 mpm11 mcd11 mct11 moc12 mkV12 mdc12 mpm12 mcd12 mct12 moc13 mkV13 mdc13 mpm13 mcd13 mct13 moc14 mkV14 mdc14 mpm14 mcd14 mct14 moc15 mkV15 mdc15 mpm15 mcd15 mct15 moc16 mkV16 mdc16 mpm16 mcd16 mct16 moc17 mkV17 mdc17 mpm17 mcd17 mct17 moc18 mkV18 mdc18 mpm18 mcd18 mct18 moc19 mkV19 mdc19 mpm19 mcd19 mct19 : Value}
    {qq : Program} {tcRight54 tpRight54 : Addr}
    {tk_LEAST_SERVERS tk_MOST_SERVERS tk_MOST_DIGITS : Tok}
    {CdForms : Addr} {tq_Forms_fail tq_Forms_recover tq_Forms_owners tq_Forms_successor tq_Forms_load tq_Forms_live tq_Forms_copied tq_Forms_changes tq_Forms_undo tq_Forms_list tq_Forms_text : Tok}
    (a1 : PySem.W.nsIn K mainGlobals "is_plain_int" = some (some (.ref f1)))
    (l1 : K.lookup f1 = some ⟨oc1, od1, .func (PySem.W.fnOf "is_plain_int" "is_plain_int" (defArgs sPlain) (defBody sPlain) (defScope sPlain) .none kV1 dc1 pm1 an1 cd1 ct1), sl1⟩)
    (c1 : PySem.W.codeIn K cd1 "is_plain_int" = true)
    (k1 : PySem.W.keepIn K (.ref f1) = true)
    (a2 : PySem.W.nsIn K mainGlobals "level_parts" = some (some (.ref f2)))
    (l2 : K.lookup f2 = some ⟨oc2, od2, .func (PySem.W.fnOf "level_parts" "level_parts" (defArgs sParts) (defBody sParts) (defScope sParts) .none kV2 dc2 pm2 an2 cd2 ct2), sl2⟩)
    (c2 : PySem.W.codeIn K cd2 "level_parts" = true)
    (k2 : PySem.W.keepIn K (.ref f2) = true)
    (a3 : PySem.W.nsIn K mainGlobals "is_possible" = some (some (.ref f3)))
    (l3 : K.lookup f3 = some ⟨oc3, od3, .func (PySem.W.fnOf "is_possible" "is_possible" (defArgs sPoss) (defBody sPoss) (defScope sPoss) .none kV3 dc3 pm3 an3 cd3 ct3), sl3⟩)
    (c3 : PySem.W.codeIn K cd3 "is_possible" = true)
    (k3 : PySem.W.keepIn K (.ref f3) = true)
    (a4 : PySem.W.nsIn K mainGlobals "reach_of" = some (some (.ref f4)))
    (l4 : K.lookup f4 = some ⟨oc4, od4, .func (PySem.W.fnOf "reach_of" "reach_of" (defArgs sReachOf) (defBody sReachOf) (defScope sReachOf) .none kV4 dc4 pm4 an4 cd4 ct4), sl4⟩)
    (c4 : PySem.W.codeIn K cd4 "reach_of" = true)
    (k4 : PySem.W.keepIn K (.ref f4) = true)
    (a5 : PySem.W.nsIn K mainGlobals "check_possible" = some (some (.ref f5)))
    (l5 : K.lookup f5 = some ⟨oc5, od5, .func (PySem.W.fnOf "check_possible" "check_possible" (defArgs sChkP) (defBody sChkP) (defScope sChkP) .none kV5 dc5 pm5 an5 cd5 ct5), sl5⟩)
    (c5 : PySem.W.codeIn K cd5 "check_possible" = true)
    (k5 : PySem.W.keepIn K (.ref f5) = true)
    (a6 : PySem.W.nsIn K mainGlobals "check_number" = some (some (.ref f6)))
    (l6 : K.lookup f6 = some ⟨oc6, od6, .func (PySem.W.fnOf "check_number" "check_number" (defArgs sChkN) (defBody sChkN) (defScope sChkN) .none kV6 dc6 pm6 an6 cd6 ct6), sl6⟩)
    (c6 : PySem.W.codeIn K cd6 "check_number" = true)
    (k6 : PySem.W.keepIn K (.ref f6) = true)
    (a7 : PySem.W.nsIn K mainGlobals "shared" = some (some (.ref f7)))
    (l7 : K.lookup f7 = some ⟨oc7, od7, .func (PySem.W.fnOf "shared" "shared" (defArgs sShared) (defBody sShared) (defScope sShared) .none kV7 dc7 pm7 an7 cd7 ct7), sl7⟩)
    (c7 : PySem.W.codeIn K cd7 "shared" = true)
    (k7 : PySem.W.keepIn K (.ref f7) = true)
    (a8 : PySem.W.nsIn K mainGlobals "held_by_server" = some (some (.ref f8)))
    (l8 : K.lookup f8 = some ⟨oc8, od8, .func (PySem.W.fnOf "held_by_server" "held_by_server" (defArgs sHbSrv) (defBody sHbSrv) (defScope sHbSrv) .none kV8 dc8 pm8 an8 cd8 ct8), sl8⟩)
    (c8 : PySem.W.codeIn K cd8 "held_by_server" = true)
    (k8 : PySem.W.keepIn K (.ref f8) = true)
    (a9 : PySem.W.nsIn K mainGlobals "level_widths" = some (some (.ref f9)))
    (l9 : K.lookup f9 = some ⟨oc9, od9, .func (PySem.W.fnOf "level_widths" "level_widths" (defArgs sWid) (defBody sWid) (defScope sWid) .none kV9 dc9 pm9 an9 cd9 ct9), sl9⟩)
    (c9 : PySem.W.codeIn K cd9 "level_widths" = true)
    (k9 : PySem.W.keepIn K (.ref f9) = true)
    (a10 : PySem.W.nsIn K mainGlobals "follow" = some (some (.ref f10)))
    (l10 : K.lookup f10 = some ⟨oc10, od10, .func (PySem.W.fnOf "follow" "follow" (defArgs sFollow) (defBody sFollow) (defScope sFollow) .none kV10 dc10 pm10 an10 cd10 ct10), sl10⟩)
    (c10 : PySem.W.codeIn K cd10 "follow" = true)
    (k10 : PySem.W.keepIn K (.ref f10) = true)
    (a11 : PySem.W.nsIn K mainGlobals "path" = some (some (.ref f11)))
    (l11 : K.lookup f11 = some ⟨oc11, od11, .func (PySem.W.fnOf "path" "path" (defArgs sPath) (defBody sPath) (defScope sPath) .none kV11 dc11 pm11 an11 cd11 ct11), sl11⟩)
    (c11 : PySem.W.codeIn K cd11 "path" = true)
    (k11 : PySem.W.keepIn K (.ref f11) = true)
    (a12 : PySem.W.nsIn K mainGlobals "is_set" = some (some (.ref f12)))
    (l12 : K.lookup f12 = some ⟨oc12, od12, .func (PySem.W.fnOf "is_set" "is_set" (defArgs sSet) (defBody sSet) (defScope sSet) .none kV12 dc12 pm12 an12 cd12 ct12), sl12⟩)
    (c12 : PySem.W.codeIn K cd12 "is_set" = true)
    (k12 : PySem.W.keepIn K (.ref f12) = true)
    (a13 : PySem.W.nsIn K mainGlobals "outside" = some (some (.ref f13)))
    (l13 : K.lookup f13 = some ⟨oc13, od13, .func (PySem.W.fnOf "outside" "outside" (defArgs sOut) (defBody sOut) (defScope sOut) .none kV13 dc13 pm13 an13 cd13 ct13), sl13⟩)
    (c13 : PySem.W.codeIn K cd13 "outside" = true)
    (k13 : PySem.W.keepIn K (.ref f13) = true)
    (a14 : PySem.W.nsIn K mainGlobals "joined" = some (some (.ref f14)))
    (l14 : K.lookup f14 = some ⟨oc14, od14, .func (PySem.W.fnOf "joined" "joined" (defArgs sJoined) (defBody sJoined) (defScope sJoined) .none kV14 dc14 pm14 an14 cd14 ct14), sl14⟩)
    (c14 : PySem.W.codeIn K cd14 "joined" = true)
    (k14 : PySem.W.keepIn K (.ref f14) = true)
    (a15 : PySem.W.nsIn K mainGlobals "holders" = some (some (.ref f15)))
    (l15 : K.lookup f15 = some ⟨oc15, od15, .func (PySem.W.fnOf "holders" "holders" (defArgs sHold) (defBody sHold) (defScope sHold) .none kV15 dc15 pm15 an15 cd15 ct15), sl15⟩)
    (c15 : PySem.W.codeIn K cd15 "holders" = true)
    (k15 : PySem.W.keepIn K (.ref f15) = true)
    (a16 : PySem.W.nsIn K mainGlobals "successor" = some (some (.ref f16)))
    (l16 : K.lookup f16 = some ⟨oc16, od16, .func (PySem.W.fnOf "successor" "successor" (defArgs sSucc) (defBody sSucc) (defScope sSucc) .none kV16 dc16 pm16 an16 cd16 ct16), sl16⟩)
    (c16 : PySem.W.codeIn K cd16 "successor" = true)
    (k16 : PySem.W.keepIn K (.ref f16) = true)
    (a17 : PySem.W.nsIn K mainGlobals "check_field" = some (some (.ref f17)))
    (l17 : K.lookup f17 = some ⟨oc17, od17, .func (PySem.W.fnOf "check_field" "check_field" (defArgs sChkF) (defBody sChkF) (defScope sChkF) .none kV17 dc17 pm17 an17 cd17 ct17), sl17⟩)
    (c17 : PySem.W.codeIn K cd17 "check_field" = true)
    (k17 : PySem.W.keepIn K (.ref f17) = true)
    (a18 : PySem.W.nsIn K mainGlobals "show_row" = some (some (.ref f18)))
    (l18 : K.lookup f18 = some ⟨oc18, od18, .func (PySem.W.fnOf "show_row" "show_row" (defArgs sShowR) (defBody sShowR) (defScope sShowR) .none kV18 dc18 pm18 an18 cd18 ct18), sl18⟩)
    (c18 : PySem.W.codeIn K cd18 "show_row" = true)
    (k18 : PySem.W.keepIn K (.ref f18) = true)
    (a19 : PySem.W.nsIn K mainGlobals "show_cluster" = some (some (.ref f19)))
    (l19 : K.lookup f19 = some ⟨oc19, od19, .func (PySem.W.fnOf "show_cluster" "show_cluster" (defArgs sShowC) (defBody sShowC) (defScope sShowC) .none kV19 dc19 pm19 an19 cd19 ct19), sl19⟩)
    (c19 : PySem.W.codeIn K cd19 "show_cluster" = true)
    (k19 : PySem.W.keepIn K (.ref f19) = true)
    (a20 : PySem.W.nsIn K mainGlobals "is_number_word" = some (some (.ref f20)))
    (l20 : K.lookup f20 = some ⟨oc20, od20, .func (PySem.W.fnOf "is_number_word" "is_number_word" (defArgs sNumW) (defBody sNumW) (defScope sNumW) .none kV20 dc20 pm20 an20 cd20 ct20), sl20⟩)
    (c20 : PySem.W.codeIn K cd20 "is_number_word" = true)
    (k20 : PySem.W.keepIn K (.ref f20) = true)
    (a21 : PySem.W.nsIn K mainGlobals "read_numbers" = some (some (.ref f21)))
    (l21 : K.lookup f21 = some ⟨oc21, od21, .func (PySem.W.fnOf "read_numbers" "read_numbers" (defArgs sReadN) (defBody sReadN) (defScope sReadN) .none kV21 dc21 pm21 an21 cd21 ct21), sl21⟩)
    (c21 : PySem.W.codeIn K cd21 "read_numbers" = true)
    (k21 : PySem.W.keepIn K (.ref f21) = true)
    (a22 : PySem.W.nsIn K mainGlobals "read_fields" = some (some (.ref f22)))
    (l22 : K.lookup f22 = some ⟨oc22, od22, .func (PySem.W.fnOf "read_fields" "read_fields" (defArgs sReadF) (defBody sReadF) (defScope sReadF) .none kV22 dc22 pm22 an22 cd22 ct22), sl22⟩)
    (c22 : PySem.W.codeIn K cd22 "read_fields" = true)
    (k22 : PySem.W.keepIn K (.ref f22) = true)
    (a23 : PySem.W.nsIn K mainGlobals "rows_of" = some (some (.ref f23)))
    (l23 : K.lookup f23 = some ⟨oc23, od23, .func (PySem.W.fnOf "rows_of" "rows_of" (defArgs sRowsOf) (defBody sRowsOf) (defScope sRowsOf) .none kV23 dc23 pm23 an23 cd23 ct23), sl23⟩)
    (c23 : PySem.W.codeIn K cd23 "rows_of" = true)
    (k23 : PySem.W.keepIn K (.ref f23) = true)
    (a24 : PySem.W.nsIn K mainGlobals "read_head" = some (some (.ref f24)))
    (l24 : K.lookup f24 = some ⟨oc24, od24, .func (PySem.W.fnOf "read_head" "read_head" (defArgs sReadH) (defBody sReadH) (defScope sReadH) .none kV24 dc24 pm24 an24 cd24 ct24), sl24⟩)
    (c24 : PySem.W.codeIn K cd24 "read_head" = true)
    (k24 : PySem.W.keepIn K (.ref f24) = true)
    (a25 : PySem.W.nsIn K mainGlobals "read_dead" = some (some (.ref f25)))
    (l25 : K.lookup f25 = some ⟨oc25, od25, .func (PySem.W.fnOf "read_dead" "read_dead" (defArgs sReadD) (defBody sReadD) (defScope sReadD) .none kV25 dc25 pm25 an25 cd25 ct25), sl25⟩)
    (c25 : PySem.W.codeIn K cd25 "read_dead" = true)
    (k25 : PySem.W.keepIn K (.ref f25) = true)
    (a26 : PySem.W.nsIn K mainGlobals "read_cluster" = some (some (.ref f26)))
    (l26 : K.lookup f26 = some ⟨oc26, od26, .func (PySem.W.fnOf "read_cluster" "read_cluster" (defArgs sReadC) (defBody sReadC) (defScope sReadC) .none kV26 dc26 pm26 an26 cd26 ct26), sl26⟩)
    (c26 : PySem.W.codeIn K cd26 "read_cluster" = true)
    (k26 : PySem.W.keepIn K (.ref f26) = true)
    (a27 : PySem.W.nsIn K mainGlobals "read_line" = some (some (.ref f27)))
    (l27 : K.lookup f27 = some ⟨oc27, od27, .func (PySem.W.fnOf "read_line" "read_line" (defArgs sReadL) (defBody sReadL) (defScope sReadL) .none kV27 dc27 pm27 an27 cd27 ct27), sl27⟩)
    (c27 : PySem.W.codeIn K cd27 "read_line" = true)
    (k27 : PySem.W.keepIn K (.ref f27) = true)
    (a28 : PySem.W.nsIn K mainGlobals "answer_alone" = some (some (.ref f28)))
    (l28 : K.lookup f28 = some ⟨oc28, od28, .func (PySem.W.fnOf "answer_alone" "answer_alone" (defArgs sAnsAl) (defBody sAnsAl) (defScope sAnsAl) .none kV28 dc28 pm28 an28 cd28 ct28), sl28⟩)
    (c28 : PySem.W.codeIn K cd28 "answer_alone" = true)
    (k28 : PySem.W.keepIn K (.ref f28) = true)
    (a29 : PySem.W.nsIn K mainGlobals "answer_one" = some (some (.ref f29)))
    (l29 : K.lookup f29 = some ⟨oc29, od29, .func (PySem.W.fnOf "answer_one" "answer_one" (defArgs sAnsOne) (defBody sAnsOne) (defScope sAnsOne) .none kV29 dc29 pm29 an29 cd29 ct29), sl29⟩)
    (c29 : PySem.W.codeIn K cd29 "answer_one" = true)
    (k29 : PySem.W.keepIn K (.ref f29) = true)
    (a30 : PySem.W.nsIn K mainGlobals "answer_successor" = some (some (.ref f30)))
    (l30 : K.lookup f30 = some ⟨oc30, od30, .func (PySem.W.fnOf "answer_successor" "answer_successor" (defArgs sAnsSucc) (defBody sAnsSucc) (defScope sAnsSucc) .none kV30 dc30 pm30 an30 cd30 ct30), sl30⟩)
    (c30 : PySem.W.codeIn K cd30 "answer_successor" = true)
    (k30 : PySem.W.keepIn K (.ref f30) = true)
    (a31 : PySem.W.nsIn K mainGlobals "_law_stream" = some (some (.ref f31)))
    (l31 : K.lookup f31 = some ⟨oc31, od31, .func (PySem.W.fnOf "_law_stream" "_law_stream" (defArgs sStream) (defBody sStream) (defScope sStream) .none kV31 dc31 pm31 an31 cd31 ct31), sl31⟩)
    (c31 : PySem.W.codeIn K cd31 "_law_stream" = true)
    (k31 : PySem.W.keepIn K (.ref f31) = true)
    (a32 : PySem.W.nsIn K mainGlobals "_law_draw" = some (some (.ref f32)))
    (l32 : K.lookup f32 = some ⟨oc32, od32, .func (PySem.W.fnOf "_law_draw" "_law_draw" (defArgs sDraw) (defBody sDraw) (defScope sDraw) .none kV32 dc32 pm32 an32 cd32 ct32), sl32⟩)
    (c32 : PySem.W.codeIn K cd32 "_law_draw" = true)
    (k32 : PySem.W.keepIn K (.ref f32) = true)
    (a33 : PySem.W.nsIn K mainGlobals "_law_pick" = some (some (.ref f33)))
    (l33 : K.lookup f33 = some ⟨oc33, od33, .func (PySem.W.fnOf "_law_pick" "_law_pick" (defArgs sPick) (defBody sPick) (defScope sPick) .none kV33 dc33 pm33 an33 cd33 ct33), sl33⟩)
    (c33 : PySem.W.codeIn K cd33 "_law_pick" = true)
    (k33 : PySem.W.keepIn K (.ref f33) = true)
    (a34 : PySem.W.nsIn K mainGlobals "_law_comb" = some (some (.ref f34)))
    (l34 : K.lookup f34 = some ⟨oc34, od34, .func (PySem.W.fnOf "_law_comb" "_law_comb" (defArgs sComb) (defBody sComb) (defScope sComb) .none kV34 dc34 pm34 an34 cd34 ct34), sl34⟩)
    (c34 : PySem.W.codeIn K cd34 "_law_comb" = true)
    (k34 : PySem.W.keepIn K (.ref f34) = true)
    (a35 : PySem.W.nsIn K mainGlobals "_law_order" = some (some (.ref f35)))
    (l35 : K.lookup f35 = some ⟨oc35, od35, .func (PySem.W.fnOf "_law_order" "_law_order" (defArgs sOrderS) (defBody sOrderS) (defScope sOrderS) .none kV35 dc35 pm35 an35 cd35 ct35), sl35⟩)
    (c35 : PySem.W.codeIn K cd35 "_law_order" = true)
    (k35 : PySem.W.keepIn K (.ref f35) = true)
    (a36 : PySem.W.nsIn K mainGlobals "_law_gcd" = some (some (.ref f36)))
    (l36 : K.lookup f36 = some ⟨oc36, od36, .func (PySem.W.fnOf "_law_gcd" "_law_gcd" (defArgs sGcdS) (defBody sGcdS) (defScope sGcdS) .none kV36 dc36 pm36 an36 cd36 ct36), sl36⟩)
    (c36 : PySem.W.codeIn K cd36 "_law_gcd" = true)
    (k36 : PySem.W.keepIn K (.ref f36) = true)
    (a37 : PySem.W.nsIn K mainGlobals "_law_least" = some (some (.ref f37)))
    (l37 : K.lookup f37 = some ⟨oc37, od37, .func (PySem.W.fnOf "_law_least" "_law_least" (defArgs sLeastS) (defBody sLeastS) (defScope sLeastS) .none kV37 dc37 pm37 an37 cd37 ct37), sl37⟩)
    (c37 : PySem.W.codeIn K cd37 "_law_least" = true)
    (k37 : PySem.W.keepIn K (.ref f37) = true)
    (a38 : PySem.W.nsIn K mainGlobals "_law_sizes" = some (some (.ref f38)))
    (l38 : K.lookup f38 = some ⟨oc38, od38, .func (PySem.W.fnOf "_law_sizes" "_law_sizes" (defArgs sSizesS) (defBody sSizesS) (defScope sSizesS) .none kV38 dc38 pm38 an38 cd38 ct38), sl38⟩)
    (c38 : PySem.W.codeIn K cd38 "_law_sizes" = true)
    (k38 : PySem.W.keepIn K (.ref f38) = true)
    (a39 : PySem.W.nsIn K mainGlobals "_law_line_outcome" = some (some (.ref f39)))
    (l39 : K.lookup f39 = some ⟨oc39, od39, .func (PySem.W.fnOf "_law_line_outcome" "_law_line_outcome" (defArgs sLOut54) (defBody sLOut54) (defScope sLOut54) .none kV39 dc39 pm39 an39 cd39 ct39), sl39⟩)
    (c39 : PySem.W.codeIn K cd39 "_law_line_outcome" = true)
    (k39 : PySem.W.keepIn K (.ref f39) = true)
    (a40 : PySem.W.nsIn K mainGlobals "_law_words" = some (some (.ref f40)))
    (l40 : K.lookup f40 = some ⟨oc40, od40, .func (PySem.W.fnOf "_law_words" "_law_words" (defArgs sWords54) (defBody sWords54) (defScope sWords54) .none kV40 dc40 pm40 an40 cd40 ct40), sl40⟩)
    (c40 : PySem.W.codeIn K cd40 "_law_words" = true)
    (k40 : PySem.W.keepIn K (.ref f40) = true)
    (a41 : PySem.W.nsIn K mainGlobals "_law_list" = some (some (.ref f41)))
    (l41 : K.lookup f41 = some ⟨oc41, od41, .func (PySem.W.fnOf "_law_list" "_law_list" (defArgs sList54) (defBody sList54) (defScope sList54) .none kV41 dc41 pm41 an41 cd41 ct41), sl41⟩)
    (c41 : PySem.W.codeIn K cd41 "_law_list" = true)
    (k41 : PySem.W.keepIn K (.ref f41) = true)
    (a42 : PySem.W.nsIn K mainGlobals "_law_line" = some (some (.ref f42)))
    (l42 : K.lookup f42 = some ⟨oc42, od42, .func (PySem.W.fnOf "_law_line" "_law_line" (defArgs sLine54) (defBody sLine54) (defScope sLine54) .none kV42 dc42 pm42 an42 cd42 ct42), sl42⟩)
    (c42 : PySem.W.codeIn K cd42 "_law_line" = true)
    (k42 : PySem.W.keepIn K (.ref f42) = true)
    (a43 : PySem.W.nsIn K mainGlobals "_law_answer" = some (some (.ref f43)))
    (l43 : K.lookup f43 = some ⟨oc43, od43, .func (PySem.W.fnOf "_law_answer" "_law_answer" (defArgs sAnsw54) (defBody sAnsw54) (defScope sAnsw54) .none kV43 dc43 pm43 an43 cd43 ct43), sl43⟩)
    (c43 : PySem.W.codeIn K cd43 "_law_answer" = true)
    (k43 : PySem.W.keepIn K (.ref f43) = true)
    (a44 : PySem.W.nsIn K mainGlobals "_law_right" = some (some (.ref f44)))
    (l44 : K.lookup f44 = some ⟨oc44, od44, .func (PySem.W.fnOf "_law_right" "_law_right" (defArgs sRight54) (defBody sRight54) (defScope sRight54) .none kV44 dc44 pm44 an44 cd44 ct44), sl44⟩)
    (c44 : PySem.W.codeIn K cd44 "_law_right" = true)
    (k44 : PySem.W.keepIn K (.ref f44) = true)
    (a45 : PySem.W.nsIn K mainGlobals "law" = some (some (.ref f45)))
    (l45 : K.lookup f45 = some ⟨oc45, od45, .func (PySem.W.fnOf "law" "law" (defArgs sLaw) (defBody sLaw) (defScope sLaw) .none kV45 dc45 pm45 an45 cd45 ct45), sl45⟩)
    (c45 : PySem.W.codeIn K cd45 "law" = true)
    (k45 : PySem.W.keepIn K (.ref f45) = true)
    (ac1 : PySem.W.nsIn K mainGlobals "FailoverError" = some (some (.ref CBase)))
    (bsp : PySem.W.specialIn K (.ref CBase) "__getattribute__" = some (some (.builtin "type.__getattribute__")))
    (bty : PySem.W.typeIn K (.ref CBase) = some (.type "type"))
    (brd : PySem.W.readsIn K CBase (.type "type") = true)
    (bfc : PySem.W.findCls K (.ref CBase) (.type "type") "__init__" = some (.val (.builtin "ValueError.__init__")))
    (bex : PySem.W.subIn K (.ref CBase) (.type "BaseException") = some true)
    (bhd : PySem.W.hasDictIn K CBase = true)
    (ac2 : PySem.W.nsIn K mainGlobals "NoNumber" = some (some (.ref CNoN)))
    (e2_xL : K.lookup CNoN = some (excClassObj nm2 q2 CNoN N2 bs2 [.ref CBase, .type "ValueError", .type "Exception", .type "BaseException", .type "object"] true sn2 sub2 ab2 col2 dd2 m0_2 m1_2 m2_2 m3_2 m5_2 "ValueError.__new__"))
    (e2_sa : PySem.W.findIn K (.ref CNoN) "__setattr__" = some (some (.builtin "object.__setattr__")))
    (e2_ga : PySem.W.findIn K (.ref CNoN) "__getattribute__" = some (some (.builtin "BaseException.__getattribute__")))
    (e2_gg : PySem.W.findIn K (.ref CNoN) "__getattr__" = some none)
    (e2_nb : PySem.W.findIn K (.ref CNoN) "value" = some none)
    (e2_ai : PySem.W.findIn K (.ref CNoN) "__init__" = some (some (.ref fi2)))
    (e2_ti : PySem.W.typeIn K (.ref fi2) = some (.type "function"))
    (e2_li : K.lookup fi2 = some ⟨oci2, odi2, .func (PySem.W.fnOf "__init__" "NoNumber.__init__" (defArgs sNoN) (defBody sNoN) (defScope sNoN) .none kVi2 dci2 pmi2 ani2 cdi2 cti2), sli2⟩)
    (e2_ci : PySem.W.codeIn K cdi2 "NoNumber.__init__" = true)
    (e2_ki : PySem.W.keepIn K (.ref fi2) = true)
    (e2_kC : PySem.W.keepIn K (.ref CNoN) = true)
    (e2_eC : PySem.W.subIn K (.ref CNoN) (.type "BaseException") = some true)
    (e2_tC : PySem.W.typeIn K (.ref CNoN) = some (.type "type"))
    (e2_hC : PySem.W.hasDictIn K CNoN = true)
    (e2_cC : PySem.W.findIn K (.ref CNoN) "__class__" = some (some (.builtin "object.__class__")))
    (e2_gC : PySem.W.specialIn K (.builtin "object.__class__") "__get__" = some (some (.builtin "getset_descriptor.__get__")))
    (e2_kk : PySem.W.takesIn K (.builtin "object.__class__") = some true)
    (e2_mC : PySem.W.mroIn K CNoN (.type "object") = some true)
    (e2_sB : PySem.W.subIn K (.ref CNoN) (.ref CBase) = some true)
    (ac3 : PySem.W.nsIn K mainGlobals "NotPossible" = some (some (.ref CNotP)))
    (e3_xL : K.lookup CNotP = some (excClassObj nm3 q3 CNotP N3 bs3 [.ref CBase, .type "ValueError", .type "Exception", .type "BaseException", .type "object"] true sn3 sub3 ab3 col3 dd3 m0_3 m1_3 m2_3 m3_3 m5_3 "ValueError.__new__"))
    (e3_sa : PySem.W.findIn K (.ref CNotP) "__setattr__" = some (some (.builtin "object.__setattr__")))
    (e3_ga : PySem.W.findIn K (.ref CNotP) "__getattribute__" = some (some (.builtin "BaseException.__getattribute__")))
    (e3_gg : PySem.W.findIn K (.ref CNotP) "__getattr__" = some none)
    (e3_nb : PySem.W.findIn K (.ref CNotP) "count" = some none)
    (e3_ai : PySem.W.findIn K (.ref CNotP) "__init__" = some (some (.ref fi3)))
    (e3_ti : PySem.W.typeIn K (.ref fi3) = some (.type "function"))
    (e3_li : K.lookup fi3 = some ⟨oci3, odi3, .func (PySem.W.fnOf "__init__" "NotPossible.__init__" (defArgs sNotP) (defBody sNotP) (defScope sNotP) .none kVi3 dci3 pmi3 ani3 cdi3 cti3), sli3⟩)
    (e3_ci : PySem.W.codeIn K cdi3 "NotPossible.__init__" = true)
    (e3_ki : PySem.W.keepIn K (.ref fi3) = true)
    (e3_kC : PySem.W.keepIn K (.ref CNotP) = true)
    (e3_eC : PySem.W.subIn K (.ref CNotP) (.type "BaseException") = some true)
    (e3_tC : PySem.W.typeIn K (.ref CNotP) = some (.type "type"))
    (e3_hC : PySem.W.hasDictIn K CNotP = true)
    (e3_cC : PySem.W.findIn K (.ref CNotP) "__class__" = some (some (.builtin "object.__class__")))
    (e3_gC : PySem.W.specialIn K (.builtin "object.__class__") "__get__" = some (some (.builtin "getset_descriptor.__get__")))
    (e3_kk : PySem.W.takesIn K (.builtin "object.__class__") = some true)
    (e3_mC : PySem.W.mroIn K CNotP (.type "object") = some true)
    (e3_sB : PySem.W.subIn K (.ref CNotP) (.ref CBase) = some true)
    (ac4 : PySem.W.nsIn K mainGlobals "TooShort" = some (some (.ref CTooS)))
    (e4_xL : K.lookup CTooS = some (excClassObj nm4 q4 CTooS N4 bs4 [.ref CBase, .type "ValueError", .type "Exception", .type "BaseException", .type "object"] true sn4 sub4 ab4 col4 dd4 m0_4 m1_4 m2_4 m3_4 m5_4 "ValueError.__new__"))
    (e4_sa : PySem.W.findIn K (.ref CTooS) "__setattr__" = some (some (.builtin "object.__setattr__")))
    (e4_ga : PySem.W.findIn K (.ref CTooS) "__getattribute__" = some (some (.builtin "BaseException.__getattribute__")))
    (e4_gg : PySem.W.findIn K (.ref CTooS) "__getattr__" = some none)
    (e4_nb : PySem.W.findIn K (.ref CTooS) "order" = some none)
    (e4_ai : PySem.W.findIn K (.ref CTooS) "__init__" = some (some (.ref fi4)))
    (e4_ti : PySem.W.typeIn K (.ref fi4) = some (.type "function"))
    (e4_li : K.lookup fi4 = some ⟨oci4, odi4, .func (PySem.W.fnOf "__init__" "TooShort.__init__" (defArgs sTooS) (defBody sTooS) (defScope sTooS) .none kVi4 dci4 pmi4 ani4 cdi4 cti4), sli4⟩)
    (e4_ci : PySem.W.codeIn K cdi4 "TooShort.__init__" = true)
    (e4_ki : PySem.W.keepIn K (.ref fi4) = true)
    (e4_kC : PySem.W.keepIn K (.ref CTooS) = true)
    (e4_eC : PySem.W.subIn K (.ref CTooS) (.type "BaseException") = some true)
    (e4_tC : PySem.W.typeIn K (.ref CTooS) = some (.type "type"))
    (e4_hC : PySem.W.hasDictIn K CTooS = true)
    (e4_cC : PySem.W.findIn K (.ref CTooS) "__class__" = some (some (.builtin "object.__class__")))
    (e4_gC : PySem.W.specialIn K (.builtin "object.__class__") "__get__" = some (some (.builtin "getset_descriptor.__get__")))
    (e4_kk : PySem.W.takesIn K (.builtin "object.__class__") = some true)
    (e4_mC : PySem.W.mroIn K CTooS (.type "object") = some true)
    (e4_sB : PySem.W.subIn K (.ref CTooS) (.ref CBase) = some true)
    (ac5 : PySem.W.nsIn K mainGlobals "NoCluster" = some (some (.ref CNoC)))
    (e5_xL : K.lookup CNoC = some (excClassObj nm5 q5 CNoC N5 bs5 [.ref CBase, .type "ValueError", .type "Exception", .type "BaseException", .type "object"] true sn5 sub5 ab5 col5 dd5 m0_5 m1_5 m2_5 m3_5 m5_5 "ValueError.__new__"))
    (e5_sa : PySem.W.findIn K (.ref CNoC) "__setattr__" = some (some (.builtin "object.__setattr__")))
    (e5_ga : PySem.W.findIn K (.ref CNoC) "__getattribute__" = some (some (.builtin "BaseException.__getattribute__")))
    (e5_gg : PySem.W.findIn K (.ref CNoC) "__getattr__" = some none)
    (e5_nb : PySem.W.findIn K (.ref CNoC) "field" = some none)
    (e5_ai : PySem.W.findIn K (.ref CNoC) "__init__" = some (some (.ref fi5)))
    (e5_ti : PySem.W.typeIn K (.ref fi5) = some (.type "function"))
    (e5_li : K.lookup fi5 = some ⟨oci5, odi5, .func (PySem.W.fnOf "__init__" "NoCluster.__init__" (defArgs sNoC) (defBody sNoC) (defScope sNoC) .none kVi5 dci5 pmi5 ani5 cdi5 cti5), sli5⟩)
    (e5_ci : PySem.W.codeIn K cdi5 "NoCluster.__init__" = true)
    (e5_ki : PySem.W.keepIn K (.ref fi5) = true)
    (e5_kC : PySem.W.keepIn K (.ref CNoC) = true)
    (e5_eC : PySem.W.subIn K (.ref CNoC) (.type "BaseException") = some true)
    (e5_tC : PySem.W.typeIn K (.ref CNoC) = some (.type "type"))
    (e5_hC : PySem.W.hasDictIn K CNoC = true)
    (e5_cC : PySem.W.findIn K (.ref CNoC) "__class__" = some (some (.builtin "object.__class__")))
    (e5_gC : PySem.W.specialIn K (.builtin "object.__class__") "__get__" = some (some (.builtin "getset_descriptor.__get__")))
    (e5_kk : PySem.W.takesIn K (.builtin "object.__class__") = some true)
    (e5_mC : PySem.W.mroIn K CNoC (.type "object") = some true)
    (e5_sB : PySem.W.subIn K (.ref CNoC) (.ref CBase) = some true)
    (ac6 : PySem.W.nsIn K mainGlobals "NotLive" = some (some (.ref CNotL)))
    (e6_xL : K.lookup CNotL = some (excClassObj nm6 q6 CNotL N6 bs6 [.ref CBase, .type "ValueError", .type "Exception", .type "BaseException", .type "object"] true sn6 sub6 ab6 col6 dd6 m0_6 m1_6 m2_6 m3_6 m5_6 "ValueError.__new__"))
    (e6_sa : PySem.W.findIn K (.ref CNotL) "__setattr__" = some (some (.builtin "object.__setattr__")))
    (e6_ga : PySem.W.findIn K (.ref CNotL) "__getattribute__" = some (some (.builtin "BaseException.__getattribute__")))
    (e6_gg : PySem.W.findIn K (.ref CNotL) "__getattr__" = some none)
    (e6_nb : PySem.W.findIn K (.ref CNotL) "value" = some none)
    (e6_ai : PySem.W.findIn K (.ref CNotL) "__init__" = some (some (.ref fi6)))
    (e6_ti : PySem.W.typeIn K (.ref fi6) = some (.type "function"))
    (e6_li : K.lookup fi6 = some ⟨oci6, odi6, .func (PySem.W.fnOf "__init__" "NotLive.__init__" (defArgs sNotL) (defBody sNotL) (defScope sNotL) .none kVi6 dci6 pmi6 ani6 cdi6 cti6), sli6⟩)
    (e6_ci : PySem.W.codeIn K cdi6 "NotLive.__init__" = true)
    (e6_ki : PySem.W.keepIn K (.ref fi6) = true)
    (e6_kC : PySem.W.keepIn K (.ref CNotL) = true)
    (e6_eC : PySem.W.subIn K (.ref CNotL) (.type "BaseException") = some true)
    (e6_tC : PySem.W.typeIn K (.ref CNotL) = some (.type "type"))
    (e6_hC : PySem.W.hasDictIn K CNotL = true)
    (e6_cC : PySem.W.findIn K (.ref CNotL) "__class__" = some (some (.builtin "object.__class__")))
    (e6_gC : PySem.W.specialIn K (.builtin "object.__class__") "__get__" = some (some (.builtin "getset_descriptor.__get__")))
    (e6_kk : PySem.W.takesIn K (.builtin "object.__class__") = some true)
    (e6_mC : PySem.W.mroIn K CNotL (.type "object") = some true)
    (e6_sB : PySem.W.subIn K (.ref CNotL) (.ref CBase) = some true)
    (ac7 : PySem.W.nsIn K mainGlobals "NotDead" = some (some (.ref CNotD)))
    (e7_xL : K.lookup CNotD = some (excClassObj nm7 q7 CNotD N7 bs7 [.ref CBase, .type "ValueError", .type "Exception", .type "BaseException", .type "object"] true sn7 sub7 ab7 col7 dd7 m0_7 m1_7 m2_7 m3_7 m5_7 "ValueError.__new__"))
    (e7_sa : PySem.W.findIn K (.ref CNotD) "__setattr__" = some (some (.builtin "object.__setattr__")))
    (e7_ga : PySem.W.findIn K (.ref CNotD) "__getattribute__" = some (some (.builtin "BaseException.__getattribute__")))
    (e7_gg : PySem.W.findIn K (.ref CNotD) "__getattr__" = some none)
    (e7_nb : PySem.W.findIn K (.ref CNotD) "value" = some none)
    (e7_ai : PySem.W.findIn K (.ref CNotD) "__init__" = some (some (.ref fi7)))
    (e7_ti : PySem.W.typeIn K (.ref fi7) = some (.type "function"))
    (e7_li : K.lookup fi7 = some ⟨oci7, odi7, .func (PySem.W.fnOf "__init__" "NotDead.__init__" (defArgs sNotD) (defBody sNotD) (defScope sNotD) .none kVi7 dci7 pmi7 ani7 cdi7 cti7), sli7⟩)
    (e7_ci : PySem.W.codeIn K cdi7 "NotDead.__init__" = true)
    (e7_ki : PySem.W.keepIn K (.ref fi7) = true)
    (e7_kC : PySem.W.keepIn K (.ref CNotD) = true)
    (e7_eC : PySem.W.subIn K (.ref CNotD) (.type "BaseException") = some true)
    (e7_tC : PySem.W.typeIn K (.ref CNotD) = some (.type "type"))
    (e7_hC : PySem.W.hasDictIn K CNotD = true)
    (e7_cC : PySem.W.findIn K (.ref CNotD) "__class__" = some (some (.builtin "object.__class__")))
    (e7_gC : PySem.W.specialIn K (.builtin "object.__class__") "__get__" = some (some (.builtin "getset_descriptor.__get__")))
    (e7_kk : PySem.W.takesIn K (.builtin "object.__class__") = some true)
    (e7_mC : PySem.W.mroIn K CNotD (.type "object") = some true)
    (e7_sB : PySem.W.subIn K (.ref CNotD) (.ref CBase) = some true)
    (ac8 : PySem.W.nsIn K mainGlobals "TooFew" = some (some (.ref CTooF)))
    (e8_xL : K.lookup CTooF = some (excClassObj nm8 q8 CTooF N8 bs8 [.ref CBase, .type "ValueError", .type "Exception", .type "BaseException", .type "object"] true sn8 sub8 ab8 col8 dd8 m0_8 m1_8 m2_8 m3_8 m5_8 "ValueError.__new__"))
    (e8_sa : PySem.W.findIn K (.ref CTooF) "__setattr__" = some (some (.builtin "object.__setattr__")))
    (e8_ga : PySem.W.findIn K (.ref CTooF) "__getattribute__" = some (some (.builtin "BaseException.__getattribute__")))
    (e8_gg : PySem.W.findIn K (.ref CTooF) "__getattr__" = some none)
    (e8_nb : PySem.W.findIn K (.ref CTooF) "alive" = some none)
    (e8_ai : PySem.W.findIn K (.ref CTooF) "__init__" = some (some (.ref fi8)))
    (e8_ti : PySem.W.typeIn K (.ref fi8) = some (.type "function"))
    (e8_li : K.lookup fi8 = some ⟨oci8, odi8, .func (PySem.W.fnOf "__init__" "TooFew.__init__" (defArgs sTooF) (defBody sTooF) (defScope sTooF) .none kVi8 dci8 pmi8 ani8 cdi8 cti8), sli8⟩)
    (e8_ci : PySem.W.codeIn K cdi8 "TooFew.__init__" = true)
    (e8_ki : PySem.W.keepIn K (.ref fi8) = true)
    (e8_kC : PySem.W.keepIn K (.ref CTooF) = true)
    (e8_eC : PySem.W.subIn K (.ref CTooF) (.type "BaseException") = some true)
    (e8_tC : PySem.W.typeIn K (.ref CTooF) = some (.type "type"))
    (e8_hC : PySem.W.hasDictIn K CTooF = true)
    (e8_cC : PySem.W.findIn K (.ref CTooF) "__class__" = some (some (.builtin "object.__class__")))
    (e8_gC : PySem.W.specialIn K (.builtin "object.__class__") "__get__" = some (some (.builtin "getset_descriptor.__get__")))
    (e8_kk : PySem.W.takesIn K (.builtin "object.__class__") = some true)
    (e8_mC : PySem.W.mroIn K CTooF (.type "object") = some true)
    (e8_sB : PySem.W.subIn K (.ref CTooF) (.ref CBase) = some true)
    (ac9 : PySem.W.nsIn K mainGlobals "NoUndo" = some (some (.ref CNoU)))
    (ac10 : PySem.W.nsIn K mainGlobals "NoText" = some (some (.ref CNoT)))
    (e10_xL : K.lookup CNoT = some (excClassObj nm10 q10 CNoT N10 bs10 [.ref CBase, .type "ValueError", .type "Exception", .type "BaseException", .type "object"] true sn10 sub10 ab10 col10 dd10 m0_10 m1_10 m2_10 m3_10 m5_10 "ValueError.__new__"))
    (e10_sa : PySem.W.findIn K (.ref CNoT) "__setattr__" = some (some (.builtin "object.__setattr__")))
    (e10_ga : PySem.W.findIn K (.ref CNoT) "__getattribute__" = some (some (.builtin "BaseException.__getattribute__")))
    (e10_gg : PySem.W.findIn K (.ref CNoT) "__getattr__" = some none)
    (e10_nb : PySem.W.findIn K (.ref CNoT) "row" = some none)
    (e10_ai : PySem.W.findIn K (.ref CNoT) "__init__" = some (some (.ref fi10)))
    (e10_ti : PySem.W.typeIn K (.ref fi10) = some (.type "function"))
    (e10_li : K.lookup fi10 = some ⟨oci10, odi10, .func (PySem.W.fnOf "__init__" "NoText.__init__" (defArgs sNoT) (defBody sNoT) (defScope sNoT) .none kVi10 dci10 pmi10 ani10 cdi10 cti10), sli10⟩)
    (e10_ci : PySem.W.codeIn K cdi10 "NoText.__init__" = true)
    (e10_ki : PySem.W.keepIn K (.ref fi10) = true)
    (e10_kC : PySem.W.keepIn K (.ref CNoT) = true)
    (e10_eC : PySem.W.subIn K (.ref CNoT) (.type "BaseException") = some true)
    (e10_tC : PySem.W.typeIn K (.ref CNoT) = some (.type "type"))
    (e10_hC : PySem.W.hasDictIn K CNoT = true)
    (e10_cC : PySem.W.findIn K (.ref CNoT) "__class__" = some (some (.builtin "object.__class__")))
    (e10_gC : PySem.W.specialIn K (.builtin "object.__class__") "__get__" = some (some (.builtin "getset_descriptor.__get__")))
    (e10_kk : PySem.W.takesIn K (.builtin "object.__class__") = some true)
    (e10_mC : PySem.W.mroIn K CNoT (.type "object") = some true)
    (e10_sB : PySem.W.subIn K (.ref CNoT) (.ref CBase) = some true)
    (ac11 : PySem.W.nsIn K mainGlobals "NoLine" = some (some (.ref CNoLi)))
    (e11_xL : K.lookup CNoLi = some (excClassObj nm11 q11 CNoLi N11 bs11 [.ref CBase, .type "ValueError", .type "Exception", .type "BaseException", .type "object"] true sn11 sub11 ab11 col11 dd11 m0_11 m1_11 m2_11 m3_11 m5_11 "ValueError.__new__"))
    (e11_sa : PySem.W.findIn K (.ref CNoLi) "__setattr__" = some (some (.builtin "object.__setattr__")))
    (e11_ga : PySem.W.findIn K (.ref CNoLi) "__getattribute__" = some (some (.builtin "BaseException.__getattribute__")))
    (e11_gg : PySem.W.findIn K (.ref CNoLi) "__getattr__" = some none)
    (e11_nb : PySem.W.findIn K (.ref CNoLi) "value" = some none)
    (e11_ai : PySem.W.findIn K (.ref CNoLi) "__init__" = some (some (.ref fi11)))
    (e11_ti : PySem.W.typeIn K (.ref fi11) = some (.type "function"))
    (e11_li : K.lookup fi11 = some ⟨oci11, odi11, .func (PySem.W.fnOf "__init__" "NoLine.__init__" (defArgs sNoLi) (defBody sNoLi) (defScope sNoLi) .none kVi11 dci11 pmi11 ani11 cdi11 cti11), sli11⟩)
    (e11_ci : PySem.W.codeIn K cdi11 "NoLine.__init__" = true)
    (e11_ki : PySem.W.keepIn K (.ref fi11) = true)
    (e11_kC : PySem.W.keepIn K (.ref CNoLi) = true)
    (e11_eC : PySem.W.subIn K (.ref CNoLi) (.type "BaseException") = some true)
    (e11_tC : PySem.W.typeIn K (.ref CNoLi) = some (.type "type"))
    (e11_hC : PySem.W.hasDictIn K CNoLi = true)
    (e11_cC : PySem.W.findIn K (.ref CNoLi) "__class__" = some (some (.builtin "object.__class__")))
    (e11_gC : PySem.W.specialIn K (.builtin "object.__class__") "__get__" = some (some (.builtin "getset_descriptor.__get__")))
    (e11_kk : PySem.W.takesIn K (.builtin "object.__class__") = some true)
    (e11_mC : PySem.W.mroIn K CNoLi (.type "object") = some true)
    (e11_sB : PySem.W.subIn K (.ref CNoLi) (.ref CBase) = some true)
    (al_successor_failures : PySem.W.nsIn K mainGlobals "successor_failures" = some (some (.ref f16)))
    (oc_Clu : PySem.W.nsIn K mainGlobals "Cluster" = some (some (.ref CClu)))
    (opg_Clu : PySem.W.plainGet K CClu Str.empty = true)
    (ohd_Clu : PySem.W.hasDictIn K CClu = true)
    (opo_Clu : PySem.W.plainOver K CClu = true)
    (osa_Clu : PySem.W.findIn K (.ref CClu) "__setattr__" = some (some (.builtin "object.__setattr__")))
    (omk_Clu : PySem.W.makesIn K CClu = true)
    (okc_Clu : PySem.W.keepIn K (.ref CClu) = true)
    (on_Clu_n : PySem.W.findIn K (.ref CClu) "n" = some none)
    (on_Clu_failures : PySem.W.findIn K (.ref CClu) "failures" = some none)
    (on_Clu_factor : PySem.W.findIn K (.ref CClu) "factor" = some none)
    (on_Clu_count : PySem.W.findIn K (.ref CClu) "count" = some none)
    (on_Clu_living : PySem.W.findIn K (.ref CClu) "living" = some none)
    (on_Clu_past : PySem.W.findIn K (.ref CClu) "past" = some none)
    (oc_Desk : PySem.W.nsIn K mainGlobals "Desk" = some (some (.ref CDesk)))
    (opg_Desk : PySem.W.plainGet K CDesk Str.empty = true)
    (ohd_Desk : PySem.W.hasDictIn K CDesk = true)
    (opo_Desk : PySem.W.plainOver K CDesk = true)
    (osa_Desk : PySem.W.findIn K (.ref CDesk) "__setattr__" = some (some (.builtin "object.__setattr__")))
    (omk_Desk : PySem.W.makesIn K CDesk = true)
    (okc_Desk : PySem.W.keepIn K (.ref CDesk) = true)
    (on_Desk_cluster : PySem.W.findIn K (.ref CDesk) "cluster" = some none)
    (ma1 : PySem.W.findIn K (.ref CClu) "__init__" = some (some (.ref mf1)))
    (mi1 : PySem.W.isFn K (.ref mf1) = true)
    (ml1 : K.lookup mf1 = some ⟨moc1, mod1, .func (PySem.W.fnOf "__init__" "Cluster.__init__" (defArgs sCluInit) (defBody sCluInit) (defScope sCluInit) .none mkV1 mdc1 mpm1 man1 mcd1 mct1), msl1⟩)
    (mc1 : PySem.W.codeIn K mcd1 "Cluster.__init__" = true)
    (mk1 : PySem.W.keepIn K (.ref mf1) = true)
    (ma2 : PySem.W.findIn K (.ref CClu) "live" = some (some (.ref mf2)))
    (mi2 : PySem.W.isFn K (.ref mf2) = true)
    (ml2 : K.lookup mf2 = some ⟨moc2, mod2, .func (PySem.W.fnOf "live" "Cluster.live" (defArgs sCluLive) (defBody sCluLive) (defScope sCluLive) .none mkV2 mdc2 mpm2 man2 mcd2 mct2), msl2⟩)
    (mc2 : PySem.W.codeIn K mcd2 "Cluster.live" = true)
    (mk2 : PySem.W.keepIn K (.ref mf2) = true)
    (ma3 : PySem.W.findIn K (.ref CClu) "list_of" = some (some (.ref mf3)))
    (mi3 : PySem.W.isFn K (.ref mf3) = true)
    (ml3 : K.lookup mf3 = some ⟨moc3, mod3, .func (PySem.W.fnOf "list_of" "Cluster.list_of" (defArgs sCluListOf) (defBody sCluListOf) (defScope sCluListOf) .none mkV3 mdc3 mpm3 man3 mcd3 mct3), msl3⟩)
    (mc3 : PySem.W.codeIn K mcd3 "Cluster.list_of" = true)
    (mk3 : PySem.W.keepIn K (.ref mf3) = true)
    (ma4 : PySem.W.findIn K (.ref CClu) "owners" = some (some (.ref mf4)))
    (mi4 : PySem.W.isFn K (.ref mf4) = true)
    (ml4 : K.lookup mf4 = some ⟨moc4, mod4, .func (PySem.W.fnOf "owners" "Cluster.owners" (defArgs sCluOwners) (defBody sCluOwners) (defScope sCluOwners) .none mkV4 mdc4 mpm4 man4 mcd4 mct4), msl4⟩)
    (mc4 : PySem.W.codeIn K mcd4 "Cluster.owners" = true)
    (mk4 : PySem.W.keepIn K (.ref mf4) = true)
    (ma5 : PySem.W.findIn K (.ref CClu) "load" = some (some (.ref mf5)))
    (mi5 : PySem.W.isFn K (.ref mf5) = true)
    (ml5 : K.lookup mf5 = some ⟨moc5, mod5, .func (PySem.W.fnOf "load" "Cluster.load" (defArgs sCluLoad) (defBody sCluLoad) (defScope sCluLoad) .none mkV5 mdc5 mpm5 man5 mcd5 mct5), msl5⟩)
    (mc5 : PySem.W.codeIn K mcd5 "Cluster.load" = true)
    (mk5 : PySem.W.keepIn K (.ref mf5) = true)
    (ma6 : PySem.W.findIn K (.ref CClu) "successor" = some (some (.ref mf6)))
    (mi6 : PySem.W.isFn K (.ref mf6) = true)
    (ml6 : K.lookup mf6 = some ⟨moc6, mod6, .func (PySem.W.fnOf "successor" "Cluster.successor" (defArgs sCluSuccessor) (defBody sCluSuccessor) (defScope sCluSuccessor) .none mkV6 mdc6 mpm6 man6 mcd6 mct6), msl6⟩)
    (mc6 : PySem.W.codeIn K mcd6 "Cluster.successor" = true)
    (mk6 : PySem.W.keepIn K (.ref mf6) = true)
    (ma7 : PySem.W.findIn K (.ref CClu) "fail" = some (some (.ref mf7)))
    (mi7 : PySem.W.isFn K (.ref mf7) = true)
    (ml7 : K.lookup mf7 = some ⟨moc7, mod7, .func (PySem.W.fnOf "fail" "Cluster.fail" (defArgs sCluFail) (defBody sCluFail) (defScope sCluFail) .none mkV7 mdc7 mpm7 man7 mcd7 mct7), msl7⟩)
    (mc7 : PySem.W.codeIn K mcd7 "Cluster.fail" = true)
    (mk7 : PySem.W.keepIn K (.ref mf7) = true)
    (ma8 : PySem.W.findIn K (.ref CClu) "recover" = some (some (.ref mf8)))
    (mi8 : PySem.W.isFn K (.ref mf8) = true)
    (ml8 : K.lookup mf8 = some ⟨moc8, mod8, .func (PySem.W.fnOf "recover" "Cluster.recover" (defArgs sCluRecover) (defBody sCluRecover) (defScope sCluRecover) .none mkV8 mdc8 mpm8 man8 mcd8 mct8), msl8⟩)
    (mc8 : PySem.W.codeIn K mcd8 "Cluster.recover" = true)
    (mk8 : PySem.W.keepIn K (.ref mf8) = true)
    (ma9 : PySem.W.findIn K (.ref CClu) "copied" = some (some (.ref mf9)))
    (mi9 : PySem.W.isFn K (.ref mf9) = true)
    (ml9 : K.lookup mf9 = some ⟨moc9, mod9, .func (PySem.W.fnOf "copied" "Cluster.copied" (defArgs sCluCopied) (defBody sCluCopied) (defScope sCluCopied) .none mkV9 mdc9 mpm9 man9 mcd9 mct9), msl9⟩)
    (mc9 : PySem.W.codeIn K mcd9 "Cluster.copied" = true)
    (mk9 : PySem.W.keepIn K (.ref mf9) = true)
    (ma10 : PySem.W.findIn K (.ref CClu) "changes" = some (some (.ref mf10)))
    (mi10 : PySem.W.isFn K (.ref mf10) = true)
    (ml10 : K.lookup mf10 = some ⟨moc10, mod10, .func (PySem.W.fnOf "changes" "Cluster.changes" (defArgs sCluChanges) (defBody sCluChanges) (defScope sCluChanges) .none mkV10 mdc10 mpm10 man10 mcd10 mct10), msl10⟩)
    (mc10 : PySem.W.codeIn K mcd10 "Cluster.changes" = true)
    (mk10 : PySem.W.keepIn K (.ref mf10) = true)
    (ma11 : PySem.W.findIn K (.ref CClu) "undo" = some (some (.ref mf11)))
    (mi11 : PySem.W.isFn K (.ref mf11) = true)
    (ml11 : K.lookup mf11 = some ⟨moc11, mod11, .func (PySem.W.fnOf "undo" "Cluster.undo" (defArgs sCluUndo) (defBody sCluUndo) (defScope sCluUndo) .none mkV11 mdc11 mpm11 man11 mcd11 mct11), msl11⟩)
    (mc11 : PySem.W.codeIn K mcd11 "Cluster.undo" = true)
    (mk11 : PySem.W.keepIn K (.ref mf11) = true)
    (ma12 : PySem.W.findIn K (.ref CClu) "copy" = some (some (.ref mf12)))
    (mi12 : PySem.W.isFn K (.ref mf12) = true)
    (ml12 : K.lookup mf12 = some ⟨moc12, mod12, .func (PySem.W.fnOf "copy" "Cluster.copy" (defArgs sCluCopy) (defBody sCluCopy) (defScope sCluCopy) .none mkV12 mdc12 mpm12 man12 mcd12 mct12), msl12⟩)
    (mc12 : PySem.W.codeIn K mcd12 "Cluster.copy" = true)
    (mk12 : PySem.W.keepIn K (.ref mf12) = true)
    (ma13 : PySem.W.findIn K (.ref CClu) "turn" = some (some (.ref mf13)))
    (mi13 : PySem.W.isFn K (.ref mf13) = true)
    (ml13 : K.lookup mf13 = some ⟨moc13, mod13, .func (PySem.W.fnOf "turn" "Cluster.turn" (defArgs sCluTurn) (defBody sCluTurn) (defScope sCluTurn) .none mkV13 mdc13 mpm13 man13 mcd13 mct13), msl13⟩)
    (mc13 : PySem.W.codeIn K mcd13 "Cluster.turn" = true)
    (mk13 : PySem.W.keepIn K (.ref mf13) = true)
    (ma14 : PySem.W.findIn K (.ref CClu) "check_live" = some (some (.ref mf14)))
    (mi14 : PySem.W.isFn K (.ref mf14) = true)
    (ml14 : K.lookup mf14 = some ⟨moc14, mod14, .func (PySem.W.fnOf "check_live" "Cluster.check_live" (defArgs sCluCheckLive) (defBody sCluCheckLive) (defScope sCluCheckLive) .none mkV14 mdc14 mpm14 man14 mcd14 mct14), msl14⟩)
    (mc14 : PySem.W.codeIn K mcd14 "Cluster.check_live" = true)
    (mk14 : PySem.W.keepIn K (.ref mf14) = true)
    (ma15 : PySem.W.findIn K (.ref CClu) "check_can_fail" = some (some (.ref mf15)))
    (mi15 : PySem.W.isFn K (.ref mf15) = true)
    (ml15 : K.lookup mf15 = some ⟨moc15, mod15, .func (PySem.W.fnOf "check_can_fail" "Cluster.check_can_fail" (defArgs sCluCheckCanFail) (defBody sCluCheckCanFail) (defScope sCluCheckCanFail) .none mkV15 mdc15 mpm15 man15 mcd15 mct15), msl15⟩)
    (mc15 : PySem.W.codeIn K mcd15 "Cluster.check_can_fail" = true)
    (mk15 : PySem.W.keepIn K (.ref mf15) = true)
    (ma16 : PySem.W.findIn K (.ref CClu) "__eq__" = some (some (.ref mf16)))
    (mi16 : PySem.W.isFn K (.ref mf16) = true)
    (ml16 : K.lookup mf16 = some ⟨moc16, mod16, .func (PySem.W.fnOf "__eq__" "Cluster.__eq__" (defArgs sCluEq) (defBody sCluEq) (defScope sCluEq) .none mkV16 mdc16 mpm16 man16 mcd16 mct16), msl16⟩)
    (mc16 : PySem.W.codeIn K mcd16 "Cluster.__eq__" = true)
    (mk16 : PySem.W.keepIn K (.ref mf16) = true)
    (ma17 : PySem.W.findIn K (.ref CClu) "__len__" = some (some (.ref mf17)))
    (mi17 : PySem.W.isFn K (.ref mf17) = true)
    (ml17 : K.lookup mf17 = some ⟨moc17, mod17, .func (PySem.W.fnOf "__len__" "Cluster.__len__" (defArgs sCluLen) (defBody sCluLen) (defScope sCluLen) .none mkV17 mdc17 mpm17 man17 mcd17 mct17), msl17⟩)
    (mc17 : PySem.W.codeIn K mcd17 "Cluster.__len__" = true)
    (mk17 : PySem.W.keepIn K (.ref mf17) = true)
    (ma18 : PySem.W.findIn K (.ref CDesk) "__init__" = some (some (.ref mf18)))
    (mi18 : PySem.W.isFn K (.ref mf18) = true)
    (ml18 : K.lookup mf18 = some ⟨moc18, mod18, .func (PySem.W.fnOf "__init__" "Desk.__init__" (defArgs sDeskInit) (defBody sDeskInit) (defScope sDeskInit) .none mkV18 mdc18 mpm18 man18 mcd18 mct18), msl18⟩)
    (mc18 : PySem.W.codeIn K mcd18 "Desk.__init__" = true)
    (mk18 : PySem.W.keepIn K (.ref mf18) = true)
    (ma19 : PySem.W.findIn K (.ref CDesk) "say" = some (some (.ref mf19)))
    (mi19 : PySem.W.isFn K (.ref mf19) = true)
    (ml19 : K.lookup mf19 = some ⟨moc19, mod19, .func (PySem.W.fnOf "say" "Desk.say" (defArgs sDeskSay) (defBody sDeskSay) (defScope sDeskSay) .none mkV19 mdc19 mpm19 man19 mcd19 mct19), msl19⟩)
    (mc19 : PySem.W.codeIn K mcd19 "Desk.say" = true)
    (mk19 : PySem.W.keepIn K (.ref mf19) = true)
    (kt_kitDig : PySem.W.nsIn K cStatics "sys.int_max_str_digits" = some none)
    (kt_kNoUx : PySem.W.excIn K CNoU [.type "ValueError", .type "Exception", .type "BaseException", .type "object"] "ValueError.__new__" = true)
    (kt_kNoUk : PySem.W.keepIn K (.ref CNoU) = true)
    (kt_kNoUb : PySem.W.subIn K (.ref CNoU) (.type "BaseException") = some true)
    (kt_kNoUt : PySem.W.typeIn K (.ref CNoU) = some (.type "type"))
    (kt_kNoUe : PySem.W.exmOne K (.ref CNoU) (.ref CBase) = some true)
    (kt_kNoUg : PySem.W.findIn K (.ref CNoU) "__getattribute__" = some (some (.builtin "BaseException.__getattribute__")))
    (kt_kNoUa : PySem.W.findIn K (.ref CNoU) "__getattr__" = some none)
    (kt_kNoUd : PySem.W.hasDictIn K CNoU = true)
    (kt_kNoUc : PySem.W.findIn K (.ref CNoU) "__class__" = some (some (.builtin "object.__class__")))
    (kt_kNoUm : PySem.W.mroIn K CNoU (.type "object") = some true)
    (kt_kit_NoLi_NoLi : PySem.W.kitOne K (.ref CNoLi) (.ref CNoLi) = some true)
    (kt_kit_NoLi_NoN : PySem.W.kitOne K (.ref CNoLi) (.ref CNoN) = some false)
    (kt_kit_NoLi_NotL : PySem.W.kitOne K (.ref CNoLi) (.ref CNotL) = some false)
    (kt_kit_NoLi_NotD : PySem.W.kitOne K (.ref CNoLi) (.ref CNotD) = some false)
    (kt_kit_NoLi_TooF : PySem.W.kitOne K (.ref CNoLi) (.ref CTooF) = some false)
    (kt_kit_NoLi_NoU : PySem.W.kitOne K (.ref CNoLi) (.ref CNoU) = some false)
    (kt_kit_NoN_NoLi : PySem.W.kitOne K (.ref CNoN) (.ref CNoLi) = some false)
    (kt_kit_NoN_NoN : PySem.W.kitOne K (.ref CNoN) (.ref CNoN) = some true)
    (kt_kit_NoN_NotL : PySem.W.kitOne K (.ref CNoN) (.ref CNotL) = some false)
    (kt_kit_NoN_NotD : PySem.W.kitOne K (.ref CNoN) (.ref CNotD) = some false)
    (kt_kit_NoN_TooF : PySem.W.kitOne K (.ref CNoN) (.ref CTooF) = some false)
    (kt_kit_NoN_NoU : PySem.W.kitOne K (.ref CNoN) (.ref CNoU) = some false)
    (kt_kit_NotL_NoLi : PySem.W.kitOne K (.ref CNotL) (.ref CNoLi) = some false)
    (kt_kit_NotL_NoN : PySem.W.kitOne K (.ref CNotL) (.ref CNoN) = some false)
    (kt_kit_NotL_NotL : PySem.W.kitOne K (.ref CNotL) (.ref CNotL) = some true)
    (kt_kit_NotL_NotD : PySem.W.kitOne K (.ref CNotL) (.ref CNotD) = some false)
    (kt_kit_NotL_TooF : PySem.W.kitOne K (.ref CNotL) (.ref CTooF) = some false)
    (kt_kit_NotL_NoU : PySem.W.kitOne K (.ref CNotL) (.ref CNoU) = some false)
    (kt_kit_NotD_NoLi : PySem.W.kitOne K (.ref CNotD) (.ref CNoLi) = some false)
    (kt_kit_NotD_NoN : PySem.W.kitOne K (.ref CNotD) (.ref CNoN) = some false)
    (kt_kit_NotD_NotL : PySem.W.kitOne K (.ref CNotD) (.ref CNotL) = some false)
    (kt_kit_NotD_NotD : PySem.W.kitOne K (.ref CNotD) (.ref CNotD) = some true)
    (kt_kit_NotD_TooF : PySem.W.kitOne K (.ref CNotD) (.ref CTooF) = some false)
    (kt_kit_NotD_NoU : PySem.W.kitOne K (.ref CNotD) (.ref CNoU) = some false)
    (kt_kit_TooF_NoLi : PySem.W.kitOne K (.ref CTooF) (.ref CNoLi) = some false)
    (kt_kit_TooF_NoN : PySem.W.kitOne K (.ref CTooF) (.ref CNoN) = some false)
    (kt_kit_TooF_NotL : PySem.W.kitOne K (.ref CTooF) (.ref CNotL) = some false)
    (kt_kit_TooF_NotD : PySem.W.kitOne K (.ref CTooF) (.ref CNotD) = some false)
    (kt_kit_TooF_TooF : PySem.W.kitOne K (.ref CTooF) (.ref CTooF) = some true)
    (kt_kit_TooF_NoU : PySem.W.kitOne K (.ref CTooF) (.ref CNoU) = some false)
    (kt_kit_NoU_NoLi : PySem.W.kitOne K (.ref CNoU) (.ref CNoLi) = some false)
    (kt_kit_NoU_NoN : PySem.W.kitOne K (.ref CNoU) (.ref CNoN) = some false)
    (kt_kit_NoU_NotL : PySem.W.kitOne K (.ref CNoU) (.ref CNotL) = some false)
    (kt_kit_NoU_NotD : PySem.W.kitOne K (.ref CNoU) (.ref CNotD) = some false)
    (kt_kit_NoU_TooF : PySem.W.kitOne K (.ref CNoU) (.ref CTooF) = some false)
    (kt_kit_NoU_NoU : PySem.W.kitOne K (.ref CNoU) (.ref CNoU) = some true)
    (kt_kSV_NoLi : PySem.W.kitOne K (.ref CNoLi) (.type "ValueError") = some true)
    (kt_kSV_NoN : PySem.W.kitOne K (.ref CNoN) (.type "ValueError") = some true)
    (kt_kSV_NotL : PySem.W.kitOne K (.ref CNotL) (.type "ValueError") = some true)
    (kt_kSV_NotD : PySem.W.kitOne K (.ref CNotD) (.type "ValueError") = some true)
    (kt_kSV_TooF : PySem.W.kitOne K (.ref CTooF) (.type "ValueError") = some true)
    (kt_kSV_NoU : PySem.W.kitOne K (.ref CNoU) (.type "ValueError") = some true)
    (gd_Forms : PySem.W.nsIn K mainGlobals "FORMS" = some (some (.ref CdForms)))
    (dw_Forms : He.dicW K CdForms = some (He.keysIn w.params ["fail", "recover", "owners", "successor", "load", "live", "copied", "changes", "undo", "list", "text"]))
    (dk_Forms_fail : PySem.W.nsIn K CdForms "fail" = some (some (.int 1 tq_Forms_fail)))
    (dk_Forms_recover : PySem.W.nsIn K CdForms "recover" = some (some (.int 1 tq_Forms_recover)))
    (dk_Forms_owners : PySem.W.nsIn K CdForms "owners" = some (some (.int 1 tq_Forms_owners)))
    (dk_Forms_successor : PySem.W.nsIn K CdForms "successor" = some (some (.int 2 tq_Forms_successor)))
    (dk_Forms_load : PySem.W.nsIn K CdForms "load" = some (some (.int 1 tq_Forms_load)))
    (dk_Forms_live : PySem.W.nsIn K CdForms "live" = some (some (.int 0 tq_Forms_live)))
    (dk_Forms_copied : PySem.W.nsIn K CdForms "copied" = some (some (.int 0 tq_Forms_copied)))
    (dk_Forms_changes : PySem.W.nsIn K CdForms "changes" = some (some (.int 0 tq_Forms_changes)))
    (dk_Forms_undo : PySem.W.nsIn K CdForms "undo" = some (some (.int 0 tq_Forms_undo)))
    (dk_Forms_list : PySem.W.nsIn K CdForms "list" = some (some (.int 1 tq_Forms_list)))
    (dk_Forms_text : PySem.W.nsIn K CdForms "text" = some (some (.int 0 tq_Forms_text)))
    (gl_LEAST_SERVERS : PySem.W.nsIn K mainGlobals "LEAST_SERVERS" = some (some (.int 2 tk_LEAST_SERVERS)))
    (gl_MOST_SERVERS : PySem.W.nsIn K mainGlobals "MOST_SERVERS" = some (some (.int 60 tk_MOST_SERVERS)))
    (gl_MOST_DIGITS : PySem.W.nsIn K mainGlobals "MOST_DIGITS" = some (some (.int 40 tk_MOST_DIGITS)))
    (z1 : PySem.W.nsIn K mainGlobals "ValueError" = some none)
    (z2 : PySem.W.nsIn K mainGlobals "abs" = some none)
    (z3 : PySem.W.nsIn K mainGlobals "bool" = some none)
    (z4 : PySem.W.nsIn K mainGlobals "int" = some none)
    (z5 : PySem.W.nsIn K mainGlobals "isinstance" = some none)
    (z6 : PySem.W.nsIn K mainGlobals "len" = some none)
    (z7 : PySem.W.nsIn K mainGlobals "list" = some none)
    (z8 : PySem.W.nsIn K mainGlobals "max" = some none)
    (z9 : PySem.W.nsIn K mainGlobals "min" = some none)
    (z10 : PySem.W.nsIn K mainGlobals "range" = some none)
    (z11 : PySem.W.nsIn K mainGlobals "repr" = some none)
    (z12 : PySem.W.nsIn K mainGlobals "set" = some none)
    (z13 : PySem.W.nsIn K mainGlobals "sorted" = some none)
    (z14 : PySem.W.nsIn K mainGlobals "str" = some none)
    (z15 : PySem.W.nsIn K mainGlobals "tuple" = some none)
    (tbRight54 : PySem.W.tabIn K "_law_right" = some (tcRight54, tpRight54))
    (tnRight54 : K.lookup tpRight54 = none)
    (trRight54 : ((recsOf qq).find? fun e => e.name == ("_law_right" : Str)).isSome = true)
    : LawT qq l w K 16 63 "_law_script" mg fa := by
  have e := hfa.symm.trans (PySem.W.mg_of X G a45)
  cases e
  have F1 := fun_mk (st := sPlain) l1 c1 k1
  have b1 := F1.binds (ps := ["thing"]) fun _ _ _ _ _ _ us hl => match us, hl with | [_], _ => rfl
  have F2 := fun_mk (st := sParts) l2 c2 k2
  have b2 := F2.binds (ps := ["n", "depth"]) fun _ _ _ _ _ _ us hl => match us, hl with | [_, _], _ => rfl
  have F3 := fun_mk (st := sPoss) l3 c3 k3
  have b3 := F3.binds (ps := ["n", "depth", "count"]) fun _ _ _ _ _ _ us hl => match us, hl with | [_, _, _], _ => rfl
  have F4 := fun_mk (st := sReachOf) l4 c4 k4
  have b4 := F4.binds (ps := ["n", "failures", "factor"]) fun _ _ _ _ _ _ us hl => match us, hl with | [_, _, _], _ => rfl
  have F5 := fun_mk (st := sChkP) l5 c5 k5
  have b5 := F5.binds (ps := ["n", "depth", "count"]) fun _ _ _ _ _ _ us hl => match us, hl with | [_, _, _], _ => rfl
  have F6 := fun_mk (st := sChkN) l6 c6 k6
  have b6 := F6.binds (ps := ["value", "many"]) fun _ _ _ _ _ _ us hl => match us, hl with | [_, _], _ => rfl
  have F7 := fun_mk (st := sShared) l7 c7 k7
  have b7 := F7.binds (ps := ["total", "parts"]) fun _ _ _ _ _ _ us hl => match us, hl with | [_, _], _ => rfl
  have F8 := fun_mk (st := sHbSrv) l8 c8 k8
  have b8 := F8.binds (ps := ["n", "count", "alive", "factor"]) fun _ _ _ _ _ _ us hl => match us, hl with | [_, _, _, _], _ => rfl
  have F9 := fun_mk (st := sWid) l9 c9 k9
  have b9 := F9.binds (ps := ["n", "depth", "count"]) fun _ _ _ _ _ _ us hl => match us, hl with | [_, _, _], _ => rfl
  have F10 := fun_mk (st := sFollow) l10 c10 k10
  have b10 := F10.binds (ps := ["widths", "servers", "rest"]) fun _ _ _ _ _ _ us hl => match us, hl with | [_, _, _], _ => rfl
  have F11 := fun_mk (st := sPath) l11 c11 k11
  have b11 := F11.binds (ps := ["n", "depth", "count", "number"]) fun _ _ _ _ _ _ us hl => match us, hl with | [_, _, _, _], _ => rfl
  have F12 := fun_mk (st := sSet) l12 c12 k12
  have b12 := F12.binds (ps := ["n", "thing"]) fun _ _ _ _ _ _ us hl => match us, hl with | [_, _], _ => rfl
  have F13 := fun_mk (st := sOut) l13 c13 k13
  have b13 := F13.binds (ps := ["n", "members"]) fun _ _ _ _ _ _ us hl => match us, hl with | [_, _], _ => rfl
  have F14 := fun_mk (st := sJoined) l14 c14 k14
  have b14 := F14.binds (ps := ["members", "server"]) fun _ _ _ _ _ _ us hl => match us, hl with | [_, _], _ => rfl
  have F15 := fun_mk (st := sHold) l15 c15 k15
  have b15 := F15.binds (ps := ["order", "live", "factor"]) fun _ _ _ _ _ _ us hl => match us, hl with | [_, _, _], _ => rfl
  have F16 := fun_mk (st := sSucc) l16 c16 k16
  have b16 := F16.binds (ps := ["order", "live", "factor", "failed"]) fun _ _ _ _ _ _ us hl => match us, hl with | [_, _, _, _], _ => rfl
  have F17 := fun_mk (st := sChkF) l17 c17 k17
  have b17 := F17.binds (ps := ["field", "value", "least", "most"]) fun _ _ _ _ _ _ us hl => match us, hl with | [_, _, _, _], _ => rfl
  have F18 := fun_mk (st := sShowR) l18 c18 k18
  have b18 := F18.binds (ps := ["things"]) fun _ _ _ _ _ _ us hl => match us, hl with | [_], _ => rfl
  have F19 := fun_mk (st := sShowC) l19 c19 k19
  have b19 := F19.binds (ps := ["cluster"]) fun _ _ _ _ _ _ us hl => match us, hl with | [_], _ => rfl
  have F20 := fun_mk (st := sNumW) l20 c20 k20
  have b20 := F20.binds (ps := ["word"]) fun _ _ _ _ _ _ us hl => match us, hl with | [_], _ => rfl
  have F21 := fun_mk (st := sReadN) l21 c21 k21
  have b21 := F21.binds (ps := ["words"]) fun _ _ _ _ _ _ us hl => match us, hl with | [_], _ => rfl
  have F22 := fun_mk (st := sReadF) l22 c22 k22
  have b22 := F22.binds (ps := ["row", "name", "many"]) fun _ _ _ _ _ _ us hl => match us, hl with | [_, _, _], _ => rfl
  have F23 := fun_mk (st := sRowsOf) l23 c23 k23
  have b23 := F23.binds (ps := ["text"]) fun _ _ _ _ _ _ us hl => match us, hl with | [_], _ => rfl
  have F24 := fun_mk (st := sReadH) l24 c24 k24
  have b24 := F24.binds (ps := ["row"]) fun _ _ _ _ _ _ us hl => match us, hl with | [_], _ => rfl
  have F25 := fun_mk (st := sReadD) l25 c25 k25
  have b25 := F25.binds (ps := ["cluster", "row"]) fun _ _ _ _ _ _ us hl => match us, hl with | [_, _], _ => rfl
  have F26 := fun_mk (st := sReadC) l26 c26 k26
  have b26 := F26.binds (ps := ["text"]) fun _ _ _ _ _ _ us hl => match us, hl with | [_], _ => rfl
  have F27 := fun_mk (st := sReadL) l27 c27 k27
  have b27 := F27.binds (ps := ["line"]) fun _ _ _ _ _ _ us hl => match us, hl with | [_], _ => rfl
  have F28 := fun_mk (st := sAnsAl) l28 c28 k28
  have b28 := F28.binds (ps := ["cluster", "word"]) fun _ _ _ _ _ _ us hl => match us, hl with | [_, _], _ => rfl
  have F29 := fun_mk (st := sAnsOne) l29 c29 k29
  have b29 := F29.binds (ps := ["cluster", "word", "number"]) fun _ _ _ _ _ _ us hl => match us, hl with | [_, _, _], _ => rfl
  have F30 := fun_mk (st := sAnsSucc) l30 c30 k30
  have b30 := F30.binds (ps := ["cluster", "shard", "server"]) fun _ _ _ _ _ _ us hl => match us, hl with | [_, _, _], _ => rfl
  have F31 := fun_mk (st := sStream) l31 c31 k31
  have b31 := F31.binds (ps := ["_law_script", "_law_k"]) fun _ _ _ _ _ _ us hl => match us, hl with | [_, _], _ => rfl
  have F32 := fun_mk (st := sDraw) l32 c32 k32
  have b32 := F32.binds (ps := ["_law_stream_here", "_law_below"]) fun _ _ _ _ _ _ us hl => match us, hl with | [_, _], _ => rfl
  have F33 := fun_mk (st := sPick) l33 c33 k33
  have b33 := F33.binds (ps := ["_law_stream_here", "_law_items"]) fun _ _ _ _ _ _ us hl => match us, hl with | [_, _], _ => rfl
  have F34 := fun_mk (st := sComb) l34 c34 k34
  have b34 := F34.binds (ps := ["_law_n", "_law_k"]) fun _ _ _ _ _ _ us hl => match us, hl with | [_, _], _ => rfl
  have F35 := fun_mk (st := sOrderS) l35 c35 k35
  have b35 := F35.binds (ps := ["_law_n", "_law_depth", "_law_total", "_law_number"]) fun _ _ _ _ _ _ us hl => match us, hl with | [_, _, _, _], _ => rfl
  have F36 := fun_mk (st := sGcdS) l36 c36 k36
  have b36 := F36.binds (ps := ["_law_a", "_law_b"]) fun _ _ _ _ _ _ us hl => match us, hl with | [_, _], _ => rfl
  have F37 := fun_mk (st := sLeastS) l37 c37 k37
  have b37 := F37.binds (ps := ["_law_n", "_law_depth"]) fun _ _ _ _ _ _ us hl => match us, hl with | [_, _], _ => rfl
  have F38 := fun_mk (st := sSizesS) l38 c38 k38
  have b38 := F38.binds (ps := ["_law_stream_here", "_law_most"]) fun _ _ _ _ _ _ us hl => match us, hl with | [_, _], _ => rfl
  have F39 := fun_mk (st := sLOut54) l39 c39 k39
  have b39 := F39.binds (ps := ["_law_ask"]) fun _ _ _ _ _ _ us hl => match us, hl with | [_], _ => rfl
  have F40 := fun_mk (st := sWords54) l40 c40 k40
  have b40 := F40.binds (ps := ["_law_things"]) fun _ _ _ _ _ _ us hl => match us, hl with | [_], _ => rfl
  have F41 := fun_mk (st := sList54) l41 c41 k41
  have b41 := F41.binds (ps := ["_law_sizes_here", "_law_number"]) fun _ _ _ _ _ _ us hl => match us, hl with | [_, _], _ => rfl
  have F42 := fun_mk (st := sLine54) l42 c42 k42
  have b42 := F42.binds (ps := ["_law_stream_here", "_law_sizes_here"]) fun _ _ _ _ _ _ us hl => match us, hl with | [_, _], _ => rfl
  have F43 := fun_mk (st := sAnsw54) l43 c43 k43
  have b43 := F43.binds (ps := ["_law_cluster", "_law_line_here"]) fun _ _ _ _ _ _ us hl => match us, hl with | [_, _], _ => rfl
  have F44 := fun_mk (st := sRight54) l44 c44 k44
  have b44 := F44.binds (ps := ["_law_stream_here", "_law_sizes_here", "_law_turns"]) fun _ _ _ _ _ _ us hl => match us, hl with | [_, _, _], _ => rfl
  have F45 := fun_mk (st := sLaw) l45 c45 k45
  have FI2 := fun_mk (st := sNoN) e2_li e2_ci e2_ki
  have bI2 := FI2.binds (ps := ["self", "value"]) fun _ _ _ _ _ _ us hl => match us, hl with | [_, _], _ => rfl
  have ER2 : ErrT K CNoN fi2 "value" CBase := ⟨⟨⟨nm2, q2, N2, bs2, _, sn2, sub2, ab2, col2, dd2, m0_2, m1_2, m2_2, m3_2, m5_2, e2_xL, by first | rfl | decide +kernel⟩, e2_sa, e2_eC, e2_tC, e2_kC⟩, ⟨e2_ga, e2_gg, e2_eC, e2_hC⟩, ⟨e2_ga, e2_gg, e2_eC, e2_hC, e2_cC, e2_gC, e2_kk, e2_mC⟩, e2_nb, e2_ai, e2_ti, PySem.W.exm_ref bex bhd bty e2_sB⟩
  have FI3 := fun_mk (st := sNotP) e3_li e3_ci e3_ki
  have bI3 := FI3.binds (ps := ["self", "count"]) fun _ _ _ _ _ _ us hl => match us, hl with | [_, _], _ => rfl
  have ER3 : ErrT K CNotP fi3 "count" CBase := ⟨⟨⟨nm3, q3, N3, bs3, _, sn3, sub3, ab3, col3, dd3, m0_3, m1_3, m2_3, m3_3, m5_3, e3_xL, by first | rfl | decide +kernel⟩, e3_sa, e3_eC, e3_tC, e3_kC⟩, ⟨e3_ga, e3_gg, e3_eC, e3_hC⟩, ⟨e3_ga, e3_gg, e3_eC, e3_hC, e3_cC, e3_gC, e3_kk, e3_mC⟩, e3_nb, e3_ai, e3_ti, PySem.W.exm_ref bex bhd bty e3_sB⟩
  have FI4 := fun_mk (st := sTooS) e4_li e4_ci e4_ki
  have bI4 := FI4.binds (ps := ["self", "order"]) fun _ _ _ _ _ _ us hl => match us, hl with | [_, _], _ => rfl
  have ER4 : ErrT K CTooS fi4 "order" CBase := ⟨⟨⟨nm4, q4, N4, bs4, _, sn4, sub4, ab4, col4, dd4, m0_4, m1_4, m2_4, m3_4, m5_4, e4_xL, by first | rfl | decide +kernel⟩, e4_sa, e4_eC, e4_tC, e4_kC⟩, ⟨e4_ga, e4_gg, e4_eC, e4_hC⟩, ⟨e4_ga, e4_gg, e4_eC, e4_hC, e4_cC, e4_gC, e4_kk, e4_mC⟩, e4_nb, e4_ai, e4_ti, PySem.W.exm_ref bex bhd bty e4_sB⟩
  have FI5 := fun_mk (st := sNoC) e5_li e5_ci e5_ki
  have bI5 := FI5.binds (ps := ["self", "field"]) fun _ _ _ _ _ _ us hl => match us, hl with | [_, _], _ => rfl
  have ER5 : ErrT K CNoC fi5 "field" CBase := ⟨⟨⟨nm5, q5, N5, bs5, _, sn5, sub5, ab5, col5, dd5, m0_5, m1_5, m2_5, m3_5, m5_5, e5_xL, by first | rfl | decide +kernel⟩, e5_sa, e5_eC, e5_tC, e5_kC⟩, ⟨e5_ga, e5_gg, e5_eC, e5_hC⟩, ⟨e5_ga, e5_gg, e5_eC, e5_hC, e5_cC, e5_gC, e5_kk, e5_mC⟩, e5_nb, e5_ai, e5_ti, PySem.W.exm_ref bex bhd bty e5_sB⟩
  have FI6 := fun_mk (st := sNotL) e6_li e6_ci e6_ki
  have bI6 := FI6.binds (ps := ["self", "value"]) fun _ _ _ _ _ _ us hl => match us, hl with | [_, _], _ => rfl
  have ER6 : ErrT K CNotL fi6 "value" CBase := ⟨⟨⟨nm6, q6, N6, bs6, _, sn6, sub6, ab6, col6, dd6, m0_6, m1_6, m2_6, m3_6, m5_6, e6_xL, by first | rfl | decide +kernel⟩, e6_sa, e6_eC, e6_tC, e6_kC⟩, ⟨e6_ga, e6_gg, e6_eC, e6_hC⟩, ⟨e6_ga, e6_gg, e6_eC, e6_hC, e6_cC, e6_gC, e6_kk, e6_mC⟩, e6_nb, e6_ai, e6_ti, PySem.W.exm_ref bex bhd bty e6_sB⟩
  have FI7 := fun_mk (st := sNotD) e7_li e7_ci e7_ki
  have bI7 := FI7.binds (ps := ["self", "value"]) fun _ _ _ _ _ _ us hl => match us, hl with | [_, _], _ => rfl
  have ER7 : ErrT K CNotD fi7 "value" CBase := ⟨⟨⟨nm7, q7, N7, bs7, _, sn7, sub7, ab7, col7, dd7, m0_7, m1_7, m2_7, m3_7, m5_7, e7_xL, by first | rfl | decide +kernel⟩, e7_sa, e7_eC, e7_tC, e7_kC⟩, ⟨e7_ga, e7_gg, e7_eC, e7_hC⟩, ⟨e7_ga, e7_gg, e7_eC, e7_hC, e7_cC, e7_gC, e7_kk, e7_mC⟩, e7_nb, e7_ai, e7_ti, PySem.W.exm_ref bex bhd bty e7_sB⟩
  have FI8 := fun_mk (st := sTooF) e8_li e8_ci e8_ki
  have bI8 := FI8.binds (ps := ["self", "alive"]) fun _ _ _ _ _ _ us hl => match us, hl with | [_, _], _ => rfl
  have ER8 : ErrT K CTooF fi8 "alive" CBase := ⟨⟨⟨nm8, q8, N8, bs8, _, sn8, sub8, ab8, col8, dd8, m0_8, m1_8, m2_8, m3_8, m5_8, e8_xL, by first | rfl | decide +kernel⟩, e8_sa, e8_eC, e8_tC, e8_kC⟩, ⟨e8_ga, e8_gg, e8_eC, e8_hC⟩, ⟨e8_ga, e8_gg, e8_eC, e8_hC, e8_cC, e8_gC, e8_kk, e8_mC⟩, e8_nb, e8_ai, e8_ti, PySem.W.exm_ref bex bhd bty e8_sB⟩
  have FI10 := fun_mk (st := sNoT) e10_li e10_ci e10_ki
  have bI10 := FI10.binds (ps := ["self", "row"]) fun _ _ _ _ _ _ us hl => match us, hl with | [_, _], _ => rfl
  have ER10 : ErrT K CNoT fi10 "row" CBase := ⟨⟨⟨nm10, q10, N10, bs10, _, sn10, sub10, ab10, col10, dd10, m0_10, m1_10, m2_10, m3_10, m5_10, e10_xL, by first | rfl | decide +kernel⟩, e10_sa, e10_eC, e10_tC, e10_kC⟩, ⟨e10_ga, e10_gg, e10_eC, e10_hC⟩, ⟨e10_ga, e10_gg, e10_eC, e10_hC, e10_cC, e10_gC, e10_kk, e10_mC⟩, e10_nb, e10_ai, e10_ti, PySem.W.exm_ref bex bhd bty e10_sB⟩
  have FI11 := fun_mk (st := sNoLi) e11_li e11_ci e11_ki
  have bI11 := FI11.binds (ps := ["self", "value"]) fun _ _ _ _ _ _ us hl => match us, hl with | [_, _], _ => rfl
  have ER11 : ErrT K CNoLi fi11 "value" CBase := ⟨⟨⟨nm11, q11, N11, bs11, _, sn11, sub11, ab11, col11, dd11, m0_11, m1_11, m2_11, m3_11, m5_11, e11_xL, by first | rfl | decide +kernel⟩, e11_sa, e11_eC, e11_tC, e11_kC⟩, ⟨e11_ga, e11_gg, e11_eC, e11_hC⟩, ⟨e11_ga, e11_gg, e11_eC, e11_hC, e11_cC, e11_gC, e11_kk, e11_mC⟩, e11_nb, e11_ai, e11_ti, PySem.W.exm_ref bex bhd bty e11_sB⟩
  have MF1 := fun_mk (st := sCluInit) ml1 mc1 mk1
  have mb1 := MF1.binds (ps := ["self", "n", "failures", "factor", "count"]) fun _ _ _ _ _ _ us hl => match us, hl with | [_, _, _, _, _], _ => rfl
  have MF2 := fun_mk (st := sCluLive) ml2 mc2 mk2
  have mb2 := MF2.binds (ps := ["self"]) fun _ _ _ _ _ _ us hl => match us, hl with | [_], _ => rfl
  have MF3 := fun_mk (st := sCluListOf) ml3 mc3 mk3
  have mb3 := MF3.binds (ps := ["self", "shard"]) fun _ _ _ _ _ _ us hl => match us, hl with | [_, _], _ => rfl
  have MF4 := fun_mk (st := sCluOwners) ml4 mc4 mk4
  have mb4 := MF4.binds (ps := ["self", "shard"]) fun _ _ _ _ _ _ us hl => match us, hl with | [_, _], _ => rfl
  have MF5 := fun_mk (st := sCluLoad) ml5 mc5 mk5
  have mb5 := MF5.binds (ps := ["self", "server"]) fun _ _ _ _ _ _ us hl => match us, hl with | [_, _], _ => rfl
  have MF6 := fun_mk (st := sCluSuccessor) ml6 mc6 mk6
  have mb6 := MF6.binds (ps := ["self", "shard", "server"]) fun _ _ _ _ _ _ us hl => match us, hl with | [_, _, _], _ => rfl
  have MF7 := fun_mk (st := sCluFail) ml7 mc7 mk7
  have mb7 := MF7.binds (ps := ["self", "server"]) fun _ _ _ _ _ _ us hl => match us, hl with | [_, _], _ => rfl
  have MF8 := fun_mk (st := sCluRecover) ml8 mc8 mk8
  have mb8 := MF8.binds (ps := ["self", "server"]) fun _ _ _ _ _ _ us hl => match us, hl with | [_, _], _ => rfl
  have MF9 := fun_mk (st := sCluCopied) ml9 mc9 mk9
  have mb9 := MF9.binds (ps := ["self"]) fun _ _ _ _ _ _ us hl => match us, hl with | [_], _ => rfl
  have MF10 := fun_mk (st := sCluChanges) ml10 mc10 mk10
  have mb10 := MF10.binds (ps := ["self"]) fun _ _ _ _ _ _ us hl => match us, hl with | [_], _ => rfl
  have MF11 := fun_mk (st := sCluUndo) ml11 mc11 mk11
  have mb11 := MF11.binds (ps := ["self"]) fun _ _ _ _ _ _ us hl => match us, hl with | [_], _ => rfl
  have MF12 := fun_mk (st := sCluCopy) ml12 mc12 mk12
  have mb12 := MF12.binds (ps := ["self"]) fun _ _ _ _ _ _ us hl => match us, hl with | [_], _ => rfl
  have MF13 := fun_mk (st := sCluTurn) ml13 mc13 mk13
  have mb13 := MF13.binds (ps := ["self", "server"]) fun _ _ _ _ _ _ us hl => match us, hl with | [_, _], _ => rfl
  have MF14 := fun_mk (st := sCluCheckLive) ml14 mc14 mk14
  have mb14 := MF14.binds (ps := ["self", "value"]) fun _ _ _ _ _ _ us hl => match us, hl with | [_, _], _ => rfl
  have MF15 := fun_mk (st := sCluCheckCanFail) ml15 mc15 mk15
  have mb15 := MF15.binds (ps := ["self", "value"]) fun _ _ _ _ _ _ us hl => match us, hl with | [_, _], _ => rfl
  have MF16 := fun_mk (st := sCluEq) ml16 mc16 mk16
  have mb16 := MF16.binds (ps := ["self", "other"]) fun _ _ _ _ _ _ us hl => match us, hl with | [_, _], _ => rfl
  have MF17 := fun_mk (st := sCluLen) ml17 mc17 mk17
  have mb17 := MF17.binds (ps := ["self"]) fun _ _ _ _ _ _ us hl => match us, hl with | [_], _ => rfl
  have MF18 := fun_mk (st := sDeskInit) ml18 mc18 mk18
  have mb18 := MF18.binds (ps := ["self", "text"]) fun _ _ _ _ _ _ us hl => match us, hl with | [_, _], _ => rfl
  have MF19 := fun_mk (st := sDeskSay) ml19 mc19 mk19
  have mb19 := MF19.binds (ps := ["self", "line"]) fun _ _ _ _ _ _ us hl => match us, hl with | [_, _], _ => rfl
  obtain ⟨es_Forms, n_Forms, D_Forms⟩ := He.dicW_ok dw_Forms
  have Z_Forms : FormsD K w CdForms es_Forms n_Forms := ⟨D_Forms, forms_keys D_Forms dw_Forms, fun q hq => by
    simp only [formsL, List.mem_cons, List.not_mem_nil, or_false] at hq
    rcases hq with rfl | rfl | rfl | rfl | rfl | rfl | rfl | rfl | rfl | rfl | rfl
    · exact ⟨_, dk_Forms_fail⟩
    · exact ⟨_, dk_Forms_recover⟩
    · exact ⟨_, dk_Forms_owners⟩
    · exact ⟨_, dk_Forms_successor⟩
    · exact ⟨_, dk_Forms_load⟩
    · exact ⟨_, dk_Forms_live⟩
    · exact ⟨_, dk_Forms_copied⟩
    · exact ⟨_, dk_Forms_changes⟩
    · exact ⟨_, dk_Forms_undo⟩
    · exact ⟨_, dk_Forms_list⟩
    · exact ⟨_, dk_Forms_text⟩⟩
  let T : Txt K mg := ⟨f1, _, F1, b1, PySem.W.mg_of X G a1, f2, _, F2, b2, PySem.W.mg_of X G a2, f3, _, F3, b3, PySem.W.mg_of X G a3, f4, _, F4, b4, PySem.W.mg_of X G a4, f5, _, F5, b5, PySem.W.mg_of X G a5, f6, _, F6, b6, PySem.W.mg_of X G a6, f7, _, F7, b7, PySem.W.mg_of X G a7, f8, _, F8, b8, PySem.W.mg_of X G a8, f9, _, F9, b9, PySem.W.mg_of X G a9, f10, _, F10, b10, PySem.W.mg_of X G a10, f11, _, F11, b11, PySem.W.mg_of X G a11, f12, _, F12, b12, PySem.W.mg_of X G a12, f13, _, F13, b13, PySem.W.mg_of X G a13, f14, _, F14, b14, PySem.W.mg_of X G a14, f15, _, F15, b15, PySem.W.mg_of X G a15, f16, _, F16, b16, PySem.W.mg_of X G a16, f17, _, F17, b17, PySem.W.mg_of X G a17, f18, _, F18, b18, PySem.W.mg_of X G a18, f19, _, F19, b19, PySem.W.mg_of X G a19, f20, _, F20, b20, PySem.W.mg_of X G a20, f21, _, F21, b21, PySem.W.mg_of X G a21, f22, _, F22, b22, PySem.W.mg_of X G a22, f23, _, F23, b23, PySem.W.mg_of X G a23, f24, _, F24, b24, PySem.W.mg_of X G a24, f25, _, F25, b25, PySem.W.mg_of X G a25, f26, _, F26, b26, PySem.W.mg_of X G a26, f27, _, F27, b27, PySem.W.mg_of X G a27, f28, _, F28, b28, PySem.W.mg_of X G a28, f29, _, F29, b29, PySem.W.mg_of X G a29, f30, _, F30, b30, PySem.W.mg_of X G a30, f31, _, F31, b31, PySem.W.mg_of X G a31, f32, _, F32, b32, PySem.W.mg_of X G a32, f33, _, F33, b33, PySem.W.mg_of X G a33, f34, _, F34, b34, PySem.W.mg_of X G a34, f35, _, F35, b35, PySem.W.mg_of X G a35, f36, _, F36, b36, PySem.W.mg_of X G a36, f37, _, F37, b37, PySem.W.mg_of X G a37, f38, _, F38, b38, PySem.W.mg_of X G a38, f39, _, F39, b39, PySem.W.mg_of X G a39, f40, _, F40, b40, PySem.W.mg_of X G a40, f41, _, F41, b41, PySem.W.mg_of X G a41, f42, _, F42, b42, PySem.W.mg_of X G a42, f43, _, F43, b43, PySem.W.mg_of X G a43, f44, _, F44, b44, PySem.W.mg_of X G a44, CBase, PySem.W.mg_of X G ac1, ⟨bsp, bty, brd, bfc⟩, CNoN, PySem.W.mg_of X G ac2, fi2, _, FI2, bI2, ER2, CNotP, PySem.W.mg_of X G ac3, fi3, _, FI3, bI3, ER3, CTooS, PySem.W.mg_of X G ac4, fi4, _, FI4, bI4, ER4, CNoC, PySem.W.mg_of X G ac5, fi5, _, FI5, bI5, ER5, CNotL, PySem.W.mg_of X G ac6, fi6, _, FI6, bI6, ER6, CNotD, PySem.W.mg_of X G ac7, fi7, _, FI7, bI7, ER7, CTooF, PySem.W.mg_of X G ac8, fi8, _, FI8, bI8, ER8, CNoU, PySem.W.mg_of X G ac9, CNoT, PySem.W.mg_of X G ac10, fi10, _, FI10, bI10, ER10, CNoLi, PySem.W.mg_of X G ac11, fi11, _, FI11, bI11, ER11, PySem.W.mg_of X G al_successor_failures, CClu, PySem.W.mg_of X G oc_Clu, ⟨opg_Clu, ohd_Clu, opo_Clu, osa_Clu⟩, on_Clu_n, on_Clu_failures, on_Clu_factor, on_Clu_count, on_Clu_living, on_Clu_past, CDesk, PySem.W.mg_of X G oc_Desk, ⟨opg_Desk, ohd_Desk, opo_Desk, osa_Desk⟩, on_Desk_cluster, mf1, _, MF1, mb1, ⟨ma1, mi1, mk1⟩, ⟨omk_Clu, ma1, mi1, okc_Clu⟩, mf2, _, MF2, mb2, ⟨ma2, mi2, mk2⟩, mf3, _, MF3, mb3, ⟨ma3, mi3, mk3⟩, mf4, _, MF4, mb4, ⟨ma4, mi4, mk4⟩, mf5, _, MF5, mb5, ⟨ma5, mi5, mk5⟩, mf6, _, MF6, mb6, ⟨ma6, mi6, mk6⟩, mf7, _, MF7, mb7, ⟨ma7, mi7, mk7⟩, mf8, _, MF8, mb8, ⟨ma8, mi8, mk8⟩, mf9, _, MF9, mb9, ⟨ma9, mi9, mk9⟩, mf10, _, MF10, mb10, ⟨ma10, mi10, mk10⟩, mf11, _, MF11, mb11, ⟨ma11, mi11, mk11⟩, mf12, _, MF12, mb12, ⟨ma12, mi12, mk12⟩, mf13, _, MF13, mb13, ⟨ma13, mi13, mk13⟩, mf14, _, MF14, mb14, ⟨ma14, mi14, mk14⟩, mf15, _, MF15, mb15, ⟨ma15, mi15, mk15⟩, mf16, _, MF16, mb16, ⟨ma16, mi16, mk16⟩, mf17, _, MF17, mb17, ⟨ma17, mi17, mk17⟩, mf18, _, MF18, mb18, ⟨ma18, mi18, mk18⟩, ⟨omk_Desk, ma18, mi18, okc_Desk⟩, mf19, _, MF19, mb19, ⟨ma19, mi19, mk19⟩, kt_kitDig, kt_kNoUx, kt_kNoUk, kt_kNoUb, kt_kNoUt, kt_kNoUe, kt_kNoUg, kt_kNoUa, kt_kNoUd, kt_kNoUc, kt_kNoUm, kt_kit_NoLi_NoLi, kt_kit_NoLi_NoN, kt_kit_NoLi_NotL, kt_kit_NoLi_NotD, kt_kit_NoLi_TooF, kt_kit_NoLi_NoU, kt_kit_NoN_NoLi, kt_kit_NoN_NoN, kt_kit_NoN_NotL, kt_kit_NoN_NotD, kt_kit_NoN_TooF, kt_kit_NoN_NoU, kt_kit_NotL_NoLi, kt_kit_NotL_NoN, kt_kit_NotL_NotL, kt_kit_NotL_NotD, kt_kit_NotL_TooF, kt_kit_NotL_NoU, kt_kit_NotD_NoLi, kt_kit_NotD_NoN, kt_kit_NotD_NotL, kt_kit_NotD_NotD, kt_kit_NotD_TooF, kt_kit_NotD_NoU, kt_kit_TooF_NoLi, kt_kit_TooF_NoN, kt_kit_TooF_NotL, kt_kit_TooF_NotD, kt_kit_TooF_TooF, kt_kit_TooF_NoU, kt_kit_NoU_NoLi, kt_kit_NoU_NoN, kt_kit_NoU_NotL, kt_kit_NoU_NotD, kt_kit_NoU_TooF, kt_kit_NoU_NoU, kt_kSV_NoLi, kt_kSV_NoN, kt_kSV_NotL, kt_kSV_NotD, kt_kSV_TooF, kt_kSV_NoU, CdForms, PySem.W.mg_of X G gd_Forms, tq_Forms_fail, dk_Forms_fail, tq_Forms_recover, dk_Forms_recover, tq_Forms_owners, dk_Forms_owners, tq_Forms_successor, dk_Forms_successor, tq_Forms_load, dk_Forms_load, tq_Forms_live, dk_Forms_live, tq_Forms_copied, dk_Forms_copied, tq_Forms_changes, dk_Forms_changes, tq_Forms_undo, dk_Forms_undo, tq_Forms_list, dk_Forms_list, tq_Forms_text, dk_Forms_text, tk_LEAST_SERVERS, PySem.W.mg_of X G gl_LEAST_SERVERS, tk_MOST_SERVERS, PySem.W.mg_of X G gl_MOST_SERVERS, tk_MOST_DIGITS, PySem.W.mg_of X G gl_MOST_DIGITS, PySem.W.mg_none_of X G z1, PySem.W.mg_none_of X G z2, PySem.W.mg_none_of X G z3, PySem.W.mg_none_of X G z4, PySem.W.mg_none_of X G z5, PySem.W.mg_none_of X G z6, PySem.W.mg_none_of X G z7, PySem.W.mg_none_of X G z8, PySem.W.mg_none_of X G z9, PySem.W.mg_none_of X G z10, PySem.W.mg_none_of X G z11, PySem.W.mg_none_of X G z12, PySem.W.mg_none_of X G z13, PySem.W.mg_none_of X G z14, PySem.W.mg_none_of X G z15, tcRight54, tpRight54, codeOf_tab a44 tbRight54⟩
  refine ⟨PySem.W.fnOf "law" "law" (defArgs sLaw) (defBody sLaw) (defScope sLaw) .none kV45 dc45 pm45 an45 cd45 ct45, [("_law_right", tcRight54, tpRight54)], spLaw K (tabsOf T), ?_, fun s v => .of_eq rfl, fun H a ns hl hT hS => ⟨a, ns, rfl, hS, hl, ?_, fun _ => rfl⟩, fun base _ _ hB => ok_law F45 T Z_Forms (trivial) ⟨hB ("_law_right", tcRight54, tpRight54) (by simp)⟩⟩
  · intro p hp
    simp only [List.mem_cons, List.not_mem_nil, or_false] at hp
    rcases hp with rfl
    · exact ⟨tbRight54, tnRight54, trRight54⟩
  · intro p hp
    unfold tabsOf at hp
    simp only [List.mem_cons, List.not_mem_nil, or_false] at hp
    rcases hp with rfl
    · exact LamX.TabS.nil (hT ("_law_right", tcRight54, tpRight54) (by simp))
end Ef
open PySem PySem.W PyProof.Rows
set_option maxRecDepth 100000 in
set_option maxHeartbeats 0 in
theorem PySem.Challenge.cw_evenfailover_k54_desk_beside_a_cluster_holds : PySem.Challenge.rw_evenfailover_k54_desk_beside_a_cluster.Holds := by
  w_on; o_law; k_head; (case hw => w_witness2)
  k_fill
  refine Ef.lawGT (l := PySem.Challenge.rw_evenfailover_k54_desk_beside_a_cluster) (n := 63) (k := 16) (x := "_law_script") rfl (by decide) rfl ⟨rfl, by decide, by decide⟩ (fun w h Y => PySem.W.km_in_of Y) ?F
  case F =>
    intro w mg fa h KX G hmg
    refine' Ef.all_mk KX G hmg ?a1 ?l1 ?c1 ?k1 ?a2 ?l2 ?c2 ?k2 ?a3 ?l3 ?c3 ?k3 ?a4 ?l4 ?c4 ?k4 ?a5 ?l5 ?c5 ?k5 ?a6 ?l6 ?c6 ?k6 ?a7 ?l7 ?c7 ?k7 ?a8 ?l8 ?c8 ?k8 ?a9 ?l9 ?c9 ?k9 ?a10 ?l10 ?c10 ?k10 ?a11 ?l11 ?c11 ?k11 ?a12 ?l12 ?c12 ?k12 ?a13 ?l13 ?c13 ?k13 ?a14 ?l14 ?c14 ?k14 ?a15 ?l15 ?c15 ?k15 ?a16 ?l16 ?c16 ?k16 ?a17 ?l17 ?c17 ?k17 ?a18 ?l18 ?c18 ?k18 ?a19 ?l19 ?c19 ?k19 ?a20 ?l20 ?c20 ?k20 ?a21 ?l21 ?c21 ?k21 ?a22 ?l22 ?c22 ?k22 ?a23 ?l23 ?c23 ?k23 ?a24 ?l24 ?c24 ?k24 ?a25 ?l25 ?c25 ?k25 ?a26 ?l26 ?c26 ?k26 ?a27 ?l27 ?c27 ?k27 ?a28 ?l28 ?c28 ?k28 ?a29 ?l29 ?c29 ?k29 ?a30 ?l30 ?c30 ?k30 ?a31 ?l31 ?c31 ?k31 ?a32 ?l32 ?c32 ?k32 ?a33 ?l33 ?c33 ?k33 ?a34 ?l34 ?c34 ?k34 ?a35 ?l35 ?c35 ?k35 ?a36 ?l36 ?c36 ?k36 ?a37 ?l37 ?c37 ?k37 ?a38 ?l38 ?c38 ?k38 ?a39 ?l39 ?c39 ?k39 ?a40 ?l40 ?c40 ?k40 ?a41 ?l41 ?c41 ?k41 ?a42 ?l42 ?c42 ?k42 ?a43 ?l43 ?c43 ?k43 ?a44 ?l44 ?c44 ?k44 ?a45 ?l45 ?c45 ?k45 ?ac1 ?bsp ?bty ?brd ?bfc ?bex ?bhd ?ac2 ?e2_xL ?e2_sa ?e2_ga ?e2_gg ?e2_nb ?e2_ai ?e2_ti ?e2_li ?e2_ci ?e2_ki ?e2_kC ?e2_eC ?e2_tC ?e2_hC ?e2_cC ?e2_gC ?e2_kk ?e2_mC ?e2_sB ?ac3 ?e3_xL ?e3_sa ?e3_ga ?e3_gg ?e3_nb ?e3_ai ?e3_ti ?e3_li ?e3_ci ?e3_ki ?e3_kC ?e3_eC ?e3_tC ?e3_hC ?e3_cC ?e3_gC ?e3_kk ?e3_mC ?e3_sB ?ac4 ?e4_xL ?e4_sa ?e4_ga ?e4_gg ?e4_nb ?e4_ai ?e4_ti ?e4_li ?e4_ci ?e4_ki ?e4_kC ?e4_eC ?e4_tC ?e4_hC ?e4_cC ?e4_gC ?e4_kk ?e4_mC ?e4_sB ?ac5 ?e5_xL ?e5_sa ?e5_ga ?e5_gg ?e5_nb ?e5_ai ?e5_ti ?e5_li ?e5_ci ?e5_ki ?e5_kC ?e5_eC ?e5_tC ?e5_hC ?e5_cC ?e5_gC ?e5_kk ?e5_mC ?e5_sB ?ac6 ?e6_xL ?e6_sa ?e6_ga ?e6_gg ?e6_nb ?e6_ai ?e6_ti ?e6_li ?e6_ci ?e6_ki ?e6_kC ?e6_eC ?e6_tC ?e6_hC ?e6_cC ?e6_gC ?e6_kk ?e6_mC ?e6_sB ?ac7 ?e7_xL ?e7_sa ?e7_ga ?e7_gg ?e7_nb ?e7_ai ?e7_ti ?e7_li ?e7_ci ?e7_ki ?e7_kC ?e7_eC ?e7_tC ?e7_hC ?e7_cC ?e7_gC ?e7_kk ?e7_mC ?e7_sB ?ac8 ?e8_xL ?e8_sa ?e8_ga ?e8_gg ?e8_nb ?e8_ai ?e8_ti ?e8_li ?e8_ci ?e8_ki ?e8_kC ?e8_eC ?e8_tC ?e8_hC ?e8_cC ?e8_gC ?e8_kk ?e8_mC ?e8_sB ?ac9 ?ac10 ?e10_xL ?e10_sa ?e10_ga ?e10_gg ?e10_nb ?e10_ai ?e10_ti ?e10_li ?e10_ci ?e10_ki ?e10_kC ?e10_eC ?e10_tC ?e10_hC ?e10_cC ?e10_gC ?e10_kk ?e10_mC ?e10_sB ?ac11 ?e11_xL ?e11_sa ?e11_ga ?e11_gg ?e11_nb ?e11_ai ?e11_ti ?e11_li ?e11_ci ?e11_ki ?e11_kC ?e11_eC ?e11_tC ?e11_hC ?e11_cC ?e11_gC ?e11_kk ?e11_mC ?e11_sB ?al_successor_failures ?oc_Clu ?opg_Clu ?ohd_Clu ?opo_Clu ?osa_Clu ?omk_Clu ?okc_Clu ?on_Clu_n ?on_Clu_failures ?on_Clu_factor ?on_Clu_count ?on_Clu_living ?on_Clu_past ?oc_Desk ?opg_Desk ?ohd_Desk ?opo_Desk ?osa_Desk ?omk_Desk ?okc_Desk ?on_Desk_cluster ?ma1 ?mi1 ?ml1 ?mc1 ?mk1 ?ma2 ?mi2 ?ml2 ?mc2 ?mk2 ?ma3 ?mi3 ?ml3 ?mc3 ?mk3 ?ma4 ?mi4 ?ml4 ?mc4 ?mk4 ?ma5 ?mi5 ?ml5 ?mc5 ?mk5 ?ma6 ?mi6 ?ml6 ?mc6 ?mk6 ?ma7 ?mi7 ?ml7 ?mc7 ?mk7 ?ma8 ?mi8 ?ml8 ?mc8 ?mk8 ?ma9 ?mi9 ?ml9 ?mc9 ?mk9 ?ma10 ?mi10 ?ml10 ?mc10 ?mk10 ?ma11 ?mi11 ?ml11 ?mc11 ?mk11 ?ma12 ?mi12 ?ml12 ?mc12 ?mk12 ?ma13 ?mi13 ?ml13 ?mc13 ?mk13 ?ma14 ?mi14 ?ml14 ?mc14 ?mk14 ?ma15 ?mi15 ?ml15 ?mc15 ?mk15 ?ma16 ?mi16 ?ml16 ?mc16 ?mk16 ?ma17 ?mi17 ?ml17 ?mc17 ?mk17 ?ma18 ?mi18 ?ml18 ?mc18 ?mk18 ?ma19 ?mi19 ?ml19 ?mc19 ?mk19 ?kt_kitDig ?kt_kNoUx ?kt_kNoUk ?kt_kNoUb ?kt_kNoUt ?kt_kNoUe ?kt_kNoUg ?kt_kNoUa ?kt_kNoUd ?kt_kNoUc ?kt_kNoUm ?kt_kit_NoLi_NoLi ?kt_kit_NoLi_NoN ?kt_kit_NoLi_NotL ?kt_kit_NoLi_NotD ?kt_kit_NoLi_TooF ?kt_kit_NoLi_NoU ?kt_kit_NoN_NoLi ?kt_kit_NoN_NoN ?kt_kit_NoN_NotL ?kt_kit_NoN_NotD ?kt_kit_NoN_TooF ?kt_kit_NoN_NoU ?kt_kit_NotL_NoLi ?kt_kit_NotL_NoN ?kt_kit_NotL_NotL ?kt_kit_NotL_NotD ?kt_kit_NotL_TooF ?kt_kit_NotL_NoU ?kt_kit_NotD_NoLi ?kt_kit_NotD_NoN ?kt_kit_NotD_NotL ?kt_kit_NotD_NotD ?kt_kit_NotD_TooF ?kt_kit_NotD_NoU ?kt_kit_TooF_NoLi ?kt_kit_TooF_NoN ?kt_kit_TooF_NotL ?kt_kit_TooF_NotD ?kt_kit_TooF_TooF ?kt_kit_TooF_NoU ?kt_kit_NoU_NoLi ?kt_kit_NoU_NoN ?kt_kit_NoU_NotL ?kt_kit_NoU_NotD ?kt_kit_NoU_TooF ?kt_kit_NoU_NoU ?kt_kSV_NoLi ?kt_kSV_NoN ?kt_kSV_NotL ?kt_kSV_NotD ?kt_kSV_TooF ?kt_kSV_NoU ?gd_Forms ?dw_Forms ?dk_Forms_fail ?dk_Forms_recover ?dk_Forms_owners ?dk_Forms_successor ?dk_Forms_load ?dk_Forms_live ?dk_Forms_copied ?dk_Forms_changes ?dk_Forms_undo ?dk_Forms_list ?dk_Forms_text ?gl_LEAST_SERVERS ?gl_MOST_SERVERS ?gl_MOST_DIGITS ?z1 ?z2 ?z3 ?z4 ?z5 ?z6 ?z7 ?z8 ?z9 ?z10 ?z11 ?z12 ?z13 ?z14 ?z15 ?tbRight54 ?tnRight54 ?trRight54
    (case a1 => k_is)
    (case l1 => k_is)
    (case c1 => k_is)
    (case k1 => k_is)
    (case a2 => k_is)
    (case l2 => k_is)
    (case c2 => k_is)
    (case k2 => k_is)
    (case a3 => k_is)
    (case l3 => k_is)
    (case c3 => k_is)
    (case k3 => k_is)
    (case a4 => k_is)
    (case l4 => k_is)
    (case c4 => k_is)
    (case k4 => k_is)
    (case a5 => k_is)
    (case l5 => k_is)
    (case c5 => k_is)
    (case k5 => k_is)
    (case a6 => k_is)
    (case l6 => k_is)
    (case c6 => k_is)
    (case k6 => k_is)
    (case a7 => k_is)
    (case l7 => k_is)
    (case c7 => k_is)
    (case k7 => k_is)
    (case a8 => k_is)
    (case l8 => k_is)
    (case c8 => k_is)
    (case k8 => k_is)
    (case a9 => k_is)
    (case l9 => k_is)
    (case c9 => k_is)
    (case k9 => k_is)
    (case a10 => k_is)
    (case l10 => k_is)
    (case c10 => k_is)
    (case k10 => k_is)
    (case a11 => k_is)
    (case l11 => k_is)
    (case c11 => k_is)
    (case k11 => k_is)
    (case a12 => k_is)
    (case l12 => k_is)
    (case c12 => k_is)
    (case k12 => k_is)
    (case a13 => k_is)
    (case l13 => k_is)
    (case c13 => k_is)
    (case k13 => k_is)
    (case a14 => k_is)
    (case l14 => k_is)
    (case c14 => k_is)
    (case k14 => k_is)
    (case a15 => k_is)
    (case l15 => k_is)
    (case c15 => k_is)
    (case k15 => k_is)
    (case a16 => k_is)
    (case l16 => k_is)
    (case c16 => k_is)
    (case k16 => k_is)
    (case a17 => k_is)
    (case l17 => k_is)
    (case c17 => k_is)
    (case k17 => k_is)
    (case a18 => k_is)
    (case l18 => k_is)
    (case c18 => k_is)
    (case k18 => k_is)
    (case a19 => k_is)
    (case l19 => k_is)
    (case c19 => k_is)
    (case k19 => k_is)
    (case a20 => k_is)
    (case l20 => k_is)
    (case c20 => k_is)
    (case k20 => k_is)
    (case a21 => k_is)
    (case l21 => k_is)
    (case c21 => k_is)
    (case k21 => k_is)
    (case a22 => k_is)
    (case l22 => k_is)
    (case c22 => k_is)
    (case k22 => k_is)
    (case a23 => k_is)
    (case l23 => k_is)
    (case c23 => k_is)
    (case k23 => k_is)
    (case a24 => k_is)
    (case l24 => k_is)
    (case c24 => k_is)
    (case k24 => k_is)
    (case a25 => k_is)
    (case l25 => k_is)
    (case c25 => k_is)
    (case k25 => k_is)
    (case a26 => k_is)
    (case l26 => k_is)
    (case c26 => k_is)
    (case k26 => k_is)
    (case a27 => k_is)
    (case l27 => k_is)
    (case c27 => k_is)
    (case k27 => k_is)
    (case a28 => k_is)
    (case l28 => k_is)
    (case c28 => k_is)
    (case k28 => k_is)
    (case a29 => k_is)
    (case l29 => k_is)
    (case c29 => k_is)
    (case k29 => k_is)
    (case a30 => k_is)
    (case l30 => k_is)
    (case c30 => k_is)
    (case k30 => k_is)
    (case a31 => k_is)
    (case l31 => k_is)
    (case c31 => k_is)
    (case k31 => k_is)
    (case a32 => k_is)
    (case l32 => k_is)
    (case c32 => k_is)
    (case k32 => k_is)
    (case a33 => k_is)
    (case l33 => k_is)
    (case c33 => k_is)
    (case k33 => k_is)
    (case a34 => k_is)
    (case l34 => k_is)
    (case c34 => k_is)
    (case k34 => k_is)
    (case a35 => k_is)
    (case l35 => k_is)
    (case c35 => k_is)
    (case k35 => k_is)
    (case a36 => k_is)
    (case l36 => k_is)
    (case c36 => k_is)
    (case k36 => k_is)
    (case a37 => k_is)
    (case l37 => k_is)
    (case c37 => k_is)
    (case k37 => k_is)
    (case a38 => k_is)
    (case l38 => k_is)
    (case c38 => k_is)
    (case k38 => k_is)
    (case a39 => k_is)
    (case l39 => k_is)
    (case c39 => k_is)
    (case k39 => k_is)
    (case a40 => k_is)
    (case l40 => k_is)
    (case c40 => k_is)
    (case k40 => k_is)
    (case a41 => k_is)
    (case l41 => k_is)
    (case c41 => k_is)
    (case k41 => k_is)
    (case a42 => k_is)
    (case l42 => k_is)
    (case c42 => k_is)
    (case k42 => k_is)
    (case a43 => k_is)
    (case l43 => k_is)
    (case c43 => k_is)
    (case k43 => k_is)
    (case a44 => k_is)
    (case l44 => k_is)
    (case c44 => k_is)
    (case k44 => k_is)
    (case a45 => k_is)
    (case l45 => k_is)
    (case c45 => k_is)
    (case k45 => k_is)
    (case ac1 => k_is)
    (case bsp => k_is)
    (case bty => k_is)
    (case brd => k_is)
    (case bfc => k_is)
    (case bex => k_is)
    (case bhd => k_is)
    (case ac2 => k_is)
    (case e2_xL => k_is)
    (case e2_sa => k_is)
    (case e2_ga => k_is)
    (case e2_gg => k_is)
    (case e2_nb => k_is)
    (case e2_ai => k_is)
    (case e2_ti => k_is)
    (case e2_li => k_is)
    (case e2_ci => k_is)
    (case e2_ki => k_is)
    (case e2_kC => k_is)
    (case e2_eC => k_is)
    (case e2_tC => k_is)
    (case e2_hC => k_is)
    (case e2_cC => k_is)
    (case e2_gC => k_is)
    (case e2_kk => k_is)
    (case e2_mC => k_is)
    (case e2_sB => first | k_is | rfl | k_exc | kernel_rfl)
    (case ac3 => k_is)
    (case e3_xL => k_is)
    (case e3_sa => k_is)
    (case e3_ga => k_is)
    (case e3_gg => k_is)
    (case e3_nb => k_is)
    (case e3_ai => k_is)
    (case e3_ti => k_is)
    (case e3_li => k_is)
    (case e3_ci => k_is)
    (case e3_ki => k_is)
    (case e3_kC => k_is)
    (case e3_eC => k_is)
    (case e3_tC => k_is)
    (case e3_hC => k_is)
    (case e3_cC => k_is)
    (case e3_gC => k_is)
    (case e3_kk => k_is)
    (case e3_mC => k_is)
    (case e3_sB => first | k_is | rfl | k_exc | kernel_rfl)
    (case ac4 => k_is)
    (case e4_xL => k_is)
    (case e4_sa => k_is)
    (case e4_ga => k_is)
    (case e4_gg => k_is)
    (case e4_nb => k_is)
    (case e4_ai => k_is)
    (case e4_ti => k_is)
    (case e4_li => k_is)
    (case e4_ci => k_is)
    (case e4_ki => k_is)
    (case e4_kC => k_is)
    (case e4_eC => k_is)
    (case e4_tC => k_is)
    (case e4_hC => k_is)
    (case e4_cC => k_is)
    (case e4_gC => k_is)
    (case e4_kk => k_is)
    (case e4_mC => k_is)
    (case e4_sB => first | k_is | rfl | k_exc | kernel_rfl)
    (case ac5 => k_is)
    (case e5_xL => k_is)
    (case e5_sa => k_is)
    (case e5_ga => k_is)
    (case e5_gg => k_is)
    (case e5_nb => k_is)
    (case e5_ai => k_is)
    (case e5_ti => k_is)
    (case e5_li => k_is)
    (case e5_ci => k_is)
    (case e5_ki => k_is)
    (case e5_kC => k_is)
    (case e5_eC => k_is)
    (case e5_tC => k_is)
    (case e5_hC => k_is)
    (case e5_cC => k_is)
    (case e5_gC => k_is)
    (case e5_kk => k_is)
    (case e5_mC => k_is)
    (case e5_sB => first | k_is | rfl | k_exc | kernel_rfl)
    (case ac6 => k_is)
    (case e6_xL => k_is)
    (case e6_sa => k_is)
    (case e6_ga => k_is)
    (case e6_gg => k_is)
    (case e6_nb => k_is)
    (case e6_ai => k_is)
    (case e6_ti => k_is)
    (case e6_li => k_is)
    (case e6_ci => k_is)
    (case e6_ki => k_is)
    (case e6_kC => k_is)
    (case e6_eC => k_is)
    (case e6_tC => k_is)
    (case e6_hC => k_is)
    (case e6_cC => k_is)
    (case e6_gC => k_is)
    (case e6_kk => k_is)
    (case e6_mC => k_is)
    (case e6_sB => first | k_is | rfl | k_exc | kernel_rfl)
    (case ac7 => k_is)
    (case e7_xL => k_is)
    (case e7_sa => k_is)
    (case e7_ga => k_is)
    (case e7_gg => k_is)
    (case e7_nb => k_is)
    (case e7_ai => k_is)
    (case e7_ti => k_is)
    (case e7_li => k_is)
    (case e7_ci => k_is)
    (case e7_ki => k_is)
    (case e7_kC => k_is)
    (case e7_eC => k_is)
    (case e7_tC => k_is)
    (case e7_hC => k_is)
    (case e7_cC => k_is)
    (case e7_gC => k_is)
    (case e7_kk => k_is)
    (case e7_mC => k_is)
    (case e7_sB => first | k_is | rfl | k_exc | kernel_rfl)
    (case ac8 => k_is)
    (case e8_xL => k_is)
    (case e8_sa => k_is)
    (case e8_ga => k_is)
    (case e8_gg => k_is)
    (case e8_nb => k_is)
    (case e8_ai => k_is)
    (case e8_ti => k_is)
    (case e8_li => k_is)
    (case e8_ci => k_is)
    (case e8_ki => k_is)
    (case e8_kC => k_is)
    (case e8_eC => k_is)
    (case e8_tC => k_is)
    (case e8_hC => k_is)
    (case e8_cC => k_is)
    (case e8_gC => k_is)
    (case e8_kk => k_is)
    (case e8_mC => k_is)
    (case e8_sB => first | k_is | rfl | k_exc | kernel_rfl)
    (case ac9 => k_is)
    (case ac10 => k_is)
    (case e10_xL => k_is)
    (case e10_sa => k_is)
    (case e10_ga => k_is)
    (case e10_gg => k_is)
    (case e10_nb => k_is)
    (case e10_ai => k_is)
    (case e10_ti => k_is)
    (case e10_li => k_is)
    (case e10_ci => k_is)
    (case e10_ki => k_is)
    (case e10_kC => k_is)
    (case e10_eC => k_is)
    (case e10_tC => k_is)
    (case e10_hC => k_is)
    (case e10_cC => k_is)
    (case e10_gC => k_is)
    (case e10_kk => k_is)
    (case e10_mC => k_is)
    (case e10_sB => first | k_is | rfl | k_exc | kernel_rfl)
    (case ac11 => k_is)
    (case e11_xL => k_is)
    (case e11_sa => k_is)
    (case e11_ga => k_is)
    (case e11_gg => k_is)
    (case e11_nb => k_is)
    (case e11_ai => k_is)
    (case e11_ti => k_is)
    (case e11_li => k_is)
    (case e11_ci => k_is)
    (case e11_ki => k_is)
    (case e11_kC => k_is)
    (case e11_eC => k_is)
    (case e11_tC => k_is)
    (case e11_hC => k_is)
    (case e11_cC => k_is)
    (case e11_gC => k_is)
    (case e11_kk => k_is)
    (case e11_mC => k_is)
    (case e11_sB => first | k_is | rfl | k_exc | kernel_rfl)
    (case al_successor_failures => k_is)
    (case oc_Clu => k_is)
    (case opg_Clu => k_is)
    (case ohd_Clu => k_is)
    (case opo_Clu => k_is)
    (case osa_Clu => k_is)
    (case omk_Clu => k_is)
    (case okc_Clu => k_is)
    (case on_Clu_n => k_is)
    (case on_Clu_failures => k_is)
    (case on_Clu_factor => k_is)
    (case on_Clu_count => k_is)
    (case on_Clu_living => k_is)
    (case on_Clu_past => k_is)
    (case oc_Desk => k_is)
    (case opg_Desk => k_is)
    (case ohd_Desk => k_is)
    (case opo_Desk => k_is)
    (case osa_Desk => k_is)
    (case omk_Desk => k_is)
    (case okc_Desk => k_is)
    (case on_Desk_cluster => k_is)
    (case ma1 => k_is)
    (case mi1 => k_is)
    (case ml1 => k_is)
    (case mc1 => k_is)
    (case mk1 => k_is)
    (case ma2 => k_is)
    (case mi2 => k_is)
    (case ml2 => k_is)
    (case mc2 => k_is)
    (case mk2 => k_is)
    (case ma3 => k_is)
    (case mi3 => k_is)
    (case ml3 => k_is)
    (case mc3 => k_is)
    (case mk3 => k_is)
    (case ma4 => k_is)
    (case mi4 => k_is)
    (case ml4 => k_is)
    (case mc4 => k_is)
    (case mk4 => k_is)
    (case ma5 => k_is)
    (case mi5 => k_is)
    (case ml5 => k_is)
    (case mc5 => k_is)
    (case mk5 => k_is)
    (case ma6 => k_is)
    (case mi6 => k_is)
    (case ml6 => k_is)
    (case mc6 => k_is)
    (case mk6 => k_is)
    (case ma7 => k_is)
    (case mi7 => k_is)
    (case ml7 => k_is)
    (case mc7 => k_is)
    (case mk7 => k_is)
    (case ma8 => k_is)
    (case mi8 => k_is)
    (case ml8 => k_is)
    (case mc8 => k_is)
    (case mk8 => k_is)
    (case ma9 => k_is)
    (case mi9 => k_is)
    (case ml9 => k_is)
    (case mc9 => k_is)
    (case mk9 => k_is)
    (case ma10 => k_is)
    (case mi10 => k_is)
    (case ml10 => k_is)
    (case mc10 => k_is)
    (case mk10 => k_is)
    (case ma11 => k_is)
    (case mi11 => k_is)
    (case ml11 => k_is)
    (case mc11 => k_is)
    (case mk11 => k_is)
    (case ma12 => k_is)
    (case mi12 => k_is)
    (case ml12 => k_is)
    (case mc12 => k_is)
    (case mk12 => k_is)
    (case ma13 => k_is)
    (case mi13 => k_is)
    (case ml13 => k_is)
    (case mc13 => k_is)
    (case mk13 => k_is)
    (case ma14 => k_is)
    (case mi14 => k_is)
    (case ml14 => k_is)
    (case mc14 => k_is)
    (case mk14 => k_is)
    (case ma15 => k_is)
    (case mi15 => k_is)
    (case ml15 => k_is)
    (case mc15 => k_is)
    (case mk15 => k_is)
    (case ma16 => k_is)
    (case mi16 => k_is)
    (case ml16 => k_is)
    (case mc16 => k_is)
    (case mk16 => k_is)
    (case ma17 => k_is)
    (case mi17 => k_is)
    (case ml17 => k_is)
    (case mc17 => k_is)
    (case mk17 => k_is)
    (case ma18 => k_is)
    (case mi18 => k_is)
    (case ml18 => k_is)
    (case mc18 => k_is)
    (case mk18 => k_is)
    (case ma19 => k_is)
    (case mi19 => k_is)
    (case ml19 => k_is)
    (case mc19 => k_is)
    (case mk19 => k_is)
    (case kt_kitDig => first | k_is | rfl | k_exc | kernel_rfl)
    (case kt_kNoUx => first | k_is | rfl | k_exc | kernel_rfl)
    (case kt_kNoUk => first | k_is | rfl | k_exc | kernel_rfl)
    (case kt_kNoUb => first | k_is | rfl | k_exc | kernel_rfl)
    (case kt_kNoUt => first | k_is | rfl | k_exc | kernel_rfl)
    (case kt_kNoUe => first | k_is | rfl | k_exc | kernel_rfl)
    (case kt_kNoUg => first | k_is | rfl | k_exc | kernel_rfl)
    (case kt_kNoUa => first | k_is | rfl | k_exc | kernel_rfl)
    (case kt_kNoUd => first | k_is | rfl | k_exc | kernel_rfl)
    (case kt_kNoUc => first | k_is | rfl | k_exc | kernel_rfl)
    (case kt_kNoUm => first | k_is | rfl | k_exc | kernel_rfl)
    (case kt_kit_NoLi_NoLi => first | k_is | rfl | k_exc | kernel_rfl)
    (case kt_kit_NoLi_NoN => first | k_is | rfl | k_exc | kernel_rfl)
    (case kt_kit_NoLi_NotL => first | k_is | rfl | k_exc | kernel_rfl)
    (case kt_kit_NoLi_NotD => first | k_is | rfl | k_exc | kernel_rfl)
    (case kt_kit_NoLi_TooF => first | k_is | rfl | k_exc | kernel_rfl)
    (case kt_kit_NoLi_NoU => first | k_is | rfl | k_exc | kernel_rfl)
    (case kt_kit_NoN_NoLi => first | k_is | rfl | k_exc | kernel_rfl)
    (case kt_kit_NoN_NoN => first | k_is | rfl | k_exc | kernel_rfl)
    (case kt_kit_NoN_NotL => first | k_is | rfl | k_exc | kernel_rfl)
    (case kt_kit_NoN_NotD => first | k_is | rfl | k_exc | kernel_rfl)
    (case kt_kit_NoN_TooF => first | k_is | rfl | k_exc | kernel_rfl)
    (case kt_kit_NoN_NoU => first | k_is | rfl | k_exc | kernel_rfl)
    (case kt_kit_NotL_NoLi => first | k_is | rfl | k_exc | kernel_rfl)
    (case kt_kit_NotL_NoN => first | k_is | rfl | k_exc | kernel_rfl)
    (case kt_kit_NotL_NotL => first | k_is | rfl | k_exc | kernel_rfl)
    (case kt_kit_NotL_NotD => first | k_is | rfl | k_exc | kernel_rfl)
    (case kt_kit_NotL_TooF => first | k_is | rfl | k_exc | kernel_rfl)
    (case kt_kit_NotL_NoU => first | k_is | rfl | k_exc | kernel_rfl)
    (case kt_kit_NotD_NoLi => first | k_is | rfl | k_exc | kernel_rfl)
    (case kt_kit_NotD_NoN => first | k_is | rfl | k_exc | kernel_rfl)
    (case kt_kit_NotD_NotL => first | k_is | rfl | k_exc | kernel_rfl)
    (case kt_kit_NotD_NotD => first | k_is | rfl | k_exc | kernel_rfl)
    (case kt_kit_NotD_TooF => first | k_is | rfl | k_exc | kernel_rfl)
    (case kt_kit_NotD_NoU => first | k_is | rfl | k_exc | kernel_rfl)
    (case kt_kit_TooF_NoLi => first | k_is | rfl | k_exc | kernel_rfl)
    (case kt_kit_TooF_NoN => first | k_is | rfl | k_exc | kernel_rfl)
    (case kt_kit_TooF_NotL => first | k_is | rfl | k_exc | kernel_rfl)
    (case kt_kit_TooF_NotD => first | k_is | rfl | k_exc | kernel_rfl)
    (case kt_kit_TooF_TooF => first | k_is | rfl | k_exc | kernel_rfl)
    (case kt_kit_TooF_NoU => first | k_is | rfl | k_exc | kernel_rfl)
    (case kt_kit_NoU_NoLi => first | k_is | rfl | k_exc | kernel_rfl)
    (case kt_kit_NoU_NoN => first | k_is | rfl | k_exc | kernel_rfl)
    (case kt_kit_NoU_NotL => first | k_is | rfl | k_exc | kernel_rfl)
    (case kt_kit_NoU_NotD => first | k_is | rfl | k_exc | kernel_rfl)
    (case kt_kit_NoU_TooF => first | k_is | rfl | k_exc | kernel_rfl)
    (case kt_kit_NoU_NoU => first | k_is | rfl | k_exc | kernel_rfl)
    (case kt_kSV_NoLi => first | k_is | rfl | k_exc | kernel_rfl)
    (case kt_kSV_NoN => first | k_is | rfl | k_exc | kernel_rfl)
    (case kt_kSV_NotL => first | k_is | rfl | k_exc | kernel_rfl)
    (case kt_kSV_NotD => first | k_is | rfl | k_exc | kernel_rfl)
    (case kt_kSV_TooF => first | k_is | rfl | k_exc | kernel_rfl)
    (case kt_kSV_NoU => first | k_is | rfl | k_exc | kernel_rfl)
    (case gd_Forms => k_is)
    (case dw_Forms => first | k_is | rfl | k_exc | kernel_rfl)
    (case dk_Forms_fail => k_is)
    (case dk_Forms_recover => k_is)
    (case dk_Forms_owners => k_is)
    (case dk_Forms_successor => k_is)
    (case dk_Forms_load => k_is)
    (case dk_Forms_live => k_is)
    (case dk_Forms_copied => k_is)
    (case dk_Forms_changes => k_is)
    (case dk_Forms_undo => k_is)
    (case dk_Forms_list => k_is)
    (case dk_Forms_text => k_is)
    (case gl_LEAST_SERVERS => k_is)
    (case gl_MOST_SERVERS => k_is)
    (case gl_MOST_DIGITS => k_is)
    (case z1 => k_is)
    (case z2 => k_is)
    (case z3 => k_is)
    (case z4 => k_is)
    (case z5 => k_is)
    (case z6 => k_is)
    (case z7 => k_is)
    (case z8 => k_is)
    (case z9 => k_is)
    (case z10 => k_is)
    (case z11 => k_is)
    (case z12 => k_is)
    (case z13 => k_is)
    (case z14 => k_is)
    (case z15 => k_is)
    (case tbRight54 => first | k_is | rfl | decide +kernel)
    (case tnRight54 => first | k_is | rfl | decide +kernel)
    (case trRight54 => first | k_is | rfl | decide +kernel)

import PyProof.Rows.All
import Wide.All
import OpenK.AllK
import Wide.FinOn
import HandS.ForMost
import HandS.IsInst
import HandS.DictComp
import HandS.SetFor
import HandS.Codes
import PySem.Challenge.RW_forkedshelves_k10_least_cover_by_blocks
set_option Elab.async false
set_option linter.all false
set_option maxRecDepth 100000
set_option maxHeartbeats 4000000
namespace P10
open PySem PySem.Spec PyProof.Rows L2
/-! ### the mathematics of a cover by halves -/
def cov (m : Nat → Bool) : Nat → Nat → List (Nat × Nat)
  | 0, s => if m s = true then [(s, 1)] else []
  | k + 1, s => if cov m k s = [(s, 2 ^ k)] ∧ cov m k (s + 2 ^ k) = [(s + 2 ^ k, 2 ^ k)] then [(s, 2 ^ (k + 1))] else cov m k s ++ cov m k (s + 2 ^ k)
theorem cov_succ (m : Nat → Bool) (k s : Nat) : cov m (k + 1) s = if cov m k s = [(s, 2 ^ k)] ∧ cov m k (s + 2 ^ k) = [(s + 2 ^ k, 2 ^ k)] then [(s, 2 ^ (k + 1))] else cov m k s ++ cov m k (s + 2 ^ k) := rfl
def Fu (m : Nat → Bool) (a n : Nat) : Prop := ∀ x, a ≤ x → x < a + n → m x = true
def Ze (m : Nat → Bool) (a b : Nat) : Prop := ∀ x, a ≤ x → x < b → m x = false
theorem cov_small (m : Nat → Bool) : ∀ k s b, b ∈ cov m k s → b.2 ≤ 2 ^ k
  | 0, s, b, h => by
    unfold cov at h
    split at h
    · obtain rfl := List.mem_singleton.mp h
      exact Nat.le_refl 1
    · cases h
  | k + 1, s, b, h => by
    unfold cov at h
    have e : 2 ^ k ≤ 2 ^ (k + 1) := Nat.pow_le_pow_right (by decide) (by omega)
    split at h
    · obtain rfl := List.mem_singleton.mp h
      exact Nat.le_refl _
    · rcases List.mem_append.mp h with h | h
      · exact Nat.le_trans (cov_small m k _ b h) e
      · exact Nat.le_trans (cov_small m k _ b h) e
theorem fu_halves {m : Nat → Bool} {s k : Nat} : Fu m s (2 ^ (k + 1)) ↔ Fu m s (2 ^ k) ∧ Fu m (s + 2 ^ k) (2 ^ k) := by
  have e : 2 ^ (k + 1) = 2 ^ k + 2 ^ k := by omega
  constructor
  · intro h
    exact ⟨fun x h1 h2 => h x h1 (by omega), fun x h1 h2 => h x (by omega) (by omega)⟩
  · intro ⟨h1, h2⟩ x hx hy
    by_cases q : x < s + 2 ^ k
    · exact h1 x hx q
    · exact h2 x (by omega) (by omega)
theorem cov_full (m : Nat → Bool) : ∀ k s, cov m k s = [(s, 2 ^ k)] ↔ Fu m s (2 ^ k)
  | 0, s => by
    unfold cov
    constructor
    · intro h
      by_cases q : m s = true
      · intro x h1 h2
        have : x = s := by omega
        rw [this]
        exact q
      · rw [if_neg q] at h
        cases h
    · intro h
      rw [if_pos (h s (Nat.le_refl _) (by omega))]
  | k + 1, s => by
    rw [fu_halves, ← cov_full m k s, ← cov_full m k (s + 2 ^ k)]
    constructor
    · intro h
      unfold cov at h
      split at h
      · assumption
      · have hm : (s, 2 ^ (k + 1)) ∈ cov m k s ++ cov m k (s + 2 ^ k) := by
          rw [h]
          exact List.mem_singleton.mpr rfl
        have hs : 2 ^ (k + 1) ≤ 2 ^ k := by
          rcases List.mem_append.mp hm with q | q
          · exact cov_small m k _ _ q
          · exact cov_small m k _ _ q
        have := Nat.two_pow_pos k
        omega
    · intro h
      unfold cov
      rw [if_pos h]
/-- what a look through the blocks asks of them, from `beh` on to the end e -/
def Chk (m : Nat → Bool) (N : Nat) : Nat → List (Nat × Nat) → Nat → Prop
  | beh, [], e => beh ≤ e ∧ Ze m beh e
  | beh, b :: r, e => beh ≤ b.1 ∧ 1 ≤ b.2 ∧ b.1 + b.2 ≤ e ∧ b.2 ∣ N ∧ b.2 ∣ b.1 ∧ Ze m beh b.1 ∧ Fu m b.1 b.2 ∧ (2 * b.2 ≤ N → ¬ Fu m (b.1 - b.1 % (2 * b.2)) (2 * b.2)) ∧ Chk m N (b.1 + b.2) r e
theorem ze_join {m : Nat → Bool} {a b c : Nat} (h1 : Ze m a b) (h2 : Ze m b c) : Ze m a c := fun x q r => by
  by_cases z : x < b
  · exact h1 x q z
  · exact h2 x (by omega) r
theorem chk_left {m : Nat → Bool} {N a b e : Nat} (hab : a ≤ b) (h : Ze m a b) : ∀ {l}, Chk m N b l e → Chk m N a l e
  | [], c => ⟨by have := c.1; omega, ze_join h c.2⟩
  | _ :: _, ⟨c1, c2, c3, c4, c5, c6, c7⟩ => ⟨by omega, c2, c3, c4, c5, ze_join h c6, c7⟩
theorem chk_widen {m : Nat → Bool} {N mid e : Nat} (hm : mid ≤ e) {l2 : List (Nat × Nat)} (h2 : Chk m N mid l2 e) : ∀ {l1 a}, Chk m N a l1 mid → Chk m N a (l1 ++ l2) e
  | [], a, c => chk_left c.1 c.2 h2
  | b :: r, a, ⟨c1, c2, c3, c4, c5, c6, c7, c8, c9⟩ => ⟨c1, c2, by omega, c4, c5, c6, c7, c8, chk_widen hm h2 c9⟩
theorem cov_chk (m : Nat → Bool) (L : Nat) : ∀ k s, k ≤ L → 2 ^ k ∣ s → (Fu m s (2 ^ k) → 2 * 2 ^ k ≤ 2 ^ L → ¬ Fu m (s - s % (2 * 2 ^ k)) (2 * 2 ^ k)) → Chk m (2 ^ L) s (cov m k s) (s + 2 ^ k)
  | 0, s, _, _, hp => by
    unfold cov
    split
    · rename_i q
      have f : Fu m s 1 := fun x h1 h2 => by
        have : x = s := by omega
        rw [this]
        exact q
      exact ⟨Nat.le_refl _, Nat.le_refl _, Nat.le_refl _, Nat.one_dvd _, Nat.one_dvd _, fun x h1 h2 => by omega, f, hp f, Nat.le_refl _, fun x h1 h2 => by simp at h1 h2; omega⟩
    · rename_i q
      refine ⟨by omega, fun x h1 h2 => ?_⟩
      have : x = s := by simp at h2; omega
      rw [this]
      simpa using q
  | k + 1, s, hk, hd, hp => by
    have e : 2 ^ (k + 1) = 2 ^ k + 2 ^ k := by omega
    have p0 := Nat.two_pow_pos k
    by_cases q : cov m k s = [(s, 2 ^ k)] ∧ cov m k (s + 2 ^ k) = [(s + 2 ^ k, 2 ^ k)]
    · have f : Fu m s (2 ^ (k + 1)) := fu_halves.mpr ⟨(cov_full m k s).mp q.1, (cov_full m k _).mp q.2⟩
      unfold cov
      rw [if_pos q]
      exact ⟨Nat.le_refl _, Nat.two_pow_pos _, Nat.le_refl _, Nat.pow_dvd_pow 2 hk, hd, fun x h1 h2 => absurd h2 (by simp; omega), f, hp f, Nat.le_refl _, fun x h1 h2 => absurd h2 (by simp at h1 ⊢; omega)⟩
    · have nf : ¬ Fu m s (2 * 2 ^ k) := fun f => by
        have f' : Fu m s (2 ^ (k + 1)) := by
          rw [show 2 ^ (k + 1) = 2 * 2 ^ k by omega]
          exact f
        obtain ⟨f1, f2⟩ := fu_halves.mp f'
        exact q ⟨(cov_full m k s).mpr f1, (cov_full m k _).mpr f2⟩
      have hd' : 2 * 2 ^ k ∣ s := by
        rw [show 2 * 2 ^ k = 2 ^ (k + 1) by omega]
        exact hd
      have m0 : s % (2 * 2 ^ k) = 0 := Nat.mod_eq_zero_of_dvd hd'
      have hd1 : 2 ^ k ∣ s := Nat.dvd_trans (Nat.dvd_mul_left _ _) hd'
      unfold cov
      rw [if_neg q]
      have r := cov_chk m L k (s + 2 ^ k) (by omega) (Nat.dvd_add hd1 (Nat.dvd_refl _)) fun _ _ => by
        have : (s + 2 ^ k) % (2 * 2 ^ k) = 2 ^ k := by
          rw [Nat.add_mod, m0, Nat.zero_add, Nat.mod_mod, Nat.mod_eq_of_lt (by omega)]
        rw [this, Nat.add_sub_cancel]
        exact nf
      have l := cov_chk m L k s (by omega) hd1 fun _ _ => by
        rw [m0, Nat.sub_zero]
        exact nf
      rw [show s + 2 ^ (k + 1) = s + 2 ^ k + 2 ^ k by omega]
      exact chk_widen (by omega) r l
/-! ### the count by halves -/
def ful (m : Nat → Bool) : Nat → Nat → Nat
  | 0, s => if m s = true then 1 else 0
  | k + 1, s => ful m k s * ful m k (s + 2 ^ k)
theorem ful_is (m : Nat → Bool) : ∀ k s, ful m k s = 1 ∨ ful m k s = 0
  | 0, s => by
    unfold ful
    split
    · exact .inl rfl
    · exact .inr rfl
  | k + 1, s => by
    unfold ful
    rcases ful_is m k s with h | h <;> rcases ful_is m k (s + 2 ^ k) with h2 | h2 <;> rw [h, h2] <;> simp
theorem ful_fu (m : Nat → Bool) : ∀ k s, ful m k s = 1 ↔ Fu m s (2 ^ k)
  | 0, s => by
    unfold ful
    constructor
    · intro h x h1 h2
      have : x = s := by simp at h2; omega
      rw [this]
      by_cases q : m s = true
      · exact q
      · rw [if_neg q] at h
        cases h
    · intro h
      rw [if_pos (h s (Nat.le_refl _) (by simp))]
  | k + 1, s => by
    rw [fu_halves, ← ful_fu m k s, ← ful_fu m k (s + 2 ^ k)]
    show ful m k s * ful m k (s + 2 ^ k) = 1 ↔ _
    constructor
    · intro h
      rcases ful_is m k s with a | a <;> rcases ful_is m k (s + 2 ^ k) with b | b <;> rw [a, b] at h <;> simp at h
      exact ⟨a, b⟩
    · intro ⟨a, b⟩
      rw [a, b]
theorem cov_len (m : Nat → Bool) (k s : Nat) : (cov m (k + 1) s).length = if ful m (k + 1) s = 1 then 1 else (cov m k s).length + (cov m k (s + 2 ^ k)).length := by
  by_cases q : ful m (k + 1) s = 1
  · rw [if_pos q, (cov_full m (k + 1) s).mpr ((ful_fu m (k + 1) s).mp q)]
    rfl
  · rw [if_neg q]
    have h : ¬ (cov m k s = [(s, 2 ^ k)] ∧ cov m k (s + 2 ^ k) = [(s + 2 ^ k, 2 ^ k)]) := fun ⟨a, b⟩ => q ((ful_fu m (k + 1) s).mpr (fu_halves.mpr ⟨(cov_full m k s).mp a, (cov_full m k _).mp b⟩))
    rw [cov_succ, if_neg h, List.length_append]
theorem cov_len0 (m : Nat → Bool) (s : Nat) : (cov m 0 s).length = ful m 0 s := by
  unfold cov ful
  split <;> rfl
theorem cov_len_le (m : Nat → Bool) : ∀ k s, (cov m k s).length ≤ 2 ^ k
  | 0, s => by
    unfold cov
    split
    · exact Nat.le_refl 1
    · exact Nat.zero_le _
  | k + 1, s => by
    have e : 2 ^ (k + 1) = 2 ^ k + 2 ^ k := by omega
    have h1 := cov_len_le m k s
    have h2 := cov_len_le m k (s + 2 ^ k)
    have p := Nat.two_pow_pos k
    rw [cov_len]
    split <;> omega
/-! ### lists of 0 and 1 -/
def on (ms : List Int) (x : Nat) : Bool := decide (ms[x]? = some 1)
def ZO (ms : List Int) : Prop := ∀ v ∈ ms, v = 0 ∨ v = 1
theorem sum_zero : ∀ {l : List Int}, ZO l → (l.sum = 0 ↔ ∀ v ∈ l, v = 0)
  | [], _ => by simp
  | a :: r, z => by
    have ih := sum_zero (l := r) fun v h => z v (List.mem_cons_of_mem _ h)
    have nn : ∀ {l : List Int}, ZO l → 0 ≤ l.sum := by
      intro l
      induction l with
      | nil => intro _; exact Int.le_refl 0
      | cons b q ih =>
        intro z
        have h1 := z b List.mem_cons_self
        have h2 := ih fun v h => z v (List.mem_cons_of_mem _ h)
        rw [List.sum_cons]
        omega
    have h1 := z a List.mem_cons_self
    have h2 := nn (l := r) fun v h => z v (List.mem_cons_of_mem _ h)
    rw [List.sum_cons]
    constructor
    · intro h v hv
      have ha : a = 0 := by omega
      rcases List.mem_cons.mp hv with rfl | hv
      · exact ha
      · exact ih.mp (by omega) v hv
    · intro h
      have ha := h a List.mem_cons_self
      have hr := ih.mpr fun v hv => h v (List.mem_cons_of_mem _ hv)
      omega
theorem sum_full : ∀ {l : List Int}, ZO l → (l.sum = l.length ↔ ∀ v ∈ l, v = 1)
  | [], _ => by simp
  | a :: r, z => by
    have ih := sum_full (l := r) fun v h => z v (List.mem_cons_of_mem _ h)
    have le : ∀ {l : List Int}, ZO l → l.sum ≤ l.length := by
      intro l
      induction l with
      | nil => intro _; exact Int.le_refl 0
      | cons b q ih =>
        intro z
        have h1 := z b List.mem_cons_self
        have h2 := ih fun v h => z v (List.mem_cons_of_mem _ h)
        rw [List.sum_cons, List.length_cons]
        omega
    have h1 := z a List.mem_cons_self
    have h2 := le (l := r) fun v h => z v (List.mem_cons_of_mem _ h)
    rw [List.sum_cons, List.length_cons]
    constructor
    · intro h v hv
      have ha : a = 1 := by omega
      rcases List.mem_cons.mp hv with rfl | hv
      · exact ha
      · exact ih.mp (by omega) v hv
    · intro h
      have ha := h a List.mem_cons_self
      have hr := ih.mpr fun v hv => h v (List.mem_cons_of_mem _ hv)
      omega
/-- a slice by its start and its length -/
def cut (ms : List Int) (a n : Nat) : List Int := (ms.drop a).take n
theorem cut_len {ms : List Int} {a n : Nat} (h : a + n ≤ ms.length) : (cut ms a n).length = n := by
  unfold cut
  rw [List.length_take, List.length_drop]
  omega
theorem cut_mem {ms : List Int} {a n : Nat} {v : Int} (h : v ∈ cut ms a n) : ∃ x, a ≤ x ∧ x < a + n ∧ ms[x]? = some v := by
  obtain ⟨i, hi⟩ := List.getElem?_of_mem h
  unfold cut at hi
  rw [List.getElem?_take] at hi
  split at hi
  · rename_i q
    rw [List.getElem?_drop] at hi
    exact ⟨a + i, by omega, by omega, hi⟩
  · cases hi
theorem mem_cut {ms : List Int} {a n x : Nat} {v : Int} (h1 : a ≤ x) (h2 : x < a + n) (h : ms[x]? = some v) : v ∈ cut ms a n := by
  refine List.mem_of_getElem? (i := x - a) ?_
  unfold cut
  rw [List.getElem?_take, if_pos (by omega), List.getElem?_drop, show a + (x - a) = x by omega]
  exact h
theorem cut_zo {ms : List Int} (z : ZO ms) (a n : Nat) : ZO (cut ms a n) := fun v h => by
  obtain ⟨x, _, _, e⟩ := cut_mem h
  exact z v (List.mem_of_getElem? e)
theorem cut_zero {ms : List Int} (z : ZO ms) {a n : Nat} (h : Ze (on ms) a (a + n)) : (cut ms a n).sum = 0 :=
  (sum_zero (cut_zo z a n)).mpr fun v hv => by
    obtain ⟨x, h1, h2, e⟩ := cut_mem hv
    have o := h x h1 h2
    unfold on at o
    have o' := of_decide_eq_false o
    rcases z v (List.mem_of_getElem? e) with q | q
    · exact q
    · rw [q] at e
      exact absurd e o'
theorem cut_full {ms : List Int} (z : ZO ms) {a n : Nat} (hl : a + n ≤ ms.length) : (cut ms a n).sum = n ↔ Fu (on ms) a n := by
  have f := sum_full (cut_zo z a n)
  rw [cut_len hl] at f
  rw [f]
  constructor
  · intro h x h1 h2
    have hx : x < ms.length := by omega
    have e : ms[x]? = some ms[x] := List.getElem?_eq_getElem hx
    have := h _ (mem_cut h1 h2 e)
    unfold on
    rw [e, this]
    rfl
  · intro h v hv
    obtain ⟨x, h1, h2, e⟩ := cut_mem hv
    have o := of_decide_eq_true (h x h1 h2)
    rw [e] at o
    exact Option.some.inj o
def topS (i : Nat) : Stmt := PySem.Challenge.pw_forkedshelves_k10_least_cover_by_blocks.main.body.getD i (.Pass ⟨0, 0, 0, 0⟩)
abbrev s_least_cover : Stmt := topS 1
abbrev N_least_cover : List Str := ["depth", "places", "wanted", "place"]
theorem sc_least_cover : FnScope N_least_cover ["depth", "places"] (defScope s_least_cover) := ⟨rfl, rfl, rfl, by decide +kernel, rfl, by decide +kernel, by decide +kernel⟩
abbrev s_u_cover : Stmt := topS 2
abbrev N_u_cover : List Str := ["wanted", "start", "size", "half", "left", "right"]
theorem sc_u_cover : FnScope N_u_cover ["wanted", "start", "size"] (defScope s_u_cover) := ⟨rfl, rfl, rfl, by decide +kernel, rfl, by decide +kernel, by decide +kernel⟩
abbrev s_open : Stmt := topS 4
abbrev N_open : List Str := ["_law_script", "_law_at", "_law_cell"]
theorem sc_open : FnScope N_open ["_law_script", "_law_at"] (defScope s_open) := ⟨rfl, rfl, rfl, by decide +kernel, rfl, by decide +kernel, by decide +kernel⟩
abbrev s_take : Stmt := topS 5
abbrev N_take : List Str := ["_law_box", "_law_size", "_law_drawn", "_law_k", "_law_mixed"]
theorem sc_take : FnScope N_take ["_law_box", "_law_size"] (defScope s_take) := ⟨rfl, rfl, rfl, by decide +kernel, rfl, by decide +kernel, by decide +kernel⟩
abbrev s_whole : Stmt := topS 6
abbrev N_whole : List Str := ["_law_levels", "_law_size", "_law_k"]
theorem sc_whole : FnScope N_whole ["_law_levels"] (defScope s_whole) := ⟨rfl, rfl, rfl, by decide +kernel, rfl, by decide +kernel, by decide +kernel⟩
abbrev s_marks : Stmt := topS 7
abbrev N_marks : List Str := ["_law_box", "_law_whole_here", "_law_way", "_law_k", "_law_marks_here", "_law_start", "_law_count", "_law_at"]
theorem sc_marks : FnScope N_marks ["_law_box", "_law_whole_here"] (defScope s_marks) := ⟨rfl, rfl, rfl, by decide +kernel, rfl, by decide +kernel, by decide +kernel⟩
abbrev s_handed : Stmt := topS 8
abbrev N_handed : List Str := ["_law_box", "_law_marks_here", "_law_listed", "_law_turn", "_law_turned", "_law_way", "_law_odd", "_law_k", "_law_place", "_law_at"]
theorem sc_handed : FnScope N_handed ["_law_box", "_law_marks_here"] (defScope s_handed) := ⟨rfl, rfl, rfl, by decide +kernel, rfl, by decide +kernel, by decide +kernel⟩
abbrev s_least : Stmt := topS 9
abbrev N_least : List Str := ["_law_levels", "_law_marks_here", "_law_counts", "_law_fulls", "_law_k", "_law_wider", "_law_wider_fulls", "_law_at", "_law_full"]
theorem sc_least : FnScope N_least ["_law_levels", "_law_marks_here"] (defScope s_least) := ⟨rfl, rfl, rfl, by decide +kernel, rfl, by decide +kernel, by decide +kernel⟩
abbrev s_covers : Stmt := topS 10
abbrev N_covers : List Str := ["_law_told", "_law_levels", "_law_marks_here", "_law_whole_here", "_law_behind", "_law_block", "_law_number", "_law_start", "_law_size", "_law_outer"]
theorem sc_covers : FnScope N_covers ["_law_told", "_law_levels", "_law_marks_here"] (defScope s_covers) := ⟨rfl, rfl, rfl, by decide +kernel, rfl, by decide +kernel, by decide +kernel⟩
abbrev s_change : Stmt := topS 11
abbrev N_change : List Str := ["_law_listed", "_law_marks_here", "_law_place", "_law_k"]
theorem sc_change : FnScope N_change ["_law_listed", "_law_marks_here", "_law_place"] (defScope s_change) := ⟨rfl, rfl, rfl, by decide +kernel, rfl, by decide +kernel, by decide +kernel⟩
abbrev s_law : Stmt := topS 12
abbrev N_law : List Str := ["_law_script", "_law_box", "_law_levels", "_law_marks_here", "_law_handed_here", "_law_mine", "_law_told", "_law_k"]
theorem sc_law : FnScope N_law ["_law_script"] (defScope s_law) := ⟨rfl, rfl, rfl, by decide +kernel, rfl, by decide +kernel, by decide +kernel⟩
/-- what the top has left, by names -/
structure Txt (K : PySem.W.Frag) (mg : Str → Option Value) : Type where
  f_least_cover : Addr
  fd_least_cover : FuncData
  F_least_cover : Fun K "least_cover" "least_cover" s_least_cover f_least_cover fd_least_cover
  b_least_cover : Binds K fd_least_cover ["depth", "places"] []
  g_least_cover : mg "least_cover" = some (.ref f_least_cover)
  f_u_cover : Addr
  fd_u_cover : FuncData
  F_u_cover : Fun K "_cover" "_cover" s_u_cover f_u_cover fd_u_cover
  b_u_cover : Binds K fd_u_cover ["wanted", "start", "size"] []
  g_u_cover : mg "_cover" = some (.ref f_u_cover)
  f_open : Addr
  fd_open : FuncData
  F_open : Fun K "_law_open" "_law_open" s_open f_open fd_open
  b_open : Binds K fd_open ["_law_script", "_law_at"] []
  g_open : mg "_law_open" = some (.ref f_open)
  f_take : Addr
  fd_take : FuncData
  F_take : Fun K "_law_take" "_law_take" s_take f_take fd_take
  b_take : Binds K fd_take ["_law_box", "_law_size"] []
  g_take : mg "_law_take" = some (.ref f_take)
  f_whole : Addr
  fd_whole : FuncData
  F_whole : Fun K "_law_whole" "_law_whole" s_whole f_whole fd_whole
  b_whole : Binds K fd_whole ["_law_levels"] []
  g_whole : mg "_law_whole" = some (.ref f_whole)
  f_marks : Addr
  fd_marks : FuncData
  F_marks : Fun K "_law_marks" "_law_marks" s_marks f_marks fd_marks
  b_marks : Binds K fd_marks ["_law_box", "_law_whole_here"] []
  g_marks : mg "_law_marks" = some (.ref f_marks)
  f_handed : Addr
  fd_handed : FuncData
  F_handed : Fun K "_law_handed" "_law_handed" s_handed f_handed fd_handed
  b_handed : Binds K fd_handed ["_law_box", "_law_marks_here"] []
  g_handed : mg "_law_handed" = some (.ref f_handed)
  f_least : Addr
  fd_least : FuncData
  F_least : Fun K "_law_least" "_law_least" s_least f_least fd_least
  b_least : Binds K fd_least ["_law_levels", "_law_marks_here"] []
  g_least : mg "_law_least" = some (.ref f_least)
  f_covers : Addr
  fd_covers : FuncData
  F_covers : Fun K "_law_covers" "_law_covers" s_covers f_covers fd_covers
  b_covers : Binds K fd_covers ["_law_told", "_law_levels", "_law_marks_here"] []
  g_covers : mg "_law_covers" = some (.ref f_covers)
  f_change : Addr
  fd_change : FuncData
  F_change : Fun K "_law_change" "_law_change" s_change f_change fd_change
  b_change : Binds K fd_change ["_law_listed", "_law_marks_here", "_law_place"] []
  g_change : mg "_law_change" = some (.ref f_change)
  f_law : Addr
  fd_law : FuncData
  F_law : Fun K "law" "law" s_law f_law fd_law
  b_law : Binds K fd_law ["_law_script"] []
  g_law : mg "law" = some (.ref f_law)
  z_len : mg "len" = none
  z_int : mg "int" = none
  z_range : mg "range" = none
  z_list : mg "list" = none
  z_isinstance : mg "isinstance" = none
  z_sum : mg "sum" = none
  z_tuple : mg "tuple" = none
  z_bool : mg "bool" = none
/-! ### heaps -/
theorem Same.new {H : Hp} {p : Addr} {o : HO} (h : H p = none) : Same H (upd H p o) := fun b x e => by
  rw [upd_ne (ne_of_none e h)]
  exact e
/-- an object that H does not know may change -/
theorem Same.mut {H H' : Hp} {p : Addr} {o : HO} (e : Same H H') (h : H p = none) : Same H (upd H' p o) := fun b x q => by
  rw [upd_ne (ne_of_none q h)]
  exact e _ _ q
theorem Same.tup {K : PySem.W.Frag} {H H' : Hp} {a : Addr} {xs : List V} (e : Same H H') (h : SqT K H a xs) : SqT K H' a xs := by
  rcases h with (h | ⟨o, h⟩) | h
  · exact .inl (.inl (e _ _ h))
  · exact .inl (.inr ⟨o, e _ _ h⟩)
  · exact .inr h
theorem iteD0 {c A B : Prop} [Decidable c] (hc : ¬ c) (h : B) : if decide c = true then A else B := by
  rw [decide_eq_false hc]
  exact iteF h
theorem iteD1 {c A B : Prop} [Decidable c] (hc : c) (h : A) : if decide c = true then A else B := by
  rw [decide_eq_true hc]
  exact iteT h
theorem iteN1 {c A B : Prop} [Decidable c] (hc : ¬ c) (h : A) : if (!decide c) = true then A else B := by
  rw [decide_eq_false hc]
  exact iteT h
theorem ip_of {X : Cx} {op : Operator} {r : R2} (ho : OpR X (inplaceOp op) r) : PIp X op r := fun _ _ _ _ _ _ _ _ _ I rx ry q => augR ho I rx ry q
theorem sz {n : Nat} (h : n ≤ 100000) : n ≤ sizeLine := Nat.le_trans h (by decide)
theorem szl {n : Nat} (h : n < 100000) : n < sizeLine := Nat.lt_of_lt_of_le h (by decide)
/-- len, list(..) of a list or a tuple: the rules' questions by K -/
def rLenK (K : PySem.W.Frag) : List V → Hp → VK → Prop := fun ws Hw Q => ∃ p its, ws = [V.ref p] ∧ (SqL K Hw p its ∨ SqT K Hw p its) ∧ Q (V.int its.length) Hw
def rListK (K : PySem.W.Frag) : List V → Hp → VK → Prop := fun ws Hw Q => ∃ p its, ws = [V.ref p] ∧ (SqL K Hw p its ∨ SqT K Hw p its) ∧ ∀ l, Hw l = none → Q (.ref l) (upd Hw l (.lst its))
def rTupleK (K : PySem.W.Frag) : List V → Hp → VK → Prop := fun ws Hw Q => ∃ p its, ws = [V.ref p] ∧ ((SqL K Hw p its ∧ ∀ l, Hw l = none → Q (.ref l) (upd Hw l (.tup its))) ∨ (SqT K Hw p its ∧ Q (.ref p) Hw))
/-! ### the draws' box -/
def IsBox (o : HO) : Prop := ∃ t c k : Int, o = .lst [.int t, .int c, .int k]
def Box (H : Hp) (a : Addr) : Prop := ∃ o, H a = some o ∧ IsBox o
/-- all but what stands at a is as it was, and a is a box -/
def But (a : Addr) (H H' : Hp) : Prop := (∀ b o, b ≠ a → H b = some o → H' b = some o) ∧ Box H' a
theorem But.upd {a : Addr} {H : Hp} {o : HO} (h : IsBox o) : But a H (upd H a o) := ⟨fun b x n e => by rw [upd_ne n]; exact e, o, upd_same, h⟩
theorem But.trans {a : Addr} {H H1 H2 : Hp} (x : But a H H1) (y : But a H1 H2) : But a H H2 := ⟨fun b o n e => y.1 b o n (x.1 b o n e), y.2⟩
theorem But.refl {a : Addr} {H : Hp} (h : Box H a) : But a H H := ⟨fun _ _ _ e => e, h⟩
theorem But.same {a : Addr} {H H1 H2 : Hp} (x : But a H H1) (y : Same H1 H2) : But a H H2 := ⟨fun b o n e => y b o (x.1 b o n e), let ⟨o, e, z⟩ := x.2; ⟨o, y _ _ e, z⟩⟩
theorem But.free {a b : Addr} {H H' : Hp} (e : But a H H') (hb : H' b = none) : H b = none ∨ b = a := by
  by_cases n : b = a
  · exact .inr n
  · refine .inl ?_
    cases q : H b with
    | none => rfl
    | some o =>
      rw [e.1 b o n q] at hb
      cases hb
theorem But.none {a b : Addr} {H H' : Hp} (e : But a H H') (hb : H' b = Option.none) : H b = Option.none := by
  rcases e.free hb with h | h
  · exact h
  · obtain ⟨o, q, _⟩ := e.2
    rw [h, q] at hb
    cases hb
theorem Box.lst {H : Hp} {a : Addr} (h : Box H a) : ∃ t c k : Int, H a = some (.lst [.int t, .int c, .int k]) := by
  obtain ⟨o, e, t, c, k, rfl⟩ := h
  exact ⟨t, c, k, e⟩
/-- behind a new object a, all that stood stands -/
theorem But.same_of {a : Addr} {H0 H H' : Hp} (s : Same H0 H) (n : H0 a = Option.none) (e : But a H H') : Same H0 H' := fun b o q => e.1 b o (ne_of_none q n) (s b o q)
theorem But.mut {a p : Addr} {H H' : Hp} {o : HO} (e : But a H H') (h : H p = Option.none) (n : a ≠ p) : But a H (L2.upd H' p o) := by
  refine ⟨fun b x nb q => ?_, ?_⟩
  · rw [upd_ne (ne_of_none q h)]
    exact e.1 b x nb q
  · obtain ⟨x, q, z⟩ := e.2
    exact ⟨x, by rw [upd_ne n]; exact q, z⟩
theorem Box.ne {a p : Addr} {H : Hp} (h : Box H a) (n : H p = Option.none) : a ≠ p := by
  obtain ⟨o, q, _⟩ := h
  exact ne_of_none q n
theorem ixN_at {n : Nat} {i : Int} (h0 : 0 ≤ i) (h1 : i < n) : ixN n i = some i.toNat := by
  unfold ixN
  rw [if_pos h0, if_pos h1]
def sp_open (K : PySem.W.Frag) : Sp := fun vs H Q _ => ∃ (a : Addr) (ns : List Int) (i : Nat), vs = [.ref a, .int i] ∧ SqL K H a (ns.map V.int) ∧ ∀ p o, H p = none → IsBox o → Q (.ref p) (upd H p o)
def sp_take : Sp := fun vs H Q _ => ∃ (a : Addr) (n : Int), vs = [.ref a, .int n] ∧ Box H a ∧ 0 < n ∧ n < 1073741824 ∧ ∀ (d : Int) (H' : Hp), 0 ≤ d → d < n → But a H H' → (∀ b, b ≠ a → H' b = H b) → Q (.int d) H'
def sp_whole : Sp := fun vs H Q _ => ∃ n : Nat, vs = [.int n] ∧ n ≤ 60 ∧ Q (.int ((2 ^ n : Nat) : Int)) H
theorem two_pos (i : Nat) : (0 : Int) < ((2 ^ i : Nat) : Int) := by
  have := Nat.two_pow_pos i
  omega
theorem two_next (i : Nat) : ((2 ^ i : Nat) : Int) * 2 = ((2 ^ (i + 1) : Nat) : Int) := by
  rw [Nat.pow_succ, Int.natCast_mul]
  rfl
def BlkAt (H : Hp) (t : Addr) (b : Nat × Nat) : Prop := H t = some (.tup [.int b.1, .int b.2])
abbrev Blks (H : Hp) : List Addr → List (Nat × Nat) → Prop := Paired (BlkAt H)
theorem Blks.same {H H' : Hp} {ts : List Addr} {bs : List (Nat × Nat)} (s : Same H H') (h : Blks H ts bs) : Blks H' ts bs := Paired.mapP h fun _ _ e => s _ _ e
theorem Blks.app {H : Hp} : ∀ {ts us : List Addr} {bs cs : List (Nat × Nat)}, Blks H ts bs → Blks H us cs → Blks H (ts ++ us) (bs ++ cs)
  | _, _, _, _, .nil, h => h
  | _, _, _, _, .cons r t, h => .cons r (Blks.app t h)
def encB (bs : List (Nat × Nat)) : PyData := .list (bs.map fun b => .tuple [.int b.1, .int b.2])
theorem dp_all {K : PySem.W.Frag} {H : Hp} : ∀ {ts : List Addr} {bs : List (Nat × Nat)}, Blks H ts bs → DpAll K H (ts.map V.ref) (bs.map fun b => PyData.tuple [.int b.1, .int b.2])
  | _, _, .nil => .nil
  | _, _, .cons r t => .cons (.tup (SqT.of r) (.cons (.int _) (.cons (.int _) .nil))) (dp_all t)
theorem dp_blks {K : PySem.W.Frag} {H : Hp} {p : Addr} {ts : List Addr} {bs : List (Nat × Nat)} (hp : H p = some (.lst (ts.map V.ref))) (h : Blks H ts bs) : Dp K H (.ref p) (encB bs) := .lst (SqL.of hp) (dp_all h)
theorem lay_blks : ∀ bs : List (Nat × Nat), PyData.canLayAll0 (bs.map fun b => PyData.tuple [.int b.1, .int b.2]) = true ∧ PyData.depthAll (bs.map fun b => PyData.tuple [.int b.1, .int b.2]) ≤ 5
  | [] => ⟨rfl, Nat.zero_le _⟩
  | b :: r => by
    obtain ⟨h1, h2⟩ := lay_blks r
    constructor
    · simp only [List.map_cons, PyData.canLayAll0, PyData.canLay0, Bool.true_and, Bool.and_true]
      exact h1
    · simp only [List.map_cons, PyData.depthAll, PyData.depth]
      omega
theorem shaped_blks (bs : List (Nat × Nat)) : SeqAt.shaped (encB bs) = true := by
  obtain ⟨h1, h2⟩ := lay_blks bs
  unfold SeqAt.shaped encB
  simp only [PyData.canLay0, PyData.depth, h1, Bool.true_and]
  exact decide_eq_true (by omega)
theorem eqv_all : ∀ bs cs : List (Nat × Nat), PyData.eqvAll (bs.map fun b => PyData.tuple [.int b.1, .int b.2]) (cs.map fun b => PyData.tuple [.int b.1, .int b.2]) = decide (bs = cs)
  | [], [] => by simp [PyData.eqvAll]
  | [], c :: cs => by simp [PyData.eqvAll]
  | b :: bs, [] => by simp [PyData.eqvAll]
  | b :: bs, c :: cs => by
    obtain ⟨b1, b2⟩ := b
    obtain ⟨c1, c2⟩ := c
    have ih := eqv_all bs cs
    simp only [List.map_cons, PyData.eqvAll, PyData.eqv, ih, Bool.and_true]
    rw [show (((b1 : Nat) : Int) == ((c1 : Nat) : Int)) = decide (b1 = c1) by
        rw [Bool.eq_iff_iff, beq_iff_eq, decide_eq_true_eq]
        omega,
      show (((b2 : Nat) : Int) == ((c2 : Nat) : Int)) = decide (b2 = c2) by
        rw [Bool.eq_iff_iff, beq_iff_eq, decide_eq_true_eq]
        omega]
    rw [Bool.eq_iff_iff]
    simp
theorem eqv_blks (bs cs : List (Nat × Nat)) : PyData.eqv (encB bs) (encB cs) = decide (bs = cs) := by
  unfold encB
  rw [PyData.eqv]
  exact eqv_all bs cs
def sp_cover (k : Nat) : Sp := fun vs H Q _ => ∃ (d : Addr) (s : Nat) (kvs : List (Key × V)) (m : Nat → Bool), vs = [.ref d, .int s, .int ((2 ^ k : Nat) : Int)] ∧ k ≤ 8 ∧ H d = some (.dK kvs) ∧ (∀ x : Nat, (valV kvs (.inl (x : Int))).isSome = m x) ∧
  ∀ (H' : Hp) (p : Addr) (ts : List Addr), Same H H' → H p = none → H' p = some (.lst (ts.map V.ref)) → Blks H' ts (cov m k s) → Q (.ref p) H'
def sp_least_cover (K : PySem.W.Frag) : Sp := fun vs H Q _ => ∃ (l : Nat) (a : Addr) (ns : List Int) (m : Nat → Bool), vs = [.int l, .ref a] ∧ SqL K H a (ns.map V.int) ∧ l ≤ 8 ∧ ns.length ≤ 1000 ∧ (∀ x : Nat, m x = decide ((x : Int) ∈ ns)) ∧
  ∀ (H' : Hp) (p : Addr) (ts : List Addr), Same H H' → H p = none → H' p = some (.lst (ts.map V.ref)) → Blks H' ts (cov m l 0) → Q (.ref p) H'
theorem cov_zero (m : Nat → Bool) (s : Nat) : cov m 0 s = if m s = true then [(s, 1)] else [] := rfl
/-! ### y = {k: v for ..} on one line, y a local -/
abbrev InBlk (X : Cx) (blk : Scope) (R : Cx → Prop) : Prop := ∀ (z : Shared) (Hz : Hp) (C : Addr) (cs : List (Str × Addr)) (its : List Addr), R (X.blk z Hz blk (compEnvC blk cs C X.env) its)
theorem setDc {X : Cx} {i : Nat} {y : Str} {py pos p2 : Pos} {kx vx tg src : Expr} {ifs : List Expr} {blk : Scope} {own : List (Str × Nat)} {wi : TI} {g : TG} {tt : TT} {tk tv : TE} (calm : X.calm = true) (nd : X.N.Nodup) (hy : X.N[i]? = some y)
    (loc : X.env.scope.names.lookup y = some .local) (sw : swapsWith (.DictComp kx vx [⟨tg, src, ifs, 0⟩] blk pos) (some (.Name y py)) p2.line X.env = pure true) (walks : PI X tg src wi) (ok : BlkOk X.N X.env.scope blk own)
    (pg : InBlk X blk fun Z => PG Z tg g) (pt : InBlk X blk fun Z => PTs Z ifs tt) (pk : InBlk X blk fun Z => PE Z kx tk) (pv' : InBlk X blk fun Z => PE Z vx tv) (fold : ∀ x, foldedSetIterable src X.env x = pure x := by intro _; rfl) :
    PS X (.Assign [.Name y py] (.DictComp kx vx [⟨tg, src, ifs, 0⟩] blk pos) p2) (tAsg (tDc wi g tt tk tv (own.map (·.2))) (gName i)) := by
  constructor
  intro pins s σ H D I hyp
  rw [exec_Assign_Name_used _ _ _ _ sw]
  apply wpAny_bind; apply wpAny_standAt; apply wpAny_bind
  show wpAny _ X.A (do let _ ← comprehension (.DictComp kx vx [⟨tg, src, ifs, 0⟩] blk pos) blk X.env (firstIterPos [⟨tg, src, ifs, 0⟩] pos) newDict false (eval src X.env) (some (assign (.Name y py) X.env))) _ _ s
  have hyp' : tDc wi g tt tk tv (own.map (·.2)) σ H (fun x Hx => gName i x σ Hx D.nx) := hyp
  have core := dc_core (pos := pos) (pos' := firstIterPos [⟨tg, src, ifs, 0⟩] pos) (use := some (assign (.Name y py) X.env)) (Qf := fun _ z => SP X pins D .next z) calm nd I walks ok pg pt pk pv' fold hyp' (by
    intro L C z m Hz Iz q ns fp
    show wpAny _ _ (assign (.Name y py) X.env (.ref L)) _ _ _
    refine wpAny_assign_Name (store_ok2 (v := V.ref L) Iz nd hy (.inl loc) rfl (fun z2 Iz2 hz2 => ?_) (.inr loc))
    obtain ⟨a, sb, ha⟩ := hz2
    obtain ⟨g0, g1, g2, g3, g4, g5⟩ := fp
    have apart : C ≠ a := ha.elim (fun e => by rw [e]; exact g1) fun e q => g4 y a e q.symm
    refine ⟨m, ns.sameBut sb apart, fun h3 sb3 => ⟨_, Hz, ?_, q⟩⟩
    exact Iz2.turned (t' := z2.toks) (fun b o nb e => (sb3.2 b nb).trans e) g0 g1 g3 g4 g5)
  exact wpAny_bind (thn core fun _ z hz => wpAny_pure (wpAny_pure hz))
theorem sw_dict {kx vx : Expr} {gs : List Comprehension} {blk : Scope} {pos py : Pos} {y : Str} {l : Nat} {env : Env} (fn : env.scope.kind = .function) (loc : env.scope.names.lookup y = some .local) (line : (py.line == pos.line) = true)
    (none : (blk.names.any fun (n, k) => n == y && (k == .local || k == .cell)) = false) : swapsWith (.DictComp kx vx gs blk pos) (some (.Name y py)) l env = pure true := by
  have kind : env.kindOf y = some .local := loc
  have whole : env.blockKind = .function := by
    unfold Env.blockKind
    rw [fn]
    rfl
  unfold swapsWith
  simp only [whole, kind, none, Expr.pos, line]
  rfl
theorem zo_snoc {ms : List Int} {v : Int} (z : ZO ms) (h : v = 0 ∨ v = 1) : ZO (ms ++ [v]) := fun u hu => by
  rcases List.mem_append.mp hu with q | q
  · exact z u q
  · rw [List.mem_singleton.mp q]
    exact h
theorem zo_set {ms : List Int} {v : Int} {j : Nat} (z : ZO ms) (h : v = 0 ∨ v = 1) : ZO (ms.set j v) := fun u hu => by
  rcases List.mem_or_eq_of_mem_set hu with q | q
  · exact z u q
  · rw [q]
    exact h
theorem map_snoc (ms : List Int) (v : Int) : ms.map V.int ++ [V.int v] = (ms ++ [v]).map V.int := by rw [List.map_append]; rfl
/-- a new list at D of i marks, the box b turned -/
def MkAt (b : Addr) (H H' : Hp) (D : Addr) (i : Nat) : Prop := ∃ ms : List Int, But b H H' ∧ H' D = some (.lst (ms.map V.int)) ∧ ms.length = i ∧ ZO ms
theorem MkAt.start {b D : Addr} {H H1 : Hp} (h : But b H H1) (hD : H1 D = none) : MkAt b H (upd H1 D (.lst [])) D 0 :=
  ⟨[], h.same (Same.new hD), upd_same, rfl, fun v hv => by cases hv⟩
theorem MkAt.snoc {b D : Addr} {H H' : Hp} {ms : List Int} {v : Int} (n : b ≠ D) (h : But b H H') (hD : H D = none) (z : ZO ms) (hv : v = 0 ∨ v = 1) : MkAt b H (upd H' D (.lst (ms.map V.int ++ [V.int v]))) D (ms.length + 1) :=
  ⟨ms ++ [v], But.mut h hD n, by rw [upd_same, map_snoc], by rw [List.length_append]; rfl, zo_snoc z hv⟩
theorem MkAt.turn {b D : Addr} {H H' H2 : Hp} {i : Nat} (h : MkAt b H H' D i) (n : b ≠ D) (B : But b H' H2) : MkAt b H H2 D i := by
  obtain ⟨ms, bt, e, l, z⟩ := h
  exact ⟨ms, bt.trans B, B.1 _ _ n.symm e, l, z⟩
theorem MkAt.box {b D : Addr} {H H' : Hp} {i : Nat} (h : MkAt b H H' D i) : Box H' b := by
  obtain ⟨_, bt, _⟩ := h
  exact bt.2
def sp_marks : Sp := fun vs H Q _ => ∃ (b : Addr) (n : Nat), vs = [.ref b, .int n] ∧ Box H b ∧ 0 < n ∧ n ≤ 256 ∧ ∀ (H' : Hp) (p : Addr) (ms : List Int), But b H H' → H p = none → H' p = some (.lst (ms.map V.int)) → ms.length = n → ZO ms → Q (.ref p) H'
theorem cutV_from (xs : List V) (t : Nat) : cutV xs (some (t : Int)) none = xs.drop t := by
  unfold cutV
  rw [show HT.sIx xs.length 0 (some (t : Int)) = min t xs.length from HT.sIx_nat xs.length 0 t, HT.sIx_none]
  rcases Nat.lt_or_ge t xs.length with h | h
  · rw [Nat.min_eq_left (by omega)]
    exact List.take_of_length_le (by rw [List.length_drop]; exact Nat.le_refl _)
  · rw [Nat.min_eq_right h, Nat.sub_self, List.drop_eq_nil_of_le h]
    rfl
theorem cutV_to (xs : List V) (t : Nat) : cutV xs none (some (t : Int)) = xs.take t := by
  unfold cutV
  rw [HT.sIx_none, show HT.sIx xs.length xs.length (some (t : Int)) = min t xs.length from HT.sIx_nat xs.length xs.length t]
  rw [Nat.sub_zero, List.drop_zero]
  rcases Nat.lt_or_ge t xs.length with h | h
  · rw [Nat.min_eq_left (by omega)]
  · rw [Nat.min_eq_right h, List.take_of_length_le (Nat.le_refl _), List.take_of_length_le h]
theorem at_int {ms : List Int} {i : Nat} (h : i < ms.length) : atI (ms.map V.int) (i : Int) = some (.int ms[i]) := by
  refine atI_nat ?_
  rw [List.getElem?_map, List.getElem?_eq_getElem h]
  rfl
/-- the list at p holds exactly what ls holds -/
def Alike (H : Hp) (p : Addr) (ls : List Int) (most : Nat) : Prop := ∃ ts : List Int, H p = some (.lst (ts.map V.int)) ∧ ts.length ≤ most ∧ ls.length ≤ ts.length ∧ ∀ x : Int, x ∈ ts ↔ x ∈ ls
def Alike2 (H : Hp) (p : Addr) (ls : List Int) (most : Nat) : Prop := ∃ ts : List Int, H p = some (.lst (ts.map V.int)) ∧ ts.length ≤ most ∧ ∀ x : Int, x ∈ ts ↔ x ∈ ls
def sp_handed : Sp := fun vs H Q _ => ∃ (b mk : Addr) (ms : List Int), vs = [.ref b, .ref mk] ∧ Box H b ∧ H mk = some (.lst (ms.map V.int)) ∧ b ≠ mk ∧ ms.length ≤ 256 ∧ ∀ (H' : Hp) (p : Addr) (hs : List Int), But b H H' → H p = none → H' p = some (.lst (hs.map V.int)) → hs.length ≤ 600 → (∀ x : Int, x ∈ hs ↔ ∃ j : Nat, x = (j : Int) ∧ ms[j]? = some 1) → Q (.ref p) H'
/-- a level of halves: what g says of each block of 2 ^ k places -/
def lvl (g : Nat → Nat → Nat) (l k : Nat) : List Int := (List.range (2 ^ (l - k))).map fun i => ((g k (i * 2 ^ k) : Nat) : Int)
def cnt (m : Nat → Bool) (k s : Nat) : Nat := (cov m k s).length
theorem lvl_len (g : Nat → Nat → Nat) (l k : Nat) : (lvl g l k).length = 2 ^ (l - k) := by
  unfold lvl
  rw [List.length_map, List.length_range]
theorem lvl_at {g : Nat → Nat → Nat} {l k i : Nat} (h : i < 2 ^ (l - k)) : atI ((lvl g l k).map V.int) (i : Int) = some (.int ((g k (i * 2 ^ k) : Nat) : Int)) := by
  refine atI_nat ?_
  unfold lvl
  rw [List.map_map, List.getElem?_map, List.getElem?_range h]
  rfl
theorem lvl_zero {ms : List Int} {l : Nat} (z : ZO ms) (h : ms.length = 2 ^ l) {g : Nat → Nat → Nat} (hg : ∀ s, g 0 s = ful (on ms) 0 s) : lvl g l 0 = ms := by
  refine List.ext_getElem? fun i => ?_
  unfold lvl
  rcases Nat.lt_or_ge i (2 ^ l) with q | q
  · rw [Nat.sub_zero, List.getElem?_map, List.getElem?_range q, Nat.pow_zero]
    have hi : i < ms.length := by omega
    have e : ms[i]? = some ms[i] := List.getElem?_eq_getElem hi
    show some (((g 0 (i * 1) : Nat) : Int)) = ms[i]?
    rw [Nat.mul_one, hg]
    unfold ful on
    rw [e]
    rcases z _ (List.getElem_mem hi) with w | w <;> rw [w] <;> rfl
  · rw [List.getElem?_eq_none (by rw [List.length_map, List.length_range]; omega), List.getElem?_eq_none (by omega)]
theorem ful_one (m : Nat → Bool) (k s : Nat) : ful m k s ≤ 1 := by
  rcases ful_is m k s with h | h <;> omega
def sp_least (K : PySem.W.Frag) : Sp := fun vs H Q _ => ∃ (l : Nat) (mk : Addr) (ms : List Int), vs = [.int l, .ref mk] ∧ l ≤ 8 ∧ SqL K H mk (ms.map V.int) ∧ ms.length = 2 ^ l ∧ ZO ms ∧ ∀ H' : Hp, Same H H' → Q (.int ((cov (on ms) l 0).length : Nat)) H'
theorem cutV_nat {ms : List Int} {a b : Nat} (hab : a ≤ b) (hb : b ≤ ms.length) : cutV (ms.map V.int) (some (a : Int)) (some (b : Int)) = (cut ms a (b - a)).map V.int := by
  unfold cutV cut
  rw [show HT.sIx (ms.map V.int).length 0 (some (a : Int)) = min a (ms.map V.int).length from HT.sIx_nat _ 0 a, show HT.sIx (ms.map V.int).length (ms.map V.int).length (some (b : Int)) = min b (ms.map V.int).length from HT.sIx_nat _ _ b,
    List.length_map, Nat.min_eq_left hb, Nat.min_eq_left (Nat.le_trans hab hb), List.map_take, List.map_drop]
theorem cutV_rest {ms : List Int} {a : Nat} (ha : a ≤ ms.length) : cutV (ms.map V.int) (some (a : Int)) none = (cut ms a (ms.length - a)).map V.int := by
  rw [cutV_from]
  unfold cut
  rw [List.take_of_length_le (by rw [List.length_drop]; exact Nat.le_refl _), List.map_drop]
theorem Paired.at {α β : Type} {F : α → β → Prop} : ∀ {xs : List α} {ys : List β} {i : Nat} {a : α}, Paired F xs ys → xs[i]? = some a → ∃ b, ys[i]? = some b ∧ F a b
  | _, _, _, _, .nil, e => by simp at e
  | _, _, 0, _, .cons r _, e => by
    simp at e
    subst e
    exact ⟨_, rfl, r⟩
  | _, _, i + 1, a, .cons _ t, e => by
    obtain ⟨b, h1, h2⟩ := Paired.at (i := i) (a := a) t (by simpa using e)
    exact ⟨b, by simpa using h1, h2⟩
theorem mod_cast0 {a z : Nat} (h : z ∣ a) : (a : Int) % (z : Int) = 0 := by
  rw [← Int.natCast_emod, Nat.mod_eq_zero_of_dvd h]
  rfl
theorem outer_cast (a z : Nat) : (a : Int) - (a : Int) % (2 * (z : Int)) = ((a - a % (2 * z) : Nat) : Int) := by
  have h : (2 * (z : Int)) = ((2 * z : Nat) : Int) := by omega
  rw [h, ← Int.natCast_emod]
  have := Nat.mod_le a (2 * z)
  omega
theorem chk_bound {m : Nat → Bool} {N : Nat} : ∀ {l : List (Nat × Nat)} {a e : Nat}, Chk m N a l e → a ≤ e
  | [], _, _, h => h.1
  | _ :: _, _, _, ⟨h1, h2, h3, _⟩ => by omega
def sp_covers (K : PySem.W.Frag) : Sp := fun vs H Q _ => ∃ (p mk : Addr) (l : Nat) (ms : List Int) (ts : List Addr), vs = [.ref p, .int l, .ref mk] ∧ l ≤ 8 ∧ H p = some (.lst (ts.map V.ref)) ∧ Blks H ts (cov (on ms) l 0) ∧ SqL K H mk (ms.map V.int) ∧ ms.length = 2 ^ l ∧ ZO ms ∧ ∀ H' : Hp, Same H H' → Q (.bl true) H'
theorem cov_pow (m : Nat → Bool) : ∀ k s b, b ∈ cov m k s → ∃ j, j ≤ k ∧ b.2 = 2 ^ j
  | 0, s, b, h => by
    rw [cov_zero] at h
    split at h
    · obtain rfl := List.mem_singleton.mp h
      exact ⟨0, Nat.le_refl _, rfl⟩
    · cases h
  | k + 1, s, b, h => by
    rw [cov_succ] at h
    split at h
    · obtain rfl := List.mem_singleton.mp h
      exact ⟨k + 1, Nat.le_refl _, rfl⟩
    · rcases List.mem_append.mp h with h | h
      · obtain ⟨j, h1, h2⟩ := cov_pow m k _ b h
        exact ⟨j, by omega, h2⟩
      · obtain ⟨j, h1, h2⟩ := cov_pow m k _ b h
        exact ⟨j, by omega, h2⟩
theorem two_dvd {j l : Nat} (w : 2 * 2 ^ j ≤ 2 ^ l) : 2 * 2 ^ j ∣ 2 ^ l := by
  rw [show 2 * 2 ^ j = 2 ^ (j + 1) by omega] at w ⊢
  refine Nat.pow_dvd_pow 2 ?_
  rcases Nat.lt_or_ge l (j + 1) with q | q
  · have := Nat.pow_lt_pow_right (a := 2) (by decide) q
    omega
  · exact q
theorem er_count {x : Int} : ∀ {ns : List Int} {j : Nat}, ns[j]? = some x → (ns.eraseIdx j).count x + 1 = ns.count x
  | [], _, h => by simp at h
  | a :: r, 0, h => by
    have e : a = x := by simpa using h
    subst e
    simp
  | a :: r, j + 1, h => by
    have ih := er_count (ns := r) (j := j) (by simpa using h)
    rw [List.eraseIdx_cons_succ, List.count_cons, List.count_cons, ← ih]
    omega
theorem er_mem {x y : Int} (n : y ≠ x) : ∀ {ns : List Int} {j : Nat}, ns[j]? = some x → (y ∈ ns.eraseIdx j ↔ y ∈ ns)
  | [], _, h => by simp at h
  | a :: r, 0, h => by
    have e : a = x := by simpa using h
    subst e
    rw [List.eraseIdx_cons_zero, List.mem_cons]
    exact ⟨.inr, fun h => h.resolve_left n⟩
  | a :: r, j + 1, h => by
    rw [List.eraseIdx_cons_succ, List.mem_cons, List.mem_cons, er_mem n (ns := r) (j := j) (by simpa using h)]
theorem first_at {x : Int} : ∀ {ns : List Int}, x ∈ ns → ∃ j, ns[j]? = some x ∧ ∀ m : Nat, m < j → ns[m]? ≠ some x
  | [], h => by cases h
  | a :: r, h => by
    by_cases e : a = x
    · exact ⟨0, by rw [e]; rfl, fun m hm => by omega⟩
    · obtain ⟨j, h1, h2⟩ := first_at (ns := r) ((List.mem_cons.mp h).resolve_left fun q => e q.symm)
      refine ⟨j + 1, by simpa using h1, fun m hm => ?_⟩
      cases m with
      | zero => simpa using e
      | succ m => simpa using h2 m (by omega)
theorem inV_ints (x : Int) (ns : List Int) : inV (.int x) (ns.map V.int) = decide (x ∈ ns) := by
  unfold inV
  rw [List.any_map, Bool.eq_iff_iff, List.any_eq_true, decide_eq_true_eq]
  constructor
  · rintro ⟨y, h1, h2⟩
    have e : (y == x) = true := h2
    rw [← beq_iff_eq.mp e]
    exact h1
  · intro h
    exact ⟨x, h, (beq_iff_eq.mpr rfl : (x == x) = true)⟩
theorem flat_ints (ns : List Int) : (ns.map V.int).all flatV = true := by
  rw [List.all_map, List.all_eq_true]
  exact fun _ _ => rfl
/-- ls holds exactly the places that are marked -/
def Lists (ls ms : List Int) : Prop := ∀ x : Int, x ∈ ls ↔ ∃ j : Nat, x = (j : Int) ∧ ms[j]? = some 1
theorem Lists.mark {ls ms : List Int} (h : Lists ls ms) (x : Nat) : on ms x = decide ((x : Int) ∈ ls) := by
  unfold on
  refine decide_eq_decide.mpr ⟨fun e => (h _).mpr ⟨x, rfl, e⟩, fun e => ?_⟩
  obtain ⟨j, h1, h2⟩ := (h _).mp e
  rw [show x = j by omega]
  exact h2
def sp_change : Sp := fun vs H Q _ => ∃ (li mk : Addr) (ls ms : List Int) (x : Nat), vs = [.ref li, .ref mk, .int x] ∧ H li = some (.lst (ls.map V.int)) ∧ H mk = some (.lst (ms.map V.int)) ∧ li ≠ mk ∧ x < ms.length ∧ ZO ms ∧ Lists ls ms ∧ ls.length ≤ 1000 ∧
  ∀ (H' : Hp) (p : Addr) (ls' ms' : List Int), (∀ b o, b ≠ li → b ≠ mk → H b = some o → H' b = some o) → H p = none → H' li = some (.lst (ls'.map V.int)) → H' mk = some (.lst (ms'.map V.int)) → H' p = some (.lst (ls'.map V.int)) → ms'.length = ms.length → ZO ms' → Lists ls' ms' → ls'.length ≤ ls.length + 1 → Q (.ref p) H'
theorem dp_ints {K : PySem.W.Frag} {H : Hp} : ∀ ns : List Int, DpAll K H (ns.map V.int) (ns.map PyData.int)
  | [] => .nil
  | n :: r => .cons (.int n) (dp_ints r)
theorem lay_ints : ∀ ns : List Int, PyData.canLayAll0 (ns.map PyData.int) = true ∧ PyData.depthAll (ns.map PyData.int) ≤ 5
  | [] => ⟨rfl, Nat.zero_le _⟩
  | n :: r => by
    obtain ⟨h1, h2⟩ := lay_ints r
    constructor
    · simp only [List.map_cons, PyData.canLayAll0, PyData.canLay0, Bool.true_and]
      exact h1
    · simp only [List.map_cons, PyData.depthAll, PyData.depth]
      omega
theorem shaped_list (ns : List Int) : SeqAt.shaped (.list (ns.map PyData.int)) = true := by
  obtain ⟨h1, h2⟩ := lay_ints ns
  unfold SeqAt.shaped
  simp only [PyData.canLay0, PyData.depth, h1, Bool.true_and]
  exact decide_eq_true (by omega)
theorem eqv_same (ns : List Int) : PyData.eqv (.list (ns.map PyData.int)) (.list (ns.map PyData.int)) = true := by
  refine SeqAt.eqv_refl _ ?_
  simp only [PyData.canLay0]
  exact (lay_ints ns).1
theorem Lists.more {ls ms : List Int} (h : Lists ls ms) (n : Nat) : Lists ls (ms ++ List.replicate n 0) := fun x => by
  rw [h x]
  constructor
  · rintro ⟨j, rfl, e⟩
    have hj := (List.getElem?_eq_some_iff.mp e).1
    exact ⟨j, rfl, by rw [List.getElem?_append_left hj]; exact e⟩
  · rintro ⟨j, rfl, e⟩
    rcases Nat.lt_or_ge j ms.length with q | q
    · rw [List.getElem?_append_left q] at e
      exact ⟨j, rfl, e⟩
    · rw [List.getElem?_append_right q, List.getElem?_replicate] at e
      split at e
      · cases e
      · cases e
theorem zo_more {ms : List Int} (z : ZO ms) (n : Nat) : ZO (ms ++ List.replicate n 0) := fun v hv => by
  rcases List.mem_append.mp hv with q | q
  · exact z v q
  · exact .inl (List.eq_of_mem_replicate q)
def sp_law (K : PySem.W.Frag) : Sp := fun vs H Q _ => ∃ (a : Addr) (ns : List Int), vs = [.ref a] ∧ SqL K H a (ns.map V.int) ∧ ns.length ≤ 63 ∧ ∀ H', Q (.bl true) H'
section
variable {P : Program} {w : World} {K : PySem.W.Frag} {mg : Str → Option Value} {base : Heap}
theorem ok_open (T : Txt K mg) : FnOk P w K mg base CX0 1 T.f_open T.fd_open ["_law_script", "_law_at"] (sp_open K) := by
  refine T.F_open.ok sc_open (fun vs H Q E h => ?_) (fun cdv A outer s H vs Q E hr h => ?_)
  · obtain ⟨a, ns, i, rfl, _⟩ := h
    rfl
  · obtain ⟨a, ns, i, rfl, hS, q⟩ := h
    refine ⟨_, (pss_cons (ps_set (i := 2) sc_open.nd rfl (Or.inl rfl) pe_int)
      (pss_cons (ps_if (pt_cmpR op_lt (pv 1) (pe_callB (r := rLenK K) call_len_seq (by rfl) T.z_len PySem.boot_len (pa_cons (pv 0) pa_nil)) (nomark _))
      (pss_one (ps_set (i := 2) sc_open.nd rfl (Or.inl rfl) (pe_ix (r := rIxL K) ix_list (pv 0) (pv 1) (fun _ _ => rfl))))
      pss_nil)
      (pss_cons (ps_if (pt_cmpR op_ge (pv 2) (pe_op op_pow pe_int pe_int) (nomark _))
      (pss_one (ps_ret (pe_lst (pa_cons pe_int (pa_cons (pe_op op_sub (pv 2) (pe_op op_pow pe_int pe_int)) (pa_cons pe_int pa_nil))))))
      pss_nil)
      (pss_one (ps_ret (pe_lst (pa_cons pe_int (pa_cons (pv 2) (pa_cons pe_int pa_nil))))))))), ?_⟩
    refine ⟨_, rfl, _, rfl, a, _, rfl, .inl hS, _, _, rfl, rfl, _, rfl, ?_⟩
    refine ite2 (fun h => ?_) (fun h => ?_)
    · have hi : i < ns.length := by
        have h1 := of_decide_eq_true h
        rw [List.length_map] at h1
        omega
      have g : (ns.map V.int)[i]? = some (.int ns[i]) := by
        rw [List.getElem?_map, List.getElem?_eq_getElem hi]
        rfl
      refine ⟨_, rfl, _, rfl, a, _, _, _, rfl, rfl, hS, atI_nat g, ?_⟩
      refine ⟨_, rfl, _, _, rfl, rfl, ⟨by decide, by decide, by decide⟩, _, _, rfl, rfl, _, rfl, ?_⟩
      refine ite2 (fun h2 => ?_) (fun h2 => ?_)
      · refine ⟨_, rfl, _, _, rfl, rfl, ⟨by decide, by decide, by decide⟩, _, _, rfl, rfl, sz (by show 3 ≤ 100000; decide), fun p hp => ?_⟩
        exact q p _ hp ⟨_, _, _, rfl⟩
      · refine ⟨_, rfl, sz (by show 3 ≤ 100000; decide), fun p hp => ?_⟩
        exact q p _ hp ⟨_, _, _, rfl⟩
    · refine ⟨_, rfl, _, _, rfl, rfl, ⟨by decide, by decide, by decide⟩, _, _, rfl, rfl, _, rfl, ?_⟩
      refine ite2 (fun h2 => ?_) (fun h2 => ?_)
      · refine ⟨_, rfl, _, _, rfl, rfl, ⟨by decide, by decide, by decide⟩, _, _, rfl, rfl, sz (by show 3 ≤ 100000; decide), fun p hp => ?_⟩
        exact q p _ hp ⟨_, _, _, rfl⟩
      · refine ⟨_, rfl, sz (by show 3 ≤ 100000; decide), fun p hp => ?_⟩
        exact q p _ hp ⟨_, _, _, rfl⟩
theorem ok_take (T : Txt K mg) : FnOk P w K mg base CX0 1 T.f_take T.fd_take ["_law_box", "_law_size"] sp_take := by
  refine T.F_take.ok sc_take (fun vs H Q E h => ?_) (fun cdv A outer s H vs Q E hr h => ?_)
  · obtain ⟨a, n, rfl, _⟩ := h
    rfl
  · obtain ⟨a, n, rfl, hB, hn, hn2, q⟩ := h
    obtain ⟨t, c, k, ho⟩ := hB.lst
    refine ⟨_, (pss_cons (ps_if (pt_cmpR op_eq (pe_ix (r := rIxL K) ix_list (pv 0) pe_int (fun _ _ => rfl)) pe_int (nomark _))
      (pss_cons (ps_set (i := 2) sc_take.nd rfl (Or.inl rfl) (pe_op op_mod (pe_callTy call_int1 (by rfl) T.z_int (by decide +kernel) (pa_cons (pe_ix (r := rIxL K) ix_list (pv 0) pe_int (fun _ _ => rfl)) pa_nil)) (pv 1)))
        (pss_cons (ps_asg (pe_op op_fdiv (pe_callTy call_int1 (by rfl) T.z_int (by decide +kernel) (pa_cons (pe_ix (r := rIxL K) ix_list (pv 0) pe_int (fun _ _ => rfl)) pa_nil)) (pv 1)) (pg_sub (pv 0) pe_int set_list))
        (pss_one (ps_ret (pv 2)))))
      pss_nil)
      (pss_cons (ps_set (i := 3) sc_take.nd rfl (Or.inl rfl) (pe_ix (r := rIxL K) ix_list (pv 0) pe_int (fun _ _ => rfl)))
      (pss_cons (ps_asg (pe_op op_add (pv 3) pe_int) (pg_sub (pv 0) pe_int set_list))
      (pss_cons (ps_set (i := 4) sc_take.nd rfl (Or.inl rfl) (pe_op op_mod (pe_callTy call_int1 (by rfl) T.z_int (by decide +kernel) (pa_cons (pe_op op_add (pe_op op_add (pe_ix (r := rIxL K) ix_list (pv 0) pe_int (fun _ _ => rfl)) (pe_op op_mul pe_int (pv 3))) pe_int) pa_nil)) pe_int))
      (pss_cons (ps_set (i := 4) sc_take.nd rfl (Or.inl rfl) (pe_op op_mod (pe_callTy call_int1 (by rfl) T.z_int (by decide +kernel) (pa_cons (pe_op op_mul (pv 4) (pe_op op_add (pv 4) pe_int)) pa_nil)) pe_int))
      (pss_cons (ps_set (i := 4) sc_take.nd rfl (Or.inl rfl) (pe_op op_mod (pe_callTy call_int1 (by rfl) T.z_int (by decide +kernel) (pa_cons (pe_op op_add (pe_op op_mul (pv 4) (pe_op op_add (pv 4) pe_int)) (pe_op op_mul pe_int (pv 3))) pa_nil)) pe_int))
      (pss_one (ps_ret (pe_op op_mod (pe_callTy call_int1 (by rfl) T.z_int (by decide +kernel) (pa_cons (pe_op op_fdiv (pv 4) pe_int) pa_nil)) (pv 1)))))))))), ?_⟩
    refine ⟨_, rfl, a, _, 0, _, rfl, rfl, SqL.of ho, rfl, rfl, _, rfl, ?_⟩
    refine ite2 (fun h => ?_) (fun h => ?_)
    · refine ⟨_, rfl, a, _, 1, _, rfl, rfl, SqL.of ho, rfl, .inl ⟨_, rfl, _, rfl, _, _, rfl, rfl, hn, ?_⟩⟩
      refine ⟨_, rfl, a, _, 1, _, rfl, rfl, SqL.of ho, rfl, .inl ⟨_, rfl, _, rfl, _, _, rfl, rfl, ⟨hn, hn2⟩, ?_⟩⟩
      refine ⟨_, rfl, a, _, 1, 1, rfl, rfl, ho, rfl, ?_⟩
      refine ⟨_, rfl, ?_⟩
      exact q _ _ (Int.emod_nonneg _ (by omega)) (Int.emod_lt_of_pos _ hn) (But.upd ⟨_, _, _, rfl⟩) fun b hb => upd_ne hb
    · refine ⟨_, rfl, a, _, 2, _, rfl, rfl, SqL.of ho, rfl, ?_⟩
      refine ⟨_, rfl, _, _, rfl, rfl, _, rfl, a, _, 2, 2, rfl, rfl, ho, rfl, ?_⟩
      refine ⟨_, rfl, a, _, 1, _, rfl, rfl, SqL.of upd_same, rfl, _, rfl, _, _, rfl, rfl, .inl ⟨by decide, by decide⟩, _, _, rfl, rfl, _, _, rfl, rfl, .inl ⟨_, rfl, _, _, rfl, rfl, (by decide : (0 : Int) < 2147483647), ?_⟩⟩
      refine ⟨_, rfl, _, rfl, _, _, rfl, rfl, _, _, rfl, rfl, .inl ⟨by omega, by omega⟩, .inl ⟨_, rfl, _, _, rfl, rfl, (by decide : (0 : Int) < 2147483629), ?_⟩⟩
      refine ⟨_, rfl, _, rfl, _, _, rfl, rfl, _, _, rfl, rfl, .inl ⟨by omega, by omega⟩, _, rfl, _, _, rfl, rfl, .inl ⟨by decide, by decide⟩, _, _, rfl, rfl, .inl ⟨_, rfl, _, _, rfl, rfl, (by decide : (0 : Int) < 2147483647), ?_⟩⟩
      refine ⟨_, rfl, _, _, rfl, rfl, ⟨by decide, by decide⟩, .inl ⟨_, rfl, _, rfl, _, _, rfl, rfl, hn, ?_⟩⟩
      exact q _ _ (Int.emod_nonneg _ (by omega)) (Int.emod_lt_of_pos _ hn) (But.upd ⟨_, _, _, rfl⟩) fun b hb => upd_ne hb
theorem ok_whole (T : Txt K mg) : FnOk P w K mg base CX0 1 T.f_whole T.fd_whole ["_law_levels"] sp_whole := by
  refine T.F_whole.ok sc_whole (fun vs H Q E h => ?_) (fun cdv A outer s H vs Q E hr h => ?_)
  · obtain ⟨n, rfl, _⟩ := h
    rfl
  · obtain ⟨n, rfl, hn, q⟩ := h
    refine ⟨_, (pss_cons (ps_set (i := 1) sc_whole.nd rfl (Or.inl rfl) pe_int)
      (pss_cons (ps_for PassesOwn.never rfl (pi_range1 (by rfl) T.z_range (pa_cons (pv 0) pa_nil)) (pg_name (i := 2) sc_whole.nd rfl (Or.inl rfl))
      (pss_one (ps_set (i := 1) sc_whole.nd rfl (Or.inl rfl) (pe_op op_mul (pv 1) pe_int))))
      (pss_one (ps_ret (pv 1))))), ?_⟩
    refine ⟨_, rfl, _, rfl, by omega, by omega, for_range (n := n) (fun i σ H' => H' = H ∧ ∃ y, σ = [some (.int n), some (.int ((2 ^ i : Nat) : Int)), y]) ⟨rfl, none, rfl⟩ ?_ ?_⟩
    · rintro i σ H' hi ⟨rfl, y, rfl⟩
      refine ⟨_, rfl, _, _, rfl, rfl, .inr ⟨by decide, by decide⟩, rfl, some (V.int (0 + i)), ?_⟩
      show [some (V.int n), some (V.int (((2 ^ i : Nat) : Int) * 2)), some (V.int (0 + i))] = [some (V.int n), some (V.int ((2 ^ (i + 1) : Nat) : Int)), some (V.int (0 + i))]
      rw [Nat.pow_succ, Int.natCast_mul]
      rfl
    · rintro σ H' ⟨rfl, y, rfl⟩
      exact ⟨_, rfl, q⟩
theorem ok_cover (T : Txt K mg) : ∀ k, FnOk P w K mg base CX0 (k + 1) T.f_u_cover T.fd_u_cover ["wanted", "start", "size"] (sp_cover k)
  | 0 => by
    refine T.F_u_cover.ok sc_u_cover (fun vs H Q E h => ?_) (fun cdv A outer s H vs Q E hr h => ?_)
    · obtain ⟨d, s, kvs, m, rfl, _⟩ := h
      rfl
    · obtain ⟨d, s, kvs, m, rfl, hk, hd, hm, q⟩ := h
      have hu := hu_of hr
      refine ⟨_, (pss_cons (ps_if (pt_cmpR op_eq (pv 2) pe_int (nomark _))
        (pss_one (ps_ret (pe_ifExp (pt_cmp (pc_din hu (pv 1) (pv 0))) (pe_lst (pa_cons (pe_tup (pa_cons (pv 1) (pa_cons pe_int pa_nil))) pa_nil)) (pe_lst pa_nil))))
        pss_nil) (pss_cons ps_never (pss_cons ps_never (pss_cons ps_never (pss_cons ps_never (pss_one ps_never)))))), ?_⟩
      refine ⟨_, rfl, rfl, _, rfl, iteD1 rfl ?_⟩
      refine ⟨_, rfl, _, rfl, d, _, rfl, DGet.k (k := Sum.inl (s : Int)) hd, _, rfl, ?_⟩
      rw [hm s]
      refine ite2 (fun h => ?_) (fun h => ?_)
      · refine ⟨_, rfl, sz (by show 2 ≤ 100000; decide), fun t ht => ⟨sz (by show 1 ≤ 100000; decide), fun p hp => ?_⟩⟩
        have S1 : Same H (upd H t (.tup [.int s, .int 1])) := Same.new ht
        refine q _ p [t] (S1.trans (Same.new hp)) (S1.free hp) upd_same ?_
        rw [cov_zero, if_pos h]
        exact .cons ((Same.new hp) _ _ upd_same) .nil
      · refine ⟨Nat.zero_le _, fun p hp => ?_⟩
        refine q _ p [] (Same.new hp) hp upd_same ?_
        rw [cov_zero, if_neg h]
        exact .nil
  | k + 1 => by
    have G_u_cover : FnOk P w K mg base CX0 (k + 1) T.f_u_cover T.fd_u_cover ["wanted", "start", "size"] (sp_cover k) := ok_cover T k
    refine T.F_u_cover.ok sc_u_cover (fun vs H Q E h => ?_) (fun cdv A outer s H vs Q E hr h => ?_)
    · obtain ⟨d, s, kvs, m, rfl, _⟩ := h
      rfl
    · obtain ⟨d, s, kvs, m, rfl, hk, hd, hm, q⟩ := h
      have hu := hu_of hr
      have p0 := two_pos k
      have e2 := two_next k
      have eh : ((2 ^ (k + 1) : Nat) : Int) / 2 = ((2 ^ k : Nat) : Int) := by
        rw [← e2]
        exact Int.mul_ediv_cancel _ (by decide)
      refine ⟨_, (pss_cons (ps_if (pt_cmpR op_eq (pv 2) pe_int (nomark _))
      (pss_one (ps_ret (pe_ifExp (pt_cmp (pc_din hu (pv 1) (pv 0))) (pe_lst (pa_cons (pe_tup (pa_cons (pv 1) (pa_cons pe_int pa_nil))) pa_nil)) (pe_lst pa_nil))))
      pss_nil)
      (pss_cons (ps_set (i := 3) sc_u_cover.nd rfl (Or.inl rfl) (pe_op op_fdiv (pv 2) pe_int))
      (pss_cons (ps_set (i := 4) sc_u_cover.nd rfl (Or.inl rfl) (pe_call G_u_cover (hr.mono (by omega)) (by rfl) T.g_u_cover T.F_u_cover.kp T.b_u_cover .nil pass0 (pa_cons (pv 0) (pa_cons (pv 1) (pa_cons (pv 3) pa_nil)))))
      (pss_cons (ps_set (i := 5) sc_u_cover.nd rfl (Or.inl rfl) (pe_call G_u_cover (hr.mono (by omega)) (by rfl) T.g_u_cover T.F_u_cover.kp T.b_u_cover .nil pass0 (pa_cons (pv 0) (pa_cons (pe_op op_add (pv 1) (pv 3)) (pa_cons (pv 3) pa_nil)))))
      (pss_cons (ps_if (PW.pt (pw_and (pt_cmpR (r := rEqD K) (op_eqD hr.units) (pv 4) (pe_lst (pa_cons (pe_tup (pa_cons (pv 1) (pa_cons (pv 3) pa_nil))) pa_nil)) (nomark _)) (pw_and1 (pt_cmpR (r := rEqD K) (op_eqD hr.units) (pv 5) (pe_lst (pa_cons (pe_tup (pa_cons (pe_op op_add (pv 1) (pv 3)) (pa_cons (pv 3) pa_nil))) pa_nil)) (nomark _)))))
      (pss_one (ps_ret (pe_lst (pa_cons (pe_tup (pa_cons (pv 1) (pa_cons (pv 2) pa_nil))) pa_nil))))
      pss_nil)
      (pss_one (ps_ret (pe_op op_cat (pv 4) (pv 5))))))))), ?_⟩
      refine ⟨_, rfl, rfl, _, rfl, iteD0 (fun z => ?_) ?_⟩
      · have z' : ((2 ^ (k + 1) : Nat) : Int) = 1 := V.int.inj z
        omega
      refine ⟨_, rfl, _, _, rfl, rfl, ⟨by decide, by decide⟩, ?_⟩
      simp only [eh]
      refine ⟨_, rfl, _, rfl, _, rfl, d, s, kvs, m, rfl, by omega, hd, hm, fun H1 p1 t1 s1 n1 e1 b1 => ?_⟩
      refine ⟨_, rfl, _, rfl, _, rfl, _, _, rfl, rfl, _, rfl, d, s + 2 ^ k, kvs, m, rfl, by omega, s1 _ _ hd, hm, fun H2 p2 t2 s2 n2 e2 b2 => ?_⟩
      have e1' := s2 _ _ e1
      have b1' := Blks.same s2 b1
      have n20 : H p2 = none := s1.free n2
      refine ⟨_, rfl, _, rfl, _, rfl, sz (by show 2 ≤ 100000; decide), fun t3 ht3 => ⟨sz (by show 1 ≤ 100000; decide), fun l3 hl3 => ?_⟩⟩
      have S3 : Same H2 (upd (upd H2 t3 (.tup [.int s, .int ((2 ^ k : Nat) : Int)])) l3 (.lst [.ref t3])) := (Same.new ht3).trans (Same.new hl3)
      have B3 : Blks (upd (upd H2 t3 (.tup [.int s, .int ((2 ^ k : Nat) : Int)])) l3 (.lst [.ref t3])) [t3] [(s, 2 ^ k)] := .cons ((Same.new hl3) _ _ upd_same) .nil
      refine ⟨encB (cov m k s), encB [(s, 2 ^ k)], dp_blks (S3 _ _ e1') (Blks.same S3 b1'), dp_blks (ts := [t3]) upd_same B3, shaped_blks _, shaped_blks _, _, rfl, ?_⟩
      rw [eqv_blks]
      have more : ∀ H3 : Hp, Same H2 H3 → ¬ (cov m k s = [(s, 2 ^ k)] ∧ cov m k (s + 2 ^ k) = [(s + 2 ^ k, 2 ^ k)]) → ∃ l b xs zs, V.ref p1 = .ref l ∧ V.ref p2 = .ref b ∧ H3 l = some (.lst xs) ∧ H3 b = some (.lst zs) ∧ xs.length + zs.length ≤ sizeLine ∧ ∀ p, H3 p = none → Q (.ref p) (upd H3 p (.lst (xs ++ zs))) := by
        intro H3 S hn
        have l1 := Paired.length b1
        have l2 := Paired.length b2
        have c1 := cov_len_le m k s
        have c2 := cov_len_le m k (s + 2 ^ k)
        have c3 : 2 ^ k ≤ 2 ^ 8 := Nat.pow_le_pow_right (by decide) (by omega)
        refine ⟨p1, p2, _, _, rfl, rfl, S _ _ e1', S _ _ e2, sz (by rw [List.length_map, List.length_map]; omega), fun p hp => ?_⟩
        refine q _ p (t1 ++ t2) ((s1.trans s2).trans (S.trans (Same.new hp))) ((s1.trans (s2.trans S)).free hp) (by rw [upd_same, List.map_append]) ?_
        rw [cov_succ, if_neg hn]
        exact Blks.same (S.trans (Same.new hp)) (Blks.app b1' b2)
      refine ite2 (fun h => ?_) (fun h => ?_)
      · have h' := of_decide_eq_true h
        refine ⟨_, rfl, _, rfl, _, rfl, _, _, rfl, rfl, _, rfl, sz (by show 2 ≤ 100000; decide), fun t4 ht4 => ⟨sz (by show 1 ≤ 100000; decide), fun l4 hl4 => ?_⟩⟩
        have S4 := S3.trans ((Same.new (o := .tup [.int ((s : Int) + ((2 ^ k : Nat) : Int)), .int ((2 ^ k : Nat) : Int)]) ht4).trans (Same.new (o := .lst [.ref t4]) hl4))
        refine ⟨encB (cov m k (s + 2 ^ k)), encB [(s + 2 ^ k, 2 ^ k)], dp_blks (S4 _ _ e2) (Blks.same S4 b2), dp_blks (ts := [t4]) upd_same (.cons ((Same.new hl4) _ _ upd_same) .nil), shaped_blks _, shaped_blks _, _, rfl, ?_⟩
        rw [eqv_blks]
        refine ite2 (fun h2 => ?_) (fun h2 => ?_)
        · have h2' := of_decide_eq_true h2
          refine ⟨_, rfl, _, rfl, sz (by show 2 ≤ 100000; decide), fun t5 ht5 => ⟨sz (by show 1 ≤ 100000; decide), fun l5 hl5 => ?_⟩⟩
          have S5 := S4.trans ((Same.new (o := .tup [.int s, .int ((2 ^ (k + 1) : Nat) : Int)]) ht5).trans (Same.new (o := .lst [.ref t5]) hl5))
          refine q _ l5 [t5] ((s1.trans s2).trans S5) ?_ upd_same ?_
          · exact ((s1.trans s2).trans (S4.trans (Same.new ht5))).free hl5
          · rw [cov_succ, if_pos ⟨h', h2'⟩]
            exact .cons ((Same.new hl5) _ _ upd_same) .nil
        · exact ⟨_, rfl, _, rfl, more _ S4 fun z => h2 (decide_eq_true z.2)⟩
      · exact iteF ⟨_, rfl, _, rfl, more _ S3 fun z => h (decide_eq_true z.1)⟩
theorem ok_least_cover (T : Txt K mg) : FnOk P w K mg base CX0 10 T.f_least_cover T.fd_least_cover ["depth", "places"] (sp_least_cover K) := by
  have GC : ∀ k, FnOk P w K mg base CX0 (k + 1) T.f_u_cover T.fd_u_cover ["wanted", "start", "size"] (sp_cover k) := ok_cover T
  refine T.F_least_cover.ok sc_least_cover (fun vs H Q E h => ?_) (fun cdv A outer s H vs Q E hr h => ?_)
  · obtain ⟨l, a, ns, m, rfl, _⟩ := h
    rfl
  · obtain ⟨l, a, ns, m, rfl, hS, hl, hn, hm, q⟩ := h
    have G_u_cover := GC l
    have hr : Room (l + 1) _ := hr.mono (by omega)
    refine ⟨_, (pss_cons (setDc (i := 2) (own := [("place", 3)]) (g := gName 3) (tt := tYes) rfl sc_least_cover.nd rfl rfl (sw_dict rfl rfl rfl (by decide +kernel)) (pi_list (pv 1)) (blkOk_by (own := [("place", 3)]) (N := N_least_cover) (sc := defScope s_least_cover) (by decide +kernel)) (fun _ _ _ _ _ => (pg_name (i := 3) sc_least_cover.nd rfl (Or.inl rfl))) (fun _ _ _ _ _ => pts_nil) (fun _ _ _ _ _ => (pv 3)) (fun _ _ _ _ _ => pe_bl))
      (pss_one (ps_ret (pe_call G_u_cover (hr.mono (by omega)) (by rfl) T.g_u_cover T.F_u_cover.kp T.b_u_cover .nil pass0 (pa_cons (pv 2) (pa_cons pe_int (pa_cons (pe_op op_shl pe_int (pv 0)) pa_nil))))))), ?_⟩
    refine ⟨_, rfl, a, rfl, ⟨_, hS⟩, fun D hD => ?_⟩
    refine ⟨fun i j H' => j = ns.length - i ∧ i ≤ ns.length ∧ ∃ kvs, Same H H' ∧ H' D = some (.dK kvs) ∧ kvs.length ≤ i ∧ ∀ x : Int, (valV kvs (.inl x)).isSome = decide (x ∈ ns.take i),
      ⟨_, rfl, Nat.zero_le _, [], Same.new hD, upd_same, Nat.le_refl _, fun x => by simp [valV_nil]⟩, ?_⟩
    rintro i j H' ⟨rfl, hi, kvs, s1, e1, l1, v1⟩
    by_cases hlt : i < ns.length
    · refine .inr ⟨⟨_, _, s1.seq hS, by rw [List.getElem?_map, List.getElem?_eq_getElem hlt]; rfl⟩, fun H' => i + 1 ≤ ns.length ∧ ∃ kvs, Same H H' ∧ H' D = some (.dK kvs) ∧ kvs.length ≤ i + 1 ∧ ∀ x : Int, (valV kvs (.inl x)).isSome = decide (x ∈ ns.take (i + 1)), fun H' h => ⟨ns.length - (i + 1), by omega, rfl, h⟩, ?_⟩
      rintro x H' ⟨rfl, hx⟩
      have hx' := hx _ (s1.seq hS)
      rw [List.getElem?_map, List.getElem?_eq_getElem hlt] at hx'
      obtain rfl := Option.some.inj hx'
      refine ⟨rfl, _, rfl, kvs, .inl ns[i], rfl, e1, szl (by omega), hlt, _, ?_, upd_same, ?_, fun x => ?_⟩
      · exact Same.mut s1 hD
      · have := length_putK kvs (.inl ns[i]) (.bl true)
        omega
      · rw [valV_put, List.take_succ_eq_append_getElem hlt]
        by_cases e : (Sum.inl x : Key) = Sum.inl ns[i]
        · rw [if_pos e]
          have : x = ns[i] := Sum.inl.inj e
          rw [this]
          exact (decide_eq_true (List.mem_append_right _ (List.mem_singleton.mpr rfl))).symm
        · rw [if_neg e, v1 x]
          refine decide_eq_decide.mpr ⟨fun h => List.mem_append_left _ h, fun h => ?_⟩
          rcases List.mem_append.mp h with h | h
          · exact h
          · exact absurd (by rw [List.mem_singleton.mp h]) e
    · have ei : i = ns.length := by omega
      subst ei
      refine .inl ⟨⟨_, s1.seq hS, by rw [List.length_map]; exact Nat.le_refl _⟩, ?_⟩
      refine ⟨_, rfl, _, rfl, _, _, rfl, rfl, ⟨by omega, by omega, by decide⟩, D, 0, kvs, m, ?_, hl, e1, fun x => ?_, fun H2 p ts s2 n2 e2 b2 => ?_⟩
      · show [V.ref D, V.int 0, V.int (1 * 2 ^ (l : Int).toNat)] = [V.ref D, V.int ((0 : Nat) : Int), V.int ((2 ^ l : Nat) : Int)]
        rw [Int.one_mul, Int.toNat_natCast, Int.natCast_pow]
        rfl
      · rw [v1, hm, List.take_length]
      · exact q H2 p ts (s1.trans s2) (s1.free n2) e2 b2
theorem ok_marks (T : Txt K mg) : FnOk P w K mg base CX0 2 T.f_marks T.fd_marks ["_law_box", "_law_whole_here"] sp_marks := by
  have G_take : FnOk P w K mg base CX0 1 T.f_take T.fd_take ["_law_box", "_law_size"] sp_take := ok_take T
  refine T.F_marks.ok sc_marks (fun vs H Q E h => ?_) (fun cdv A outer s H vs Q E hr h => ?_)
  · obtain ⟨b, n, rfl, _⟩ := h
    rfl
  · obtain ⟨b, n, rfl, hB, hn, hn2, q⟩ := h
    refine ⟨_, (pss_cons (ps_set (i := 2) sc_marks.nd rfl (Or.inl rfl) (pe_call G_take (hr.mono (by omega)) (by rfl) T.g_take T.F_take.kp T.b_take .nil pass0 (pa_cons (pv 0) (pa_cons pe_int pa_nil))))
      (pss_cons (ps_if (pt_cmpR op_eq (pv 2) pe_int (nomark _))
      (pss_one (ps_ret (pe_lc (own := [("_law_k", 3)]) (g := gName 3) (tt := tYes) rfl sc_marks.nd (pi_range1 (by rfl) T.z_range (pa_cons (pv 1) pa_nil)) (blkOk_by (own := [("_law_k", 3)]) (N := N_marks) (sc := defScope s_marks) (by decide +kernel)) (fun _ _ _ _ _ => (pg_name (i := 3) sc_marks.nd rfl (Or.inl rfl))) (fun _ _ _ _ _ => pts_nil) (fun _ _ _ _ _ => pe_int))))
      pss_nil)
      (pss_cons (ps_if (pt_cmpR op_eq (pv 2) pe_int (nomark _))
      (pss_one (ps_ret (pe_lc (own := [("_law_k", 3)]) (g := gName 3) (tt := tYes) rfl sc_marks.nd (pi_range1 (by rfl) T.z_range (pa_cons (pv 1) pa_nil)) (blkOk_by (own := [("_law_k", 3)]) (N := N_marks) (sc := defScope s_marks) (by decide +kernel)) (fun _ _ _ _ _ => (pg_name (i := 3) sc_marks.nd rfl (Or.inl rfl))) (fun _ _ _ _ _ => pts_nil) (fun _ _ _ _ _ => pe_int))))
      pss_nil)
      (pss_cons (ps_if (PW.pt (pw_or (pt_cmpR op_eq (pv 2) pe_int (nomark _)) (pw_or1 (pt_cmpR op_eq (pv 2) pe_int (nomark _)))))
      (pss_cons (ps_setLc (i := 4) (own := [("_law_k", 3)]) (g := gName 3) (tt := tYes) rfl sc_marks.nd rfl rfl (sw_true rfl rfl rfl (by decide +kernel)) (pi_range1 (by rfl) T.z_range (pa_cons (pv 1) pa_nil)) (blkOk_by (own := [("_law_k", 3)]) (N := N_marks) (sc := defScope s_marks) (by decide +kernel)) (fun _ _ _ _ _ => (pg_name (i := 3) sc_marks.nd rfl (Or.inl rfl))) (fun _ _ _ _ _ => pts_nil) (fun _ _ _ _ _ => pe_int))
        (pss_cons (ps_for PassesOwn.never rfl (pi_range1 (by rfl) T.z_range (pa_cons (pe_op op_add pe_int (pe_call G_take (hr.mono (by omega)) (by rfl) T.g_take T.F_take.kp T.b_take .nil pass0 (pa_cons (pv 0) (pa_cons pe_int pa_nil)))) pa_nil)) (pg_name (i := 3) sc_marks.nd rfl (Or.inl rfl))
        (pss_cons (ps_set (i := 5) sc_marks.nd rfl (Or.inl rfl) (pe_call G_take (hr.mono (by omega)) (by rfl) T.g_take T.F_take.kp T.b_take .nil pass0 (pa_cons (pv 0) (pa_cons (pv 1) pa_nil))))
          (pss_cons (ps_set (i := 6) sc_marks.nd rfl (Or.inl rfl) (pe_op op_add pe_int (pe_call G_take (hr.mono (by omega)) (by rfl) T.g_take T.F_take.kp T.b_take .nil pass0 (pa_cons (pv 0) (pa_cons (pv 1) pa_nil)))))
          (pss_one (ps_for PassesOwn.never rfl (pi_range2 (by rfl) T.z_range (pa_cons (pv 5) (pa_cons (pe_op op_add (pv 5) (pv 6)) pa_nil))) (pg_name (i := 7) sc_marks.nd rfl (Or.inl rfl))
          (pss_one (ps_if (pt_cmpR op_lt (pv 7) (pv 1) (nomark _))
            (pss_one (ps_asg pe_int (pg_sub (pv 4) (pv 7) set_list)))
            pss_nil)))))))
        (pss_one (ps_ret (pv 4)))))
      pss_nil)
      (pss_cons (ps_if (pt_cmpR op_eq (pv 2) pe_int (nomark _))
      (pss_one (ps_ret (pe_lc (own := [("_law_k", 3)]) (g := gName 3) (tt := tYes) rfl sc_marks.nd (pi_range1 (by rfl) T.z_range (pa_cons (pv 1) pa_nil)) (blkOk_by (own := [("_law_k", 3)]) (N := N_marks) (sc := defScope s_marks) (by decide +kernel)) (fun _ _ _ _ _ => (pg_name (i := 3) sc_marks.nd rfl (Or.inl rfl))) (fun _ _ _ _ _ => pts_nil) (fun _ _ _ _ _ => (pe_callTy call_int1 (by rfl) T.z_int (by decide +kernel) (pa_cons (pe_cmpR op_gt (pe_call G_take (hr.mono (by omega)) (by rfl) T.g_take T.F_take.kp T.b_take .nil pass0 (pa_cons (pv 0) (pa_cons pe_int pa_nil))) pe_int (nomark _)) pa_nil))))))
      pss_nil)
      (pss_one (ps_ret (pe_lc (own := [("_law_k", 3)]) (g := gName 3) (tt := tYes) rfl sc_marks.nd (pi_range1 (by rfl) T.z_range (pa_cons (pv 1) pa_nil)) (blkOk_by (own := [("_law_k", 3)]) (N := N_marks) (sc := defScope s_marks) (by decide +kernel)) (fun _ _ _ _ _ => (pg_name (i := 3) sc_marks.nd rfl (Or.inl rfl))) (fun _ _ _ _ _ => pts_nil) (fun _ _ _ _ _ => (pe_call G_take (hr.mono (by omega)) (by rfl) T.g_take T.F_take.kp T.b_take .nil pass0 (pa_cons (pv 0) (pa_cons pe_int pa_nil)))))))))))), ?_⟩
    refine ⟨_, rfl, b, 8, rfl, hB, by decide, by decide, fun d H1 h0 h8 B1 N1 => ?_⟩
    have fin : ∀ (H' : Hp) (D : Addr), H1 D = none → MkAt b H H' D n → Q (.ref D) H' := fun H' D hD ⟨ms, bt, e, l, z⟩ => q H' D ms bt (B1.none hD) e l z
    refine ⟨_, rfl, rfl, _, rfl, ite2 (fun h => ?_) (fun h => ?_)⟩
    · refine ⟨_, rfl, n, rfl, by omega, by omega, fun D hD => lc_range (n := n) (fun i H' => MkAt b H H' D i) (MkAt.start B1 hD) (fun i H' hi hP => ?_) (fun H' hP => fin H' D hD hP)⟩
      obtain ⟨ms, bt, e, l, z⟩ := hP
      refine ⟨rfl, _, e, szl (by rw [List.length_map]; omega), ?_⟩
      rw [← l]
      exact MkAt.snoc (hB.ne (B1.none hD)) bt (B1.none hD) z (.inr rfl)
    refine ⟨_, rfl, rfl, _, rfl, ite2 (fun h => ?_) (fun h => ?_)⟩
    · refine ⟨_, rfl, n, rfl, by omega, by omega, fun D hD => lc_range (n := n) (fun i H' => MkAt b H H' D i) (MkAt.start B1 hD) (fun i H' hi hP => ?_) (fun H' hP => fin H' D hD hP)⟩
      obtain ⟨ms, bt, e, l, z⟩ := hP
      refine ⟨rfl, _, e, szl (by rw [List.length_map]; omega), ?_⟩
      rw [← l]
      exact MkAt.snoc (hB.ne (B1.none hD)) bt (B1.none hD) z (.inl rfl)
    by_cases hw : d = 2 ∨ d = 3
    · rcases hw with rfl | rfl
      refine ⟨_, rfl, rfl, _, rfl, iteD1 rfl ?_⟩
      rotate_left
      refine ⟨_, rfl, rfl, _, rfl, iteD0 (fun z => by cases z) ⟨_, rfl, rfl, _, rfl, iteD1 rfl ?_⟩⟩
      all_goals
        refine ⟨_, rfl, n, rfl, by omega, by omega, fun D hD => lc_range (n := n) (fun i H' => MkAt b H H' D i) (MkAt.start B1 hD) (fun i H' hi hP => ?_) (fun H' hP => ?_)⟩
        · obtain ⟨ms, bt, e, l, z⟩ := hP
          refine ⟨rfl, _, e, szl (by rw [List.length_map]; omega), ?_⟩
          rw [← l]
          exact MkAt.snoc (hB.ne (B1.none hD)) bt (B1.none hD) z (.inl rfl)
        · have nbD := hB.ne (B1.none hD)
          refine ⟨_, rfl, b, 4, rfl, hP.box, by decide, by decide, fun d2 H2 g0 g4 B2 N2 => ?_⟩
          refine ⟨_, _, rfl, rfl, _, rfl, by omega, by omega, for_range (fun i σ H' => ∃ y3 y5 y6 y7, σ = [some (.ref b), some (.int n), some (.int _), y3, some (.ref D), y5, y6, y7] ∧ MkAt b H H' D n) ⟨none, none, none, none, rfl, hP.turn nbD B2⟩ ?_ ?_⟩
          · rintro i σ H' hi ⟨y3, y5, y6, y7, rfl, hP⟩
            refine ⟨_, rfl, _, rfl, b, n, rfl, hP.box, by omega, by omega, fun st H3 s0 sn B3 N3 => ?_⟩
            have hP3 := hP.turn nbD B3
            refine ⟨_, rfl, _, rfl, b, n, rfl, hP3.box, by omega, by omega, fun ct H4 c0 cn B4 N4 => ⟨_, _, rfl, rfl, ?_⟩⟩
            have hP4 := hP3.turn nbD B4
            refine ⟨_, rfl, _, rfl, _, rfl, _, _, rfl, rfl, st, _, rfl, ⟨by omega, by omega, by omega, by omega⟩, for_range (lo := st) (fun j σ H' => ∃ y3 y7, σ = [some (.ref b), some (.int n), some (.int _), y3, some (.ref D), some (.int st), some (.int (1 + ct)), y7] ∧ MkAt b H H' D n) ⟨_, y7, rfl, hP4⟩ ?_ ?_⟩
            · rintro j σ H' hj ⟨y3, y7, rfl, hP⟩
              refine ⟨_, rfl, _, rfl, _, _, rfl, rfl, _, rfl, ite2 (fun h => ?_) (fun h => ?_)⟩
              · obtain ⟨ms, bt, e, l, z⟩ := hP
                have h' := of_decide_eq_true h
                refine ⟨_, rfl, _, rfl, D, _, _, _, rfl, rfl, e, ixN_at (by omega) (by rw [List.length_map, l]; exact h'), y3, some (V.int (st + j)), rfl, ?_⟩
                refine ⟨ms.set (st + (j : Int)).toNat 1, But.mut bt (B1.none hD) nbD, ?_, by rw [List.length_set]; exact l, zo_set z (.inr rfl)⟩
                rw [upd_same, List.map_set]
              · exact ⟨y3, some (V.int (st + j)), rfl, hP⟩
            · rintro σ H' ⟨y3, y7, rfl, hP⟩
              exact ⟨_, _, _, _, rfl, hP⟩
          · rintro σ H' ⟨y3, y5, y6, y7, rfl, hP⟩
            exact ⟨_, rfl, fin H' D hD hP⟩
    · refine ⟨_, rfl, rfl, _, rfl, iteD0 (fun z => hw (.inl (V.int.inj z))) ⟨_, rfl, rfl, _, rfl, iteD0 (fun z => hw (.inr (V.int.inj z))) ?_⟩⟩
      refine ⟨_, rfl, rfl, _, rfl, ite2 (fun h => ?_) (fun h => ?_)⟩
      · refine ⟨_, rfl, n, rfl, by omega, by omega, fun D hD => lc_range (n := n) (fun i H' => MkAt b H H' D i) (MkAt.start B1 hD) (fun i H' hi hP => ?_) (fun H' hP => fin H' D hD hP)⟩
        have nbD := hB.ne (B1.none hD)
        refine ⟨rfl, _, rfl, b, 4, rfl, hP.box, by decide, by decide, fun v H2 v0 v4 B2 N2 => ?_⟩
        obtain ⟨ms, bt, e, l, z⟩ := hP.turn nbD B2
        refine ⟨_, _, rfl, rfl, .inr ⟨_, rfl, _, e, szl (by rw [List.length_map]; omega), ?_⟩⟩
        rw [← l]
        exact MkAt.snoc nbD bt (B1.none hD) z (by split <;> simp)
      · refine ⟨_, rfl, n, rfl, by omega, by omega, fun D hD => lc_range (n := n) (fun i H' => MkAt b H H' D i) (MkAt.start B1 hD) (fun i H' hi hP => ?_) (fun H' hP => fin H' D hD hP)⟩
        have nbD := hB.ne (B1.none hD)
        refine ⟨rfl, _, rfl, b, 2, rfl, hP.box, by decide, by decide, fun v H2 v0 v2 B2 N2 => ?_⟩
        obtain ⟨ms, bt, e, l, z⟩ := hP.turn nbD B2
        refine ⟨_, e, szl (by rw [List.length_map]; omega), ?_⟩
        rw [← l]
        exact MkAt.snoc nbD bt (B1.none hD) z (by omega)
theorem ok_handed (T : Txt K mg) : FnOk P w K mg base CX0 2 T.f_handed T.fd_handed ["_law_box", "_law_marks_here"] sp_handed := by
  have G_take : FnOk P w K mg base CX0 1 T.f_take T.fd_take ["_law_box", "_law_size"] sp_take := ok_take T
  refine T.F_handed.ok sc_handed (fun vs H Q E h => ?_) (fun cdv A outer s H vs Q E hr h => ?_)
  · obtain ⟨b, mk, ms, rfl, _⟩ := h
    rfl
  · obtain ⟨b, mk, ms, rfl, hB, hmk, nbm, hl, q⟩ := h
    refine ⟨_, (pss_cons (ps_set (i := 2) sc_handed.nd rfl (Or.inr rfl) (pe_lc (own := [("_law_place", 8)]) (g := gName 8) rfl sc_handed.nd (pi_range1 (by rfl) T.z_range (pa_cons (pe_callB (r := rLenK K) call_len_seq (by rfl) T.z_len PySem.boot_len (pa_cons (pv 1) pa_nil)) pa_nil)) (blkOk_by (own := [("_law_place", 8)]) (N := N_handed) (sc := defScope s_handed) (by decide +kernel)) (fun _ _ _ _ _ => (pg_name (i := 8) sc_handed.nd rfl (Or.inl rfl))) (fun _ _ _ _ _ => (pts_one (pt_cmpR op_eq (pe_ix (r := rIxL K) ix_list (pv 1) (pv 8) (fun _ _ => rfl)) pe_int (nomark _)))) (fun _ _ _ _ _ => (pv 8))))
      (pss_cons (ps_if (pt_cmpR op_eq (pe_callB (r := rLenK K) call_len_seq (by rfl) T.z_len PySem.boot_len (pa_cons (pv 2) pa_nil)) pe_int (nomark _))
      (pss_one (ps_ret (pe_lst pa_nil)))
      pss_nil)
      (pss_cons (ps_set (i := 3) sc_handed.nd rfl (Or.inl rfl) (pe_call G_take (hr.mono (by omega)) (by rfl) T.g_take T.F_take.kp T.b_take .nil pass0 (pa_cons (pv 0) (pa_cons (pe_callB (r := rLenK K) call_len_seq (by rfl) T.z_len PySem.boot_len (pa_cons (pv 2) pa_nil)) pa_nil))))
      (pss_cons (ps_set (i := 4) sc_handed.nd rfl (Or.inr rfl) (pe_op op_cat (pe_slice (r := rSlL K) sl_list (pv 2) (po_some (pv 3)) po_none) (pe_slice (r := rSlL K) sl_list (pv 2) po_none (po_some (pv 3)))))
      (pss_cons (ps_set (i := 5) sc_handed.nd rfl (Or.inl rfl) (pe_call G_take (hr.mono (by omega)) (by rfl) T.g_take T.F_take.kp T.b_take .nil pass0 (pa_cons (pv 0) (pa_cons pe_int pa_nil))))
      (C8.pss_cut (ps_if (pt_cmpR op_eq (pv 5) pe_int (nomark _))
      (pss_one (ps_set (i := 4) sc_handed.nd rfl (Or.inr rfl) (pe_lc (own := [("_law_at", 9)]) (g := gName 9) (tt := tYes) rfl sc_handed.nd (pi_range1 (by rfl) T.z_range (pa_cons (pe_callB (r := rLenK K) call_len_seq (by rfl) T.z_len PySem.boot_len (pa_cons (pv 2) pa_nil)) pa_nil)) (blkOk_by (own := [("_law_at", 9)]) (N := N_handed) (sc := defScope s_handed) (by decide +kernel)) (fun _ _ _ _ _ => (pg_name (i := 9) sc_handed.nd rfl (Or.inl rfl))) (fun _ _ _ _ _ => pts_nil) (fun _ _ _ _ _ => (pe_ix (r := rIxL K) ix_list (pv 4) (pe_op op_sub (pe_op op_sub (pe_callB (r := rLenK K) call_len_seq (by rfl) T.z_len PySem.boot_len (pa_cons (pv 2) pa_nil)) pe_int) (pv 9)) (fun _ _ => rfl))))))
      pss_nil)
      (C8.pss_cut (ps_if (pt_cmpR op_eq (pv 5) pe_int (nomark _))
      (pss_cons (ps_setLc (i := 6) (own := [("_law_at", 9)]) (g := gName 9) rfl sc_handed.nd rfl rfl (sw_true rfl rfl rfl (by decide +kernel)) (pi_range1 (by rfl) T.z_range (pa_cons (pe_callB (r := rLenK K) call_len_seq (by rfl) T.z_len PySem.boot_len (pa_cons (pv 2) pa_nil)) pa_nil)) (blkOk_by (own := [("_law_at", 9)]) (N := N_handed) (sc := defScope s_handed) (by decide +kernel)) (fun _ _ _ _ _ => (pg_name (i := 9) sc_handed.nd rfl (Or.inl rfl))) (fun _ _ _ _ _ => (pts_one (pt_cmpR op_eq (pe_op op_mod (pe_callTy call_int1 (by rfl) T.z_int (by decide +kernel) (pa_cons (pv 9) pa_nil)) pe_int) pe_int (nomark _)))) (fun _ _ _ _ _ => (pe_ix (r := rIxL K) ix_list (pv 4) (pv 9) (fun _ _ => rfl))))
        (pss_one (ps_set (i := 4) sc_handed.nd rfl (Or.inr rfl) (pe_op op_cat (pv 6) (pe_lc (own := [("_law_at", 9)]) (g := gName 9) rfl sc_handed.nd (pi_range1 (by rfl) T.z_range (pa_cons (pe_callB (r := rLenK K) call_len_seq (by rfl) T.z_len PySem.boot_len (pa_cons (pv 2) pa_nil)) pa_nil)) (blkOk_by (own := [("_law_at", 9)]) (N := N_handed) (sc := defScope s_handed) (by decide +kernel)) (fun _ _ _ _ _ => (pg_name (i := 9) sc_handed.nd rfl (Or.inl rfl))) (fun _ _ _ _ _ => (pts_one (pt_cmpR op_eq (pe_op op_mod (pe_callTy call_int1 (by rfl) T.z_int (by decide +kernel) (pa_cons (pv 9) pa_nil)) pe_int) pe_int (nomark _)))) (fun _ _ _ _ _ => (pe_ix (r := rIxL K) ix_list (pv 4) (pv 9) (fun _ _ => rfl))))))))
      pss_nil)
      (pss_cons (ps_for PassesOwn.never rfl (pi_range1 (by rfl) T.z_range (pa_cons (pe_call G_take (hr.mono (by omega)) (by rfl) T.g_take T.F_take.kp T.b_take .nil pass0 (pa_cons (pv 0) (pa_cons pe_int pa_nil))) pa_nil)) (pg_name (i := 7) sc_handed.nd rfl (Or.inl rfl))
      (pss_one (ps_set (i := 4) sc_handed.nd rfl (Or.inr rfl) (pe_op op_cat (pe_lst (pa_cons (pe_ix (r := rIxL K) ix_list (pv 2) (pe_call G_take (hr.mono (by omega)) (by rfl) T.g_take T.F_take.kp T.b_take .nil pass0 (pa_cons (pv 0) (pa_cons (pe_callB (r := rLenK K) call_len_seq (by rfl) T.z_len PySem.boot_len (pa_cons (pv 2) pa_nil)) pa_nil))) (fun _ _ => rfl)) pa_nil)) (pv 4)))))
      (pss_one (ps_ret (pv 4))))))))))), ?_⟩
    refine ⟨_, rfl, mk, _, rfl, .inl (SqL.of hmk), _, rfl, by rw [List.length_map]; omega, by rw [List.length_map]; omega, fun D hD => lc_range (fun i H' => ∃ ls : List Int, Same H H' ∧ H' D = some (.lst (ls.map V.int)) ∧ ls.length ≤ i ∧ ∀ x : Int, x ∈ ls ↔ ∃ j : Nat, j < i ∧ x = (j : Int) ∧ ms[j]? = some 1)
      ⟨[], Same.new hD, upd_same, Nat.le_refl _, fun x => ⟨fun h => (by cases h), fun ⟨j, h, _⟩ => (by omega)⟩⟩ (fun i H' hi hP => ?_) (fun H' hP => ?_)⟩
    · obtain ⟨ls, sm, e, ll, mem⟩ := hP
      have hi' : i < ms.length := by
        rw [List.length_map, Int.toNat_natCast] at hi
        exact hi
      refine ⟨rfl, _, rfl, _, rfl, mk, _, _, _, rfl, rfl, SqL.of (sm _ _ hmk), (by rw [Int.zero_add]; exact at_int hi'), rfl, _, rfl, ?_⟩
      have g : ms[i]? = some ms[i] := List.getElem?_eq_getElem hi'
      refine ite2 (fun h => ?_) (fun h => ?_)
      · have h1 : ms[i] = 1 := V.int.inj (of_decide_eq_true h)
        refine ⟨_, rfl, _, e, szl (by rw [List.length_map]; omega), ls ++ [(i : Int)], Same.mut sm hD, ?_, ?_, fun x => ?_⟩
        · rw [upd_same, ← map_snoc, Int.zero_add]
        · rw [List.length_append]
          show ls.length + 1 ≤ i + 1
          omega
        · rw [List.mem_append, mem, List.mem_singleton]
          constructor
          · rintro (⟨j, h1, h2, h3⟩ | rfl)
            · exact ⟨j, by omega, h2, h3⟩
            · exact ⟨i, by omega, rfl, by rw [g, h1]⟩
          · rintro ⟨j, h1, rfl, h3⟩
            rcases Nat.lt_or_ge j i with z | z
            · exact .inl ⟨j, z, rfl, h3⟩
            · exact .inr (by rw [show j = i by omega])
      · refine ⟨ls, sm, e, by omega, fun x => ?_⟩
        rw [mem]
        constructor
        · rintro ⟨j, h1, h2, h3⟩
          exact ⟨j, by omega, h2, h3⟩
        · rintro ⟨j, h1, rfl, h3⟩
          rcases Nat.lt_or_ge j i with z | z
          · exact ⟨j, z, rfl, h3⟩
          · have ji : j = i := by omega
            subst ji
            rw [g] at h3
            exact absurd (decide_eq_true (by rw [Option.some.inj h3])) h
    obtain ⟨ls, sm, e, ll, mem⟩ := hP
    rw [List.length_map, Int.toNat_natCast] at ll mem
    have mem' : ∀ x : Int, x ∈ ls ↔ ∃ j : Nat, x = (j : Int) ∧ ms[j]? = some 1 := fun x => by
      rw [mem]
      constructor
      · rintro ⟨j, _, h2, h3⟩
        exact ⟨j, h2, h3⟩
      · rintro ⟨j, h2, h3⟩
        exact ⟨j, (List.getElem?_eq_some_iff.mp h3).1, h2, h3⟩
    have nbD : b ≠ D := hB.ne hD
    have B0 : But b H H' := ⟨fun c o _ q => sm c o q, let ⟨o, q, z⟩ := hB; ⟨o, sm _ _ q, z⟩⟩
    refine ⟨_, rfl, D, _, rfl, .inl (SqL.of e), rfl, _, rfl, ite2 (fun h => ?_) (fun h => ?_)⟩
    · have h0 : ((ls.map V.int).length : Int) = 0 := V.int.inj (of_decide_eq_true h)
      rw [List.length_map] at h0
      have hnil : ls = [] := List.eq_nil_of_length_eq_zero (by omega)
      refine ⟨Nat.zero_le _, fun p hp => q _ p [] (B0.same (Same.new hp)) (sm.free hp) upd_same (Nat.zero_le _) fun x => ?_⟩
      rw [← mem' x, hnil]
    have lpos : 0 < ls.length := by
      rcases Nat.eq_zero_or_pos ls.length with z | z
      · exact absurd (decide_eq_true (by rw [List.length_map, z]; rfl)) h
      · exact z
    refine ⟨_, rfl, _, rfl, D, _, rfl, .inl (SqL.of e), b, _, rfl, B0.2, by rw [List.length_map]; omega, by rw [List.length_map]; omega, fun tn H1 t0 tl B1 N1 => ?_⟩
    obtain ⟨tn, rfl⟩ := Int.eq_ofNat_of_zero_le t0
    have e1 : H1 D = some (.lst (ls.map V.int)) := B1.1 _ _ nbD.symm e
    refine ⟨_, rfl, _, rfl, _, rfl, D, _, rfl, SqL.of e1, fun p1 hp1 => ?_⟩
    have e1' := (Same.new (o := .lst (cutV (ls.map V.int) (some (tn : Int)) none)) hp1) _ _ e1
    refine ⟨_, rfl, _, rfl, _, rfl, D, _, rfl, SqL.of e1', fun p2 hp2 => ?_⟩
    refine ⟨p1, p2, _, _, rfl, rfl, (Same.new hp2) _ _ upd_same, upd_same, ?_, fun p3 hp3 => ?_⟩
    · rw [cutV_from, cutV_to, List.length_drop, List.length_take, List.length_map]
      exact sz (by omega)
    have S3 : Same H1 (upd (upd (upd H1 p1 (.lst (cutV (ls.map V.int) (some (tn : Int)) none))) p2 (.lst (cutV (ls.map V.int) none (some (tn : Int))))) p3 (.lst (cutV (ls.map V.int) (some (tn : Int)) none ++ cutV (ls.map V.int) none (some (tn : Int))))) := ((Same.new hp1).trans (Same.new hp2)).trans (Same.new hp3)
    have A3 : Alike (upd (upd (upd H1 p1 (.lst (cutV (ls.map V.int) (some (tn : Int)) none))) p2 (.lst (cutV (ls.map V.int) none (some (tn : Int))))) p3 (.lst (cutV (ls.map V.int) (some (tn : Int)) none ++ cutV (ls.map V.int) none (some (tn : Int))))) p3 ls ls.length := by
      refine ⟨ls.drop tn ++ ls.take tn, ?_, ?_, ?_, fun x => ?_⟩
      · rw [upd_same, cutV_from, cutV_to, List.map_append, List.map_drop, List.map_take]
      · rw [List.length_append, List.length_drop, List.length_take]
        omega
      · rw [List.length_append, List.length_drop, List.length_take]
        omega
      · rw [List.mem_append]
        conv => rhs; rw [← List.take_append_drop tn ls, List.mem_append]
        exact Or.comm
    have n3 : H1 p3 = none := ((Same.new hp1).trans (Same.new hp2)).free hp3
    revert S3 A3
    generalize (upd (upd (upd H1 p1 (.lst (cutV (ls.map V.int) (some (tn : Int)) none))) p2 (.lst (cutV (ls.map V.int) none (some (tn : Int))))) p3 (.lst (cutV (ls.map V.int) (some (tn : Int)) none ++ cutV (ls.map V.int) none (some (tn : Int))))) = H3
    intro S3 A3
    have B3 : But b H H3 := (B0.trans B1).same S3
    have e3 := S3 _ _ e1
    have n30 : H p3 = none := (B0.trans B1).none n3
    -- way
    refine ⟨_, rfl, b, 3, rfl, B3.2, by decide, by decide, fun d H4 d0 d3 B4 N4 => ?_⟩
    have e4 : H4 D = some (.lst (ls.map V.int)) := B4.1 _ _ nbD.symm e3
    have A4 : Alike H4 p3 ls ls.length := by
      obtain ⟨ts, z1, z2, z3, z4⟩ := A3
      exact ⟨ts, B4.1 _ _ (hB.ne n30).symm z1, z2, z3, z4⟩
    have B5 := B3.trans B4
    refine ⟨fun σ H' => ∃ y7 y8 y9 p, σ = [some (.ref b), some (.ref mk), some (.ref D), some (.int tn), some (.ref p), some (.int d), none, y7, y8, y9] ∧ But b H H' ∧ H' D = some (.lst (ls.map V.int)) ∧ H p = none ∧ p ≠ D ∧ Alike H' p ls ls.length, ?_, ?_⟩
    · have npD : p3 ≠ D := (ne_of_none e1 n3).symm
      refine ⟨_, rfl, rfl, _, rfl, ite2 (fun h => ?_) (fun h => ?_)⟩
      · obtain ⟨ts, z1, z2, z3, z4⟩ := A4
        have lt : ts.length = ls.length := by omega
        refine ⟨_, rfl, D, _, rfl, .inl (SqL.of e4), _, rfl, by rw [List.length_map]; omega, by rw [List.length_map]; omega, fun C hC => lc_range (fun i H' => Same H4 H' ∧ H' C = some (.lst ((ts.drop (ts.length - i)).reverse.map V.int)))
          ⟨Same.new hC, by rw [upd_same, Nat.sub_zero, List.drop_length]; rfl⟩ (fun i H' hi hP => ?_) (fun H' hP => ?_)⟩
        · obtain ⟨sm4, eC⟩ := hP
          rw [List.length_map, Int.toNat_natCast] at hi
          have hi2 : ts.length - 1 - i < ts.length := by omega
          refine ⟨rfl, _, rfl, _, rfl, D, _, rfl, .inl (SqL.of (sm4 _ _ e4)), _, _, rfl, rfl, _, rfl, _, _, rfl, rfl, p3, _, _, .int ts[ts.length - 1 - i], rfl, rfl, SqL.of (sm4 _ _ z1), ?_, _, eC, ?_, Same.mut sm4 hC, ?_⟩
          · rw [show (((ls.map V.int).length : Int) - 1 - (0 + (i : Int))) = ((ts.length - 1 - i : Nat) : Int) by rw [List.length_map]; omega]
            exact at_int hi2
          · refine szl ?_
            rw [List.length_map, List.length_reverse, List.length_drop]
            omega
          · rw [upd_same, map_snoc, ← List.reverse_cons, show ts.length - i = ts.length - 1 - i + 1 by omega, ← List.drop_eq_getElem_cons hi2, show ts.length - 1 - i = ts.length - (i + 1) by omega]
        · obtain ⟨sm4, eC⟩ := hP
          refine ⟨_, _, _, C, rfl, B5.same sm4, sm4 _ _ e4, B5.none hC, (ne_of_none e4 hC).symm, _, eC, ?_, ?_, fun x => ?_⟩
          · rw [List.length_reverse, List.length_drop]
            omega
          · rw [List.length_reverse, List.length_drop, List.length_map, Int.toNat_natCast]
            omega
          · rw [List.length_map, Int.toNat_natCast, lt, Nat.sub_self, List.drop_zero, List.mem_reverse]
            exact z4 x
      · exact ⟨_, _, _, p3, rfl, B5, e4, n30, npD, A4⟩
    rintro σ H5 ⟨y7, y8, y9, p, rfl, B5, e5, np, npD, A5⟩
    refine ⟨fun σ H' => ∃ y6 y7 y8 y9 p, σ = [some (.ref b), some (.ref mk), some (.ref D), some (.int tn), some (.ref p), some (.int d), y6, y7, y8, y9] ∧ But b H H' ∧ H' D = some (.lst (ls.map V.int)) ∧ H p = none ∧ p ≠ D ∧ Alike2 H' p ls (2 * ls.length), ?_, ?_⟩
    · obtain ⟨ts, z1, z2, z3, z4⟩ := A5
      refine ⟨_, rfl, rfl, _, rfl, ite2 (fun h => ?_) (fun h => ?_)⟩
      · have lt : ts.length = ls.length := by omega
        refine ⟨_, rfl, D, _, rfl, .inl (SqL.of e5), _, rfl, by rw [List.length_map]; omega, by rw [List.length_map]; omega, fun C hC => lc_range (fun i H' => ∃ os : List Int, Same H5 H' ∧ H' C = some (.lst (os.map V.int)) ∧ os.length ≤ i ∧ ∀ x : Int, x ∈ os ↔ ∃ j : Nat, j < i ∧ j % 2 = 1 ∧ ts[j]? = some x)
          ⟨[], Same.new hC, upd_same, Nat.le_refl _, fun x => ⟨fun h => (by cases h), fun ⟨j, h, _⟩ => (by omega)⟩⟩ (fun i H' hi hP => ?_) (fun H' hP => ?_)⟩
        · obtain ⟨os, sm5, eC, lo, mo⟩ := hP
          rw [List.length_map, Int.toNat_natCast, ← lt] at hi
          have g : ts[i]? = some ts[i] := List.getElem?_eq_getElem hi
          refine ⟨rfl, _, rfl, .inl ⟨_, rfl, _, _, rfl, rfl, (by decide : (0 : Int) < 2), rfl, _, rfl, ite2 (fun h => ?_) (fun h => ?_)⟩⟩
          · have h1 : (0 + (i : Int)) % 2 = 1 := V.int.inj (of_decide_eq_true h)
            refine ⟨_, rfl, _, rfl, p, _, _, _, rfl, rfl, SqL.of (sm5 _ _ z1), (by rw [Int.zero_add]; exact at_int hi), _, eC, szl (by rw [List.length_map]; omega), os ++ [ts[i]], Same.mut sm5 hC, by rw [upd_same, map_snoc], ?_, fun x => ?_⟩
            · rw [List.length_append]
              show os.length + 1 ≤ i + 1
              omega
            · rw [List.mem_append, mo, List.mem_singleton]
              constructor
              · rintro (⟨j, a1, a2, a3⟩ | rfl)
                · exact ⟨j, by omega, a2, a3⟩
                · exact ⟨i, by omega, by omega, g⟩
              · rintro ⟨j, a1, a2, a3⟩
                rcases Nat.lt_or_ge j i with z | z
                · exact .inl ⟨j, z, a2, a3⟩
                · have ji : j = i := by omega
                  subst ji
                  rw [g] at a3
                  exact .inr (Option.some.inj a3).symm
          · refine ⟨os, sm5, eC, by omega, fun x => ?_⟩
            rw [mo]
            constructor
            · rintro ⟨j, a1, a2, a3⟩
              exact ⟨j, by omega, a2, a3⟩
            · rintro ⟨j, a1, a2, a3⟩
              rcases Nat.lt_or_ge j i with z | z
              · exact ⟨j, z, a2, a3⟩
              · have ji : j = i := by omega
                subst ji
                exact absurd (decide_eq_true (show V.int ((0 + (j : Int)) % 2) = V.int 1 by rw [show (0 + (j : Int)) % 2 = 1 by omega])) h
        · obtain ⟨os, sm5, eC, lo, mo⟩ := hP
          rw [List.length_map, Int.toNat_natCast] at lo mo
          have zC := sm5 _ _ z1
          refine ⟨_, rfl, _, rfl, D, _, rfl, .inl (SqL.of (sm5 _ _ e5)), _, rfl, by rw [List.length_map]; omega, by rw [List.length_map]; omega, fun C2 hC2 => lc_range (fun i H2 => ∃ es : List Int, Same H' H2 ∧ H2 C2 = some (.lst (es.map V.int)) ∧ es.length ≤ i ∧ ∀ x : Int, x ∈ es ↔ ∃ j : Nat, j < i ∧ j % 2 = 0 ∧ ts[j]? = some x)
            ⟨[], Same.new hC2, upd_same, Nat.le_refl _, fun x => ⟨fun h => (by cases h), fun ⟨j, h, _⟩ => (by omega)⟩⟩ (fun i H2 hi hP => ?_) (fun H2 hP => ?_)⟩
          · obtain ⟨es, sm6, eC2, le, me⟩ := hP
            rw [List.length_map, Int.toNat_natCast, ← lt] at hi
            have g : ts[i]? = some ts[i] := List.getElem?_eq_getElem hi
            refine ⟨rfl, _, rfl, .inl ⟨_, rfl, _, _, rfl, rfl, (by decide : (0 : Int) < 2), rfl, _, rfl, ite2 (fun h => ?_) (fun h => ?_)⟩⟩
            · have h1 : (0 + (i : Int)) % 2 = 0 := V.int.inj (of_decide_eq_true h)
              refine ⟨_, rfl, _, rfl, p, _, _, _, rfl, rfl, SqL.of (sm6 _ _ zC), (by rw [Int.zero_add]; exact at_int hi), _, eC2, szl (by rw [List.length_map]; omega), es ++ [ts[i]], Same.mut sm6 hC2, by rw [upd_same, map_snoc], ?_, fun x => ?_⟩
              · rw [List.length_append]
                show es.length + 1 ≤ i + 1
                omega
              · rw [List.mem_append, me, List.mem_singleton]
                constructor
                · rintro (⟨j, a1, a2, a3⟩ | rfl)
                  · exact ⟨j, by omega, a2, a3⟩
                  · exact ⟨i, by omega, by omega, g⟩
                · rintro ⟨j, a1, a2, a3⟩
                  rcases Nat.lt_or_ge j i with z | z
                  · exact .inl ⟨j, z, a2, a3⟩
                  · have ji : j = i := by omega
                    subst ji
                    rw [g] at a3
                    exact .inr (Option.some.inj a3).symm
            · refine ⟨es, sm6, eC2, by omega, fun x => ?_⟩
              rw [me]
              constructor
              · rintro ⟨j, a1, a2, a3⟩
                exact ⟨j, by omega, a2, a3⟩
              · rintro ⟨j, a1, a2, a3⟩
                rcases Nat.lt_or_ge j i with z | z
                · exact ⟨j, z, a2, a3⟩
                · have ji : j = i := by omega
                  subst ji
                  exact absurd (decide_eq_true (show V.int ((0 + (j : Int)) % 2) = V.int 0 by rw [show (0 + (j : Int)) % 2 = 0 by omega])) h
          · obtain ⟨es, sm6, eC2, le, me⟩ := hP
            rw [List.length_map, Int.toNat_natCast] at le me
            refine ⟨C, C2, _, _, rfl, rfl, sm6 _ _ eC, eC2, sz (by rw [List.length_map, List.length_map]; omega), fun C3 hC3 => ?_⟩
            have sm7 : Same H5 (upd H2 C3 (.lst (os.map V.int ++ es.map V.int))) := (sm5.trans sm6).trans (Same.new hC3)
            have nC3 : H5 C3 = none := (sm5.trans sm6).free hC3
            have hall : ∀ x : Int, x ∈ os ++ es ↔ x ∈ ls := fun x => by
              rw [List.mem_append, mo, me, ← z4 x]
              constructor
              · rintro (⟨j, _, _, a⟩ | ⟨j, _, _, a⟩)
                · exact List.mem_of_getElem? a
                · exact List.mem_of_getElem? a
              · intro h
                obtain ⟨j, a⟩ := List.getElem?_of_mem h
                have jl : j < ls.length := by
                  have := (List.getElem?_eq_some_iff.mp a).1
                  omega
                rcases Nat.mod_two_eq_zero_or_one j with z | z
                · exact .inr ⟨j, jl, z, a⟩
                · exact .inl ⟨j, jl, z, a⟩
            refine ⟨_, _, _, _, C3, rfl, B5.same sm7, sm7 _ _ e5, B5.none nC3, (ne_of_none e5 nC3).symm, os ++ es, by rw [upd_same, List.map_append], ?_, hall⟩
            · rw [List.length_append]
              omega
      · exact ⟨_, _, _, _, p, rfl, B5, e5, np, npD, ts, z1, by omega, z4⟩
    rintro σ H6 ⟨y6, y7, y8, y9, p, rfl, B6, e6, np, npD, A6⟩
    refine ⟨_, rfl, b, 4, rfl, B6.2, by decide, by decide, fun m H7 m0 m4 B7 N7 => ?_⟩
    have A7 : Alike2 H7 p ls (2 * ls.length) := by
      obtain ⟨ts, a1, a2, a4⟩ := A6
      exact ⟨ts, B7.1 _ _ (hB.ne np).symm a1, a2, a4⟩
    refine ⟨_, rfl, by omega, by omega, for_range (fun i σ H' => ∃ y7 p, σ = [some (.ref b), some (.ref mk), some (.ref D), some (.int tn), some (.ref p), some (.int d), y6, y7, y8, y9] ∧ But b H H' ∧ H' D = some (.lst (ls.map V.int)) ∧ H p = none ∧ Alike2 H' p ls (2 * ls.length + i)) ⟨y7, p, rfl, B6.trans B7, B7.1 _ _ nbD.symm e6, np, A7⟩ ?_ ?_⟩
    · rintro i σ H' hi ⟨y7, p, rfl, bt, eD, np, ts, a1, a2, a4⟩
      refine ⟨_, rfl, _, rfl, _, rfl, D, _, rfl, .inl (SqL.of eD), b, _, rfl, bt.2, by rw [List.length_map]; omega, by rw [List.length_map]; omega, fun k H2 k0 kl B2 N2 => ?_⟩
      obtain ⟨k, rfl⟩ := Int.eq_ofNat_of_zero_le k0
      have eD2 : H2 D = some (.lst (ls.map V.int)) := B2.1 _ _ nbD.symm eD
      have hk : k < ls.length := by
        rw [List.length_map] at kl
        omega
      refine ⟨D, _, _, _, rfl, rfl, SqL.of eD2, at_int hk, sz (by show 1 ≤ 100000; decide), fun l1 hl1 => ?_⟩
      have S1 : Same H2 (upd H2 l1 (.lst [.int ls[k]])) := Same.new hl1
      refine ⟨_, rfl, l1, p, _, _, rfl, rfl, upd_same, S1 _ _ (B2.1 _ _ (hB.ne np).symm a1), sz (by rw [List.length_map]; show 1 + ts.length ≤ 100000; omega), fun l2 hl2 => ?_⟩
      have S2 := S1.trans (Same.new (o := .lst ([V.int ls[k]] ++ ts.map V.int)) hl2)
      refine ⟨_, l2, rfl, (bt.trans B2).same S2, S2 _ _ eD2, (bt.trans B2).none (S1.free hl2), ls[k] :: ts, upd_same, ?_, fun x => ?_⟩
      · rw [List.length_cons]
        omega
      · rw [List.mem_cons, a4]
        constructor
        · rintro (rfl | h)
          · exact List.getElem_mem hk
          · exact h
        · exact .inr
    · rintro σ H' ⟨y7, p, rfl, bt, eD, np, ts, a1, a2, a4⟩
      exact ⟨_, rfl, q H' p ts bt np a1 (by omega) fun x => by rw [a4, mem']⟩
theorem ok_least (T : Txt K mg) : FnOk P w K mg base CX0 1 T.f_least T.fd_least ["_law_levels", "_law_marks_here"] (sp_least K) := by
  refine T.F_least.ok sc_least (fun vs H Q E h => ?_) (fun cdv A outer s H vs Q E hr h => ?_)
  · obtain ⟨l, mk, ms, rfl, _⟩ := h
    rfl
  · obtain ⟨l, mk, ms, rfl, hl, hS, hlen, hz, q⟩ := h
    refine ⟨_, (pss_cons (ps_set (i := 2) sc_least.nd rfl (Or.inl rfl) (pe_callTy (r := rListK K) call_list_of (by rfl) T.z_list (by decide +kernel) (pa_cons (pv 1) pa_nil)))
      (pss_cons (ps_set (i := 3) sc_least.nd rfl (Or.inl rfl) (pe_callTy (r := rListK K) call_list_of (by rfl) T.z_list (by decide +kernel) (pa_cons (pv 1) pa_nil)))
      (pss_cons (ps_for PassesOwn.never rfl (pi_range1 (by rfl) T.z_range (pa_cons (pv 0) pa_nil)) (pg_name (i := 4) sc_least.nd rfl (Or.inl rfl))
      (pss_cons (ps_set (i := 5) sc_least.nd rfl (Or.inl rfl) (pe_lst pa_nil))
        (pss_cons (ps_set (i := 6) sc_least.nd rfl (Or.inl rfl) (pe_lst pa_nil))
        (pss_cons (ps_for PassesOwn.never rfl (pi_range1 (by rfl) T.z_range (pa_cons (pe_op op_fdiv (pe_callB (r := rLenK K) call_len_seq (by rfl) T.z_len PySem.boot_len (pa_cons (pv 2) pa_nil)) pe_int) pa_nil)) (pg_name (i := 7) sc_least.nd rfl (Or.inl rfl))
        (pss_cons (ps_set (i := 8) sc_least.nd rfl (Or.inl rfl) (pe_op op_mul (pe_ix (r := rIxL K) ix_list (pv 3) (pe_op op_mul pe_int (pv 7)) (fun _ _ => rfl)) (pe_ix (r := rIxL K) ix_list (pv 3) (pe_op op_add (pe_op op_mul pe_int (pv 7)) pe_int) (fun _ _ => rfl))))
          (pss_cons (ps_expr (pe_bm PySem.F.plainAttrs_list PySem.F.slot_list_append PySem.F.type_list_append mt_append (pv 6) (pa_cons (pv 8) pa_nil)))
          (pss_one (ps_if (pt_cmpR op_eq (pv 8) pe_int (nomark _))
          (pss_one (ps_expr (pe_bm PySem.F.plainAttrs_list PySem.F.slot_list_append PySem.F.type_list_append mt_append (pv 5) (pa_cons pe_int pa_nil))))
          (pss_one (ps_expr (pe_bm PySem.F.plainAttrs_list PySem.F.slot_list_append PySem.F.type_list_append mt_append (pv 5) (pa_cons (pe_op op_add (pe_ix (r := rIxL K) ix_list (pv 2) (pe_op op_mul pe_int (pv 7)) (fun _ _ => rfl)) (pe_ix (r := rIxL K) ix_list (pv 2) (pe_op op_add (pe_op op_mul pe_int (pv 7)) pe_int) (fun _ _ => rfl))) pa_nil)))))))))
        (pss_cons (ps_set (i := 2) sc_least.nd rfl (Or.inl rfl) (pe_callTy (r := rListK K) call_list_of (by rfl) T.z_list (by decide +kernel) (pa_cons (pv 5) pa_nil)))
        (pss_one (ps_set (i := 3) sc_least.nd rfl (Or.inl rfl) (pe_callTy (r := rListK K) call_list_of (by rfl) T.z_list (by decide +kernel) (pa_cons (pv 6) pa_nil)))))))))
      (pss_one (ps_ret (pe_ix (r := rIxL K) ix_list (pv 2) pe_int (fun _ _ => rfl))))))), ?_⟩
    refine ⟨_, rfl, mk, _, rfl, .inl hS, fun c hc => ?_⟩
    have S1 : Same H (upd H c (.lst (ms.map V.int))) := Same.new hc
    refine ⟨_, rfl, mk, _, rfl, .inl (S1.seq hS), fun f hf => ?_⟩
    have S2 := Same.new (H := upd H c (.lst (ms.map V.int))) (o := .lst (ms.map V.int)) hf
    generalize hm : on ms = m at q
    refine ⟨_, rfl, l, rfl, by omega, by omega, for_range (n := l) (fun k σ H' => ∃ c f y4 y5 y6 y7 y8, σ = [some (.int l), some (.ref mk), some (.ref c), some (.ref f), y4, y5, y6, y7, y8] ∧ Same H H' ∧ H' c = some (.lst ((lvl (cnt m) l k).map V.int)) ∧ H' f = some (.lst ((lvl (ful m) l k).map V.int)))
      ⟨c, f, none, none, none, none, none, rfl, S1.trans S2, ?_, ?_⟩ ?_ ?_⟩
    · rw [lvl_zero hz hlen (g := cnt m) (fun s => by rw [hm]; exact cov_len0 m s)]
      exact S2 _ _ upd_same
    · rw [lvl_zero hz hlen (g := ful m) (fun s => by rw [hm])]
      exact upd_same
    · rintro k σ H' hk ⟨c, f, y4, y5, y6, y7, y8, rfl, sm, ec, ef⟩
      have p2 : 2 ^ (l - k) = 2 * 2 ^ (l - (k + 1)) := by
        rw [show l - k = l - (k + 1) + 1 by omega, Nat.pow_succ, Nat.mul_comm]
      have pl : 2 ^ (l - (k + 1)) ≤ 2 ^ 8 := Nat.pow_le_pow_right (by decide) (by omega)
      have hn : (((lvl (cnt m) l k).map V.int).length : Int) / 2 = ((2 ^ (l - (k + 1)) : Nat) : Int) := by
        rw [List.length_map, lvl_len, p2]
        omega
      refine ⟨Nat.zero_le _, fun wd hw => ⟨Nat.zero_le _, fun wf hwf => ?_⟩⟩
      have nww : wd ≠ wf := by
        intro e
        subst e
        rw [upd_same] at hwf
        cases hwf
      have Sa : Same H' (upd (upd H' wd (.lst [])) wf (.lst [])) := (Same.new hw).trans (Same.new hwf)
      have nwf : H' wf = none := (Same.new hw).free hwf
      refine ⟨_, rfl, c, _, rfl, .inl (SqL.of (Sa _ _ ec)), _, _, rfl, rfl, ⟨by decide, by decide⟩, _, rfl, by rw [hn]; omega, by rw [hn]; omega, for_range (fun j σ H2 => ∃ y7 y8, σ = [some (.int l), some (.ref mk), some (.ref c), some (.ref f), some (.int (0 + (k : Int))), some (.ref wd), some (.ref wf), y7, y8] ∧ Same H' H2 ∧
        H2 wd = some (.lst (((List.range j).map fun i => ((cnt m (k + 1) (i * 2 ^ (k + 1)) : Nat) : Int)).map V.int)) ∧ H2 wf = some (.lst (((List.range j).map fun i => ((ful m (k + 1) (i * 2 ^ (k + 1)) : Nat) : Int)).map V.int)))
        ⟨y7, y8, rfl, Sa, by rw [upd_ne nww, upd_same]; rfl, upd_same⟩ ?_ ?_⟩
      · rintro j σ H2 hj ⟨y7, y8, rfl, s2, ew, ewf⟩
        rw [hn, Int.toNat_natCast] at hj
        have ef2 := s2 _ _ ef
        have ec2 := s2 _ _ ec
        have i1 : 2 * (0 + (j : Int)) = ((2 * j : Nat) : Int) := by omega
        have i2 : 2 * (0 + (j : Int)) + 1 = ((2 * j + 1 : Nat) : Int) := by omega
        have b1 : 2 * j < 2 ^ (l - k) := by omega
        have b2 : 2 * j + 1 < 2 ^ (l - k) := by omega
        have q1 : 2 * j * 2 ^ k = j * 2 ^ (k + 1) := by
          rw [Nat.pow_succ, Nat.mul_comm 2 j, Nat.mul_assoc, Nat.mul_comm 2]
        have q2 : (2 * j + 1) * 2 ^ k = j * 2 ^ (k + 1) + 2 ^ k := by
          rw [Nat.add_mul, q1, Nat.one_mul]
        have f1 := ful_one m k (2 * j * 2 ^ k)
        refine ⟨_, rfl, _, rfl, _, _, rfl, rfl, .inl ⟨by decide, by decide⟩, f, _, _, _, rfl, rfl, SqL.of ef2, (by rw [i1]; exact lvl_at b1), ?_⟩
        refine ⟨_, rfl, _, rfl, _, _, rfl, rfl, .inl ⟨by decide, by decide⟩, _, _, rfl, rfl, f, _, _, _, rfl, rfl, SqL.of ef2, (by rw [i2]; exact lvl_at b2), _, _, rfl, rfl, .inl ⟨by omega, by omega⟩, ?_⟩
        have ev : ((ful m k (2 * j * 2 ^ k) : Nat) : Int) * ((ful m k ((2 * j + 1) * 2 ^ k) : Nat) : Int) = ((ful m (k + 1) (j * 2 ^ (k + 1)) : Nat) : Int) := by
          rw [q1, q2, ← Int.natCast_mul]
          rfl
        simp only [ev]
        refine ⟨_, rfl, .inl ⟨rfl, _, SqL.of ewf⟩, _, rfl, wf, _, _, rfl, rfl, ewf, szl (by rw [List.length_map, List.length_map, List.length_range]; omega), ?_⟩
        have nk : H' wd = none := hw
        have s3 := Same.mut (o := .lst (((List.range j).map fun i => ((ful m (k + 1) (i * 2 ^ (k + 1)) : Nat) : Int)).map V.int ++ [.int ((ful m (k + 1) (j * 2 ^ (k + 1)) : Nat) : Int)])) s2 nwf
        have last : ∀ v : Nat, v = cnt m (k + 1) (j * 2 ^ (k + 1)) → ∀ (f : Nat → Int), f = (fun i => ((cnt m (k + 1) (i * 2 ^ (k + 1)) : Nat) : Int)) → ((List.range j).map f).map V.int ++ [V.int (v : Int)] = ((List.range (j + 1)).map f).map V.int := by
          rintro v rfl f rfl
          rw [List.range_succ, List.map_append, List.map_append]
          rfl
        have lastf : ((List.range j).map fun i => ((ful m (k + 1) (i * 2 ^ (k + 1)) : Nat) : Int)).map V.int ++ [V.int ((ful m (k + 1) (j * 2 ^ (k + 1)) : Nat) : Int)] = ((List.range (j + 1)).map fun i => ((ful m (k + 1) (i * 2 ^ (k + 1)) : Nat) : Int)).map V.int := by
          rw [List.range_succ, List.map_append, List.map_append]
          rfl
        have cl := cov_len m k (j * 2 ^ (k + 1))
        refine ⟨_, rfl, rfl, _, rfl, ite2 (fun h => ?_) (fun h => ?_)⟩
        · have h1 : ful m (k + 1) (j * 2 ^ (k + 1)) = 1 := by
            have := V.int.inj (of_decide_eq_true h)
            omega
          refine ⟨_, rfl, .inl ⟨rfl, _, SqL.of (by rw [upd_ne nww]; exact ew)⟩, wd, _, _, rfl, rfl, by rw [upd_ne nww]; exact ew, szl (by rw [List.length_map, List.length_map, List.length_range]; omega), some (V.int (0 + (j : Int))), some (V.int _), rfl, Same.mut s3 nk, ?_, ?_⟩
          · rw [upd_same]
            have := last 1 (by unfold cnt; rw [cl, if_pos h1]) _ rfl
            rw [← this]
            rfl
          · rw [upd_ne nww.symm, upd_same, lastf]
        · have h1 : ¬ ful m (k + 1) (j * 2 ^ (k + 1)) = 1 := fun z => h (decide_eq_true (by rw [z]; rfl))
          refine ⟨_, rfl, .inl ⟨rfl, _, SqL.of (by rw [upd_ne nww]; exact ew)⟩, _, rfl, _, rfl, _, _, rfl, rfl, .inl ⟨by decide, by decide⟩, c, _, _, _, rfl, rfl, SqL.of (s3 _ _ ec), (by rw [i1]; exact lvl_at b1), ?_⟩
          refine ⟨_, rfl, _, rfl, _, _, rfl, rfl, .inl ⟨by decide, by decide⟩, _, _, rfl, rfl, c, _, _, _, rfl, rfl, SqL.of (s3 _ _ ec), (by rw [i2]; exact lvl_at b2), _, _, rfl, rfl, ?_⟩
          refine ⟨wd, _, _, rfl, rfl, by rw [upd_ne nww]; exact ew, szl (by rw [List.length_map, List.length_map, List.length_range]; omega), some (V.int (0 + (j : Int))), some (V.int _), rfl, Same.mut s3 nk, ?_, ?_⟩
          · rw [upd_same]
            have := last (cnt m k (2 * j * 2 ^ k) + cnt m k ((2 * j + 1) * 2 ^ k)) (by unfold cnt; rw [cl, if_neg h1, q1, q2]) _ rfl
            rw [← this]
            rfl
          · rw [upd_ne nww.symm, upd_same, lastf]
      · rintro σ H2 ⟨y7, y8, rfl, s2, ew, ewf⟩
        rw [hn, Int.toNat_natCast] at ew ewf
        refine ⟨_, rfl, wd, _, rfl, .inl (SqL.of ew), fun c2 hc2 => ?_⟩
        have s3 := Same.new (o := .lst (((List.range (2 ^ (l - (k + 1)))).map fun i => ((cnt m (k + 1) (i * 2 ^ (k + 1)) : Nat) : Int)).map V.int)) hc2
        refine ⟨_, rfl, wf, _, rfl, .inl (SqL.of (s3 _ _ ewf)), fun f2 hf2 => ?_⟩
        have s4 := Same.new (o := .lst (((List.range (2 ^ (l - (k + 1)))).map fun i => ((ful m (k + 1) (i * 2 ^ (k + 1)) : Nat) : Int)).map V.int)) hf2
        exact ⟨c2, f2, _, _, _, y7, y8, rfl, ((sm.trans s2).trans s3).trans s4, s4 _ _ upd_same, upd_same⟩
    · rintro σ H' ⟨c, f, y4, y5, y6, y7, y8, rfl, sm, ec, ef⟩
      refine ⟨_, rfl, c, _, 0, _, rfl, rfl, SqL.of ec, lvl_at (i := 0) (by rw [Nat.sub_self]; decide), ?_⟩
      rw [Nat.zero_mul]
      exact q H' sm
theorem ok_covers (T : Txt K mg) : FnOk P w K mg base CX0 2 T.f_covers T.fd_covers ["_law_told", "_law_levels", "_law_marks_here"] (sp_covers K) := by
  have G_least : FnOk P w K mg base CX0 1 T.f_least T.fd_least ["_law_levels", "_law_marks_here"] (sp_least K) := ok_least T
  refine T.F_covers.ok sc_covers (fun vs H Q E h => ?_) (fun cdv A outer s H vs Q E hr h => ?_)
  · obtain ⟨p, mk, l, ms, ts, rfl, _⟩ := h
    rfl
  · obtain ⟨p, mk, l, ms, ts, rfl, hl, hp, hb, hS, hlen, hz, q⟩ := h
    refine ⟨_, (pss_cons (ps_if (pt_not (pt_val (pe_callB (r := rIsi K) call_isi (by rfl) T.z_isinstance (by decide +kernel) (pa_cons (pv 0) (pa_cons (pe_bltn (v := .ty "list") (u := .type "list") (by rfl) T.z_list (by decide +kernel) rfl) pa_nil)))))
      (pss_one (ps_ret pe_bl))
      pss_nil)
      (pss_cons (ps_set (i := 3) sc_covers.nd rfl (Or.inl rfl) (pe_callB (r := rLenK K) call_len_seq (by rfl) T.z_len PySem.boot_len (pa_cons (pv 2) pa_nil)))
      (pss_cons (ps_set (i := 4) sc_covers.nd rfl (Or.inl rfl) pe_int)
      (pss_cons (ps_for PassesOwn.never rfl (pi_list (pv 0)) (pg_name (i := 5) sc_covers.nd rfl (Or.inl rfl))
      (pss_cons (ps_if (PW.pt (pw_or (pt_not (pt_val (pe_callB (r := rIsi K) call_isi (by rfl) T.z_isinstance (by decide +kernel) (pa_cons (pv 5) (pa_cons (pe_bltn (v := .ty "tuple") (u := .type "tuple") (by rfl) T.z_tuple (by decide +kernel) rfl) pa_nil))))) (pw_or1 (pt_cmpR op_ne (pe_callB (r := rLenK K) call_len_seq (by rfl) T.z_len PySem.boot_len (pa_cons (pv 5) pa_nil)) pe_int (nomark _)))))
        (pss_one (ps_ret pe_bl))
        pss_nil)
        (pss_cons (ps_for PassesOwn.never rfl (pi_tup (pv 5)) (pg_name (i := 6) sc_covers.nd rfl (Or.inl rfl))
        (pss_one (ps_if (PW.pt (pw_or (pt_not (pt_val (pe_callB (r := rIsi K) call_isi (by rfl) T.z_isinstance (by decide +kernel) (pa_cons (pv 6) (pa_cons (pe_bltn (v := .ty "int") (u := .type "int") (by rfl) T.z_int (by decide +kernel) rfl) pa_nil))))) (pw_or1 (pt_val (pe_callB (r := rIsi K) call_isi (by rfl) T.z_isinstance (by decide +kernel) (pa_cons (pv 6) (pa_cons (pe_bltn (v := .ty "bool") (u := .type "bool") (by rfl) T.z_bool (by decide +kernel) rfl) pa_nil)))))))
          (pss_one (ps_ret pe_bl))
          pss_nil)))
        (pss_cons (ps_set (i := 7) sc_covers.nd rfl (Or.inl rfl) (pe_ix (r := rIxT K) ix_tup (pv 5) pe_int (fun _ _ => rfl)))
        (pss_cons (ps_set (i := 8) sc_covers.nd rfl (Or.inl rfl) (pe_ix (r := rIxT K) ix_tup (pv 5) pe_int (fun _ _ => rfl)))
        (pss_cons (ps_if (PW.pt (pw_or (pt_cmpR op_lt (pv 7) (pv 4) (nomark _)) (pw_or (pt_cmpR op_lt (pv 8) pe_int (nomark _)) (pw_or1 (pt_cmpR op_gt (pe_op op_add (pv 7) (pv 8)) (pv 3) (nomark _))))))
        (pss_one (ps_ret pe_bl))
        pss_nil)
        (pss_cons (ps_if (PW.pt (pw_or (pt_cmpR op_ne (pe_op op_mod (pe_callTy call_int1 (by rfl) T.z_int (by decide +kernel) (pa_cons (pv 3) pa_nil)) (pv 8)) pe_int (nomark _)) (pw_or1 (pt_cmpR op_ne (pe_op op_mod (pe_callTy call_int1 (by rfl) T.z_int (by decide +kernel) (pa_cons (pv 7) pa_nil)) (pv 8)) pe_int (nomark _)))))
        (pss_one (ps_ret pe_bl))
        pss_nil)
        (pss_cons (ps_if (PW.pt (pw_or (pt_cmpR op_ne (pe_callB (r := rSum K) (cr_sum rfl) (by rfl) T.z_sum (by decide +kernel) (pa_cons (pe_slice (r := rSlL K) sl_list (pv 2) (po_some (pv 4)) (po_some (pv 7))) pa_nil)) pe_int (nomark _)) (pw_or1 (pt_cmpR op_ne (pe_callB (r := rSum K) (cr_sum rfl) (by rfl) T.z_sum (by decide +kernel) (pa_cons (pe_slice (r := rSlL K) sl_list (pv 2) (po_some (pv 7)) (po_some (pe_op op_add (pv 7) (pv 8)))) pa_nil)) (pv 8) (nomark _)))))
        (pss_one (ps_ret pe_bl))
        pss_nil)
        (pss_cons (ps_set (i := 9) sc_covers.nd rfl (Or.inl rfl) (pe_op op_sub (pv 7) (pe_op op_mod (pe_callTy call_int1 (by rfl) T.z_int (by decide +kernel) (pa_cons (pv 7) pa_nil)) (pe_op op_mul pe_int (pv 8)))))
        (pss_cons (ps_if (PW.pt (pw_and (pt_cmpR op_le (pe_op op_mul pe_int (pv 8)) (pv 3) (nomark _)) (pw_and1 (pt_cmpR op_eq (pe_callB (r := rSum K) (cr_sum rfl) (by rfl) T.z_sum (by decide +kernel) (pa_cons (pe_slice (r := rSlL K) sl_list (pv 2) (po_some (pv 9)) (po_some (pe_op op_add (pv 9) (pe_op op_mul pe_int (pv 8))))) pa_nil)) (pe_op op_mul pe_int (pv 8)) (nomark _)))))
        (pss_one (ps_ret pe_bl))
        pss_nil)
        (pss_one (ps_set (i := 4) sc_covers.nd rfl (Or.inl rfl) (pe_op op_add (pv 7) (pv 8))))))))))))))
      (pss_one (ps_ret (pe_and (pe_cmpR op_eq (pe_callB (r := rSum K) (cr_sum rfl) (by rfl) T.z_sum (by decide +kernel) (pa_cons (pe_slice (r := rSlL K) sl_list (pv 2) (po_some (pv 4)) po_none) pa_nil)) pe_int (nomark _)) (pe_one (pe_cmpR op_eq (pe_callB (r := rLenK K) call_len_seq (by rfl) T.z_len PySem.boot_len (pa_cons (pv 0) pa_nil)) (pe_call G_least (hr.mono (by omega)) (by rfl) T.g_least T.F_least.kp T.b_least .nil pass0 (pa_cons (pv 1) (pa_cons (pv 2) pa_nil))) (nomark _)))))))))), ?_⟩
    have pl : 2 ^ l ≤ 2 ^ 8 := Nat.pow_le_pow_right (by decide) hl
    have lm : (ms.map V.int).length = 2 ^ l := by rw [List.length_map]; exact hlen
    refine ⟨_, rfl, _, _, _, _, true, rfl, .ty "list", .base (.lst hp), kit_ty (by decide +kernel), _, rfl, iteF ?_⟩
    refine ⟨_, rfl, mk, _, rfl, .inl hS, ?_⟩
    simp only [lm]
    have tl : (ts.map V.ref).length = (cov (on ms) l 0).length := by rw [List.length_map]; exact Paired.length hb
    have chk0 : Chk (on ms) (2 ^ l) 0 (cov (on ms) l 0) (2 ^ l) := by
      have h := cov_chk (on ms) l l 0 (Nat.le_refl _) (Nat.dvd_zero _) fun _ h => absurd h (by have := Nat.two_pow_pos l; omega)
      rw [Nat.zero_add] at h
      exact h
    refine ⟨_, rfl, p, rfl, ⟨_, SqL.of hp⟩, for_list (xs := ts.map V.ref) (fun i σ H' => ∃ (beh : Nat) (y5 y6 y7 y8 y9 : Option V), σ = [some (.ref p), some (.int l), some (.ref mk), some (.int ((2 ^ l : Nat) : Int)), some (.int beh), y5, y6, y7, y8, y9] ∧ Same H H' ∧ Chk (on ms) (2 ^ l) beh ((cov (on ms) l 0).drop i) (2 ^ l))
      ⟨0, none, none, none, none, none, rfl, Same.refl _, chk0⟩ (fun i σ H' _ h => ?_) ?_ ?_⟩
    · obtain ⟨_, _, _, _, _, _, _, sm, _⟩ := h
      exact SqL.of (sm _ _ hp)
    · rintro i x σ H' hx ⟨beh, y5, y6, y7, y8, y9, rfl, sm, chk⟩
      rw [List.getElem?_map] at hx
      obtain ⟨t, ht, rfl⟩ := Option.map_eq_some_iff.mp hx
      obtain ⟨⟨a, z⟩, hbi, hT0⟩ := Paired.at hb ht
      have hT : H' t = some (.tup [.int a, .int z]) := sm _ _ hT0
      have ib : i < (cov (on ms) l 0).length := (List.getElem?_eq_some_iff.mp hbi).1
      have eb : (cov (on ms) l 0)[i] = (a, z) := by
        rw [List.getElem?_eq_getElem ib] at hbi
        exact Option.some.inj hbi
      rw [List.drop_eq_getElem_cons ib, eb] at chk
      obtain ⟨k1, k2, k3, k4, k5, k6, k7, k8, k9⟩ := chk
      simp only [] at k1 k2 k3 k4 k5 k6 k7 k8 k9
      refine ⟨_, rfl, _, _, _, _, true, rfl, .ty "tuple", .base (.tup hT), kit_ty (by decide +kernel), _, rfl, iteF ?_⟩
      refine ⟨_, rfl, t, _, rfl, .inr (SqT.of hT), rfl, _, rfl, iteNS rfl ?_⟩
      refine ⟨_, rfl, t, rfl, ⟨_, SqT.of hT⟩, for_tup (xs := [.int a, .int z]) (fun j σ H2 => H2 = H' ∧ ∃ y6, σ = [some (.ref p), some (.int l), some (.ref mk), some (.int ((2 ^ l : Nat) : Int)), some (.int beh), some (.ref t), y6, y7, y8, y9])
        ⟨rfl, y6, rfl⟩ (fun j σ H2 _ h => by rw [h.1]; exact SqT.of hT) ?_ ?_⟩
      · rintro j x σ H2 hx ⟨rfl, y6, rfl⟩
        have hxi : ∃ m : Int, x = .int m := by
          match j, hx with
          | 0, hx => exact ⟨_, (Option.some.inj hx).symm⟩
          | 1, hx => exact ⟨_, (Option.some.inj hx).symm⟩
          | j + 2, hx => simp at hx
        obtain ⟨m, rfl⟩ := hxi
        refine ⟨_, rfl, _, _, _, _, true, rfl, .ty "int", .base (.int m), kit_ty (by decide +kernel), _, rfl, iteF ?_⟩
        refine ⟨_, rfl, _, _, _, _, false, rfl, .ty "bool", .base (.int m), kit_ty (by decide +kernel), _, rfl, iteF ?_⟩
        exact ⟨rfl, _, rfl⟩
      · rintro σ H2 ⟨rfl, y6, rfl⟩
        refine ⟨_, rfl, t, _, 0, _, rfl, rfl, SqT.of hT, rfl, ?_⟩
        refine ⟨_, rfl, t, _, 1, _, rfl, rfl, SqT.of hT, rfl, ?_⟩
        -- start < behind, size < 1, start + size > whole
        refine ⟨_, rfl, _, rfl, _, _, rfl, rfl, _, rfl, iteD0 (by omega) ?_⟩
        refine ⟨_, rfl, _, _, rfl, rfl, _, rfl, iteD0 (by omega) ?_⟩
        refine ⟨_, rfl, _, rfl, _, _, rfl, rfl, _, rfl, _, _, rfl, rfl, _, rfl, iteD0 (by omega) ?_⟩
        -- the sizes divide
        refine ⟨_, rfl, .inl ⟨_, rfl, _, rfl, _, _, rfl, rfl, (by omega : (0 : Int) < (z : Int)), rfl, _, rfl, iteNS (congrArg V.int (mod_cast0 k4)) ?_⟩⟩
        refine ⟨_, rfl, .inl ⟨_, rfl, _, rfl, _, _, rfl, rfl, (by omega : (0 : Int) < (z : Int)), rfl, _, rfl, iteNS (congrArg V.int (mod_cast0 k5)) ?_⟩⟩
        -- nothing between, all within
        refine ⟨_, rfl, _, rfl, _, rfl, _, rfl, _, rfl, mk, _, rfl, sm.seq hS, fun c1 hc1 => ?_⟩
        have S1 := sm.trans (Same.new (o := .lst (cutV (ms.map V.int) (some (beh : Int)) (some (a : Int)))) hc1)
        refine ⟨c1, cut ms beh (a - beh), rfl, SqL.of (by rw [upd_same, cutV_nat k1 (by omega)]), rfl, _, rfl, iteNS (congrArg V.int (cut_zero hz (by rw [show beh + (a - beh) = a by omega]; exact k6))) ?_⟩
        refine ⟨_, rfl, _, rfl, _, rfl, _, rfl, _, rfl, _, _, rfl, rfl, _, rfl, mk, _, rfl, S1.seq hS, fun c2 hc2 => ?_⟩
        have e2 : (a : Int) + (z : Int) = ((a + z : Nat) : Int) := rfl
        have S2 := S1.trans (Same.new (o := .lst (cutV (ms.map V.int) (some (a : Int)) (some ((a : Int) + (z : Int))))) hc2)
        refine ⟨c2, cut ms a z, rfl, SqL.of (by rw [upd_same, e2, cutV_nat (by omega) (by omega), Nat.add_sub_cancel_left]), _, rfl, rfl, _, rfl, iteNS (congrArg V.int ((cut_full hz (by omega)).mpr k7)) ?_⟩
        -- no larger block
        refine ⟨_, rfl, _, rfl, .inl ⟨_, rfl, _, rfl, _, _, rfl, rfl, .inl ⟨by decide, by decide⟩, _, _, rfl, rfl, (by show (0 : Int) < 2 * (z : Int); omega), _, _, rfl, rfl, ?_⟩⟩
        have ok := outer_cast a z
        simp only [ok]
        have next : ∃ beh' : Nat, (a : Int) + (z : Int) = (beh' : Int) ∧ Chk (on ms) (2 ^ l) beh' ((cov (on ms) l 0).drop (i + 1)) (2 ^ l) := ⟨a + z, rfl, k9⟩
        refine ⟨_, rfl, _, _, rfl, rfl, .inl ⟨by decide, by decide⟩, _, rfl, _, _, rfl, rfl, _, rfl, ite2 (fun h => ?_) (fun h => ?_)⟩
        · have h2 : 2 * z ≤ 2 ^ l := by
            have := of_decide_eq_true h
            omega
          have hout : a - a % (2 * z) + 2 * z ≤ 2 ^ l := by
            have d1 : 2 * z ∣ 2 ^ l := by
              obtain ⟨j, _, hj⟩ := cov_pow (on ms) l 0 (a, z) (List.mem_of_getElem? hbi)
              have hj' : z = 2 ^ j := hj
              rw [hj'] at h2 ⊢
              exact two_dvd h2
            have d2 : 2 * z ∣ a - a % (2 * z) := Nat.dvd_sub_mod a
            have hz2 : 0 < 2 * z := by omega
            obtain ⟨u, hu⟩ := d1
            obtain ⟨v, hv⟩ := d2
            have lt : a - a % (2 * z) < 2 ^ l := by omega
            rw [hu, hv] at lt
            have vu : v < u := Nat.lt_of_mul_lt_mul_left lt
            rw [hu, hv]
            calc 2 * z * v + 2 * z = 2 * z * (v + 1) := by rw [Nat.mul_add, Nat.mul_one]
              _ ≤ 2 * z * u := Nat.mul_le_mul_left _ vu
          have e3 : ((a - a % (2 * z) : Nat) : Int) + 2 * (z : Int) = ((a - a % (2 * z) + 2 * z : Nat) : Int) := by omega
          refine ⟨_, rfl, _, rfl, _, rfl, _, rfl, _, rfl, _, _, rfl, rfl, .inl ⟨by decide, by decide⟩, _, _, rfl, rfl, _, rfl, mk, _, rfl, S2.seq hS, fun c3 hc3 => ?_⟩
          have S3 := S2.trans (Same.new (o := .lst (cutV (ms.map V.int) (some ((a - a % (2 * z) : Nat) : Int)) (some (((a - a % (2 * z) : Nat) : Int) + 2 * (z : Int))))) hc3)
          refine ⟨c3, cut ms (a - a % (2 * z)) (2 * z), rfl, SqL.of (by rw [upd_same, e3, cutV_nat (by omega) (by omega), Nat.add_sub_cancel_left]), _, rfl, _, _, rfl, rfl, .inl ⟨by decide, by decide⟩, rfl, _, rfl, iteD0 (fun w => ?_) ?_⟩
          · have w' : (cut ms (a - a % (2 * z)) (2 * z)).sum = ((2 * z : Nat) : Int) := (V.int.inj w).trans (by omega)
            exact k8 h2 ((cut_full hz (by omega)).mp w')
          · exact ⟨_, rfl, _, rfl, _, _, rfl, rfl, a + z, _, _, _, _, _, rfl, S3, k9⟩
        · exact iteF ⟨_, rfl, _, rfl, _, _, rfl, rfl, a + z, _, _, _, _, _, rfl, S2, k9⟩
    · rintro σ H' ⟨beh, y5, y6, y7, y8, y9, rfl, sm, chk⟩
      rw [tl, List.drop_length] at chk
      obtain ⟨k1, k2⟩ := chk
      refine ⟨_, rfl, _, rfl, _, rfl, mk, _, rfl, sm.seq hS, fun c1 hc1 => ?_⟩
      have S1 := sm.trans (Same.new (o := .lst (cutV (ms.map V.int) (some (beh : Int)) none)) hc1)
      refine ⟨c1, cut ms beh (ms.length - beh), rfl, SqL.of (by rw [upd_same, cutV_rest (by omega)]), rfl, _, rfl, ?_⟩
      rw [decide_eq_true (congrArg V.int (cut_zero hz (by rw [show beh + (ms.length - beh) = 2 ^ l by omega]; exact k2)))]
      refine iteT ⟨_, rfl, p, _, rfl, .inl (SqL.of (S1 _ _ hp)), _, rfl, _, rfl, l, mk, ms, rfl, hl, S1.seq hS, hlen, hz, fun H2 S2 => ⟨rfl, ?_⟩⟩
      rw [tl, decide_eq_true rfl]
      exact q H2 (S1.trans S2)
theorem ok_change (T : Txt K mg) : FnOk P w K mg base CX0 1 T.f_change T.fd_change ["_law_listed", "_law_marks_here", "_law_place"] sp_change := by
  refine T.F_change.ok sc_change (fun vs H Q E h => ?_) (fun cdv A outer s H vs Q E hr h => ?_)
  · obtain ⟨li, mk, ls, ms, x, rfl, _⟩ := h
    rfl
  · obtain ⟨li, mk, ls, ms, x, rfl, el, em, nlm, hx, hz, hL, hll, q⟩ := h
    refine ⟨_, (pss_cons (ps_if (pt_cmpR op_eq (pe_ix (r := rIxL K) ix_list (pv 1) (pv 2) (fun _ _ => rfl)) pe_int (nomark _))
      (pss_one (ps_expr (pe_bm PySem.F.plainAttrs_list PySem.F.slot_list_append PySem.F.type_list_append mt_append (pv 0) (pa_cons (pv 2) pa_nil))))
      pss_nil)
      (pss_cons (ps_for PassesOwn.never rfl (pi_range1 (by rfl) T.z_range (pa_cons (pe_callB (r := rLenK K) call_len_seq (by rfl) T.z_len PySem.boot_len (pa_cons (pv 0) pa_nil)) pa_nil)) (pg_name (i := 3) sc_change.nd rfl (Or.inl rfl))
      (pss_one (ps_if (PW.pt (pw_and (pt_cmpR op_eq (pe_ix (r := rIxL K) ix_list (pv 1) (pv 2) (fun _ _ => rfl)) pe_int (nomark _)) (pw_and1 (pt_cmpR (r := rIn K false) op_in_seq (pv 2) (pv 0) (by rfl)))))
        (pss_one (ps_expr (pe_bm PySem.F.plainAttrs_list PySem.F.slot_list_remove PySem.F.type_list_remove mt_remove (pv 0) (pa_cons (pv 2) pa_nil))))
        pss_nil)))
      (pss_cons (ps_asg (pe_op op_sub pe_int (pe_ix (r := rIxL K) ix_list (pv 1) (pv 2) (fun _ _ => rfl))) (pg_sub (pv 1) (pv 2) set_list))
      (pss_one (ps_ret (pe_callTy (r := rListK K) call_list_of (by rfl) T.z_list (by decide +kernel) (pa_cons (pv 0) pa_nil))))))), ?_⟩
    have g : ms[x]? = some ms[x] := List.getElem?_eq_getElem hx
    -- the end: from the list and its marks, of which one is turned
    have fin : ∀ (H' : Hp) (ls' : List Int) (y : Option V), (∀ b o, b ≠ li → b ≠ mk → H b = some o → H' b = some o) → H' li = some (.lst (ls'.map V.int)) → H' mk = some (.lst (ms.map V.int)) → ls'.length ≤ ls.length + 1 → Lists ls' (ms.set x (1 - ms[x])) → ∀ p, (∀ b, H' b = none → H b = none) →
        H' p = none → Q (.ref p) (upd (upd H' mk (.lst ((ms.map V.int).set x (.int (1 - ms[x]))))) p (.lst (ls'.map V.int))) := by
      intro H' ls' y fr e1 e2 l1 hL' p back hp
      have npl : li ≠ p := ne_of_none e1 hp
      have npm : mk ≠ p := ne_of_none e2 hp
      refine q _ p ls' (ms.set x (1 - ms[x])) (fun b o n1 n2 e => ?_) (back _ hp) ?_ ?_ upd_same (by rw [List.length_set]) ?_ hL' l1
      · have := fr b o n1 n2 e
        rw [upd_ne (ne_of_none this hp), upd_ne n2]
        exact this
      · rw [upd_ne npl, upd_ne nlm]
        exact e1
      · rw [upd_ne npm, upd_same, List.map_set]
      · refine zo_set hz ?_
        rcases hz _ (List.getElem_mem hx) with w | w <;> rw [w] <;> decide
    refine ⟨_, rfl, _, rfl, mk, _, _, _, rfl, rfl, SqL.of em, at_int hx, rfl, _, rfl, ite2 (fun h => ?_) (fun h => ?_)⟩
    · -- a place is added
      have h0 : ms[x] = 0 := V.int.inj (of_decide_eq_true h)
      refine ⟨_, rfl, .inl ⟨rfl, _, SqL.of el⟩, _, rfl, li, _, _, rfl, rfl, el, szl (by rw [List.length_map]; omega), ?_⟩
      have em' : (upd H li (.lst (ls.map V.int ++ [.int x]))) mk = some (.lst (ms.map V.int)) := by rw [upd_ne nlm.symm]; exact em
      refine ⟨_, rfl, li, _, rfl, .inl (SqL.of upd_same), _, rfl, by rw [List.length_append, List.length_map]; show -(2 ^ 62) ≤ ((ls.length + 1 : Nat) : Int); omega, by rw [List.length_append, List.length_map]; show ((ls.length + 1 : Nat) : Int) < 2 ^ 62; omega, for_range (fun i σ H' => H' = upd H li (.lst (ls.map V.int ++ [.int x])) ∧ ∃ y, σ = [some (.ref li), some (.ref mk), some (.int x), y]) ⟨rfl, none, rfl⟩ ?_ ?_⟩
      · rintro i σ H' hi ⟨rfl, y, rfl⟩
        refine ⟨_, rfl, _, rfl, mk, _, _, _, rfl, rfl, SqL.of em', at_int hx, rfl, _, rfl, ?_⟩
        rw [h0]
        exact iteD0 (fun z => by cases z) ⟨rfl, _, rfl⟩
      · rintro σ H' ⟨rfl, y, rfl⟩
        refine ⟨_, rfl, _, rfl, mk, _, _, _, rfl, rfl, SqL.of em', at_int hx, _, _, rfl, rfl, ?_⟩
        refine ⟨_, rfl, _, rfl, mk, _, _, x, rfl, rfl, em', ?_, ?_⟩
        · rw [ixN_at (by omega) (by rw [List.length_map]; omega)]
          rfl
        refine ⟨_, rfl, li, _, rfl, .inl (SqL.of (by rw [upd_ne nlm]; exact upd_same)), fun p hp => ?_⟩
        have hp' : (upd H li (.lst (ls.map V.int ++ [.int x]))) p = none := by
          by_cases e : p = mk
          · subst e
            rw [upd_same] at hp
            cases hp
          · rw [upd_ne e] at hp
            exact hp
        have r := fin _ (ls ++ [(x : Int)]) none (fun b o n1 n2 e => by rw [upd_ne n1]; exact e) (by rw [upd_same, ← map_snoc]) em' (by rw [List.length_append]; exact Nat.le_refl _) (fun v => ?_) p (fun b hb => ?_) hp'
        · rw [← map_snoc] at r
          exact r
        · rw [List.mem_append, List.mem_singleton, hL v, h0]
          constructor
          · rintro (⟨j, rfl, h2⟩ | rfl)
            · refine ⟨j, rfl, ?_⟩
              by_cases e : x = j
              · subst e
                rw [List.getElem?_set_self hx]
                rfl
              · rw [List.getElem?_set_ne e]
                exact h2
            · exact ⟨x, rfl, by rw [List.getElem?_set_self hx]; rfl⟩
          · rintro ⟨j, rfl, h2⟩
            by_cases e : x = j
            · exact .inr (by rw [e])
            · rw [List.getElem?_set_ne e] at h2
              exact .inl ⟨j, rfl, h2⟩
        · by_cases e : b = li
          · subst e
            rw [upd_same] at hb
            cases hb
          · rw [upd_ne e] at hb
            exact hb
    · -- a place is taken out
      have h1 : ms[x] = 1 := by
        rcases hz _ (List.getElem_mem hx) with w | w
        · exact absurd (decide_eq_true (by rw [w])) h
        · exact w
      have inx : (x : Int) ∈ ls := (hL _).mpr ⟨x, rfl, by rw [g, h1]⟩
      refine ⟨_, rfl, li, _, rfl, .inl (SqL.of el), _, rfl, by rw [List.length_map]; omega, by rw [List.length_map]; omega, for_range (fun i σ H' => ∃ (ns : List Int) (y : Option V), σ = [some (.ref li), some (.ref mk), some (.int x), y] ∧ (∀ b o, b ≠ li → H b = some o → H' b = some o) ∧ (∀ b, H' b = none → H b = none) ∧ H' li = some (.lst (ns.map V.int)) ∧ ns.length ≤ ls.length ∧ ns.count (x : Int) ≤ ls.length - i ∧ ∀ v : Int, v ≠ (x : Int) → (v ∈ ns ↔ v ∈ ls))
        ⟨ls, none, rfl, fun _ _ _ e => e, fun _ e => e, el, Nat.le_refl _, List.count_le_length, fun _ _ => Iff.rfl⟩ ?_ ?_⟩
      · rintro i σ H' hi ⟨ns, y, rfl, fr, back, en, ln, cn, mn⟩
        have em' := fr _ _ nlm.symm em
        rw [List.length_map, Int.toNat_natCast] at hi
        refine ⟨_, rfl, _, rfl, mk, _, _, _, rfl, rfl, SqL.of em', at_int hx, rfl, _, rfl, ?_⟩
        rw [h1]
        refine iteD1 rfl ⟨_, rfl, _, rfl, li, _, rfl, .inl (SqL.of en), rfl, flat_ints ns, _, rfl, ?_⟩
        show if inV (.int x) (ns.map V.int) = true then _ else _
        rw [inV_ints]
        refine ite2 (fun h => ?_) (fun h => ?_)
        · obtain ⟨j, j1, j2⟩ := first_at (of_decide_eq_true h)
          have ec := er_count j1
          refine ⟨_, rfl, .inl ⟨rfl, _, SqL.of en⟩, _, rfl, li, ns, x, j, rfl, rfl, en, j1, j2, ns.eraseIdx j, _, rfl, fun b o nb e => ?_, fun b hb => ?_, upd_same, ?_, ?_, fun v hv => ?_⟩
          · rw [upd_ne nb]
            exact fr b o nb e
          · by_cases e : b = li
            · subst e
              rw [upd_same] at hb
              cases hb
            · rw [upd_ne e] at hb
              exact back b hb
          · have := List.length_eraseIdx_le ns j
            omega
          · omega
          · rw [er_mem hv j1]
            exact mn v hv
        · refine ⟨ns, _, rfl, fr, back, en, ln, ?_, mn⟩
          have : ns.count (x : Int) = 0 := List.count_eq_zero.mpr fun z => h (decide_eq_true z)
          omega
      · rintro σ H' ⟨ns, y, rfl, fr, back, en, ln, cn, mn⟩
        have em' := fr _ _ nlm.symm em
        rw [List.length_map, Int.toNat_natCast] at cn
        have nox : (x : Int) ∉ ns := List.count_eq_zero.mp (by omega)
        refine ⟨_, rfl, _, rfl, mk, _, _, _, rfl, rfl, SqL.of em', at_int hx, _, _, rfl, rfl, ?_⟩
        refine ⟨_, rfl, _, rfl, mk, _, _, x, rfl, rfl, em', ?_, ?_⟩
        · rw [ixN_at (by omega) (by rw [List.length_map]; omega)]
          rfl
        refine ⟨_, rfl, li, _, rfl, .inl (SqL.of (by rw [upd_ne nlm]; exact en)), fun p hp => ?_⟩
        have hp' : H' p = none := by
          by_cases e : p = mk
          · subst e
            rw [upd_same] at hp
            cases hp
          · rw [upd_ne e] at hp
            exact hp
        refine fin H' ns none (fun b o n1 _ e => fr b o n1 e) en em' (by omega) (fun v => ?_) p back hp'
        rw [h1]
        by_cases e : v = (x : Int)
        · subst e
          constructor
          · intro w
            exact absurd w nox
          · rintro ⟨j, j1, j2⟩
            have : x = j := by omega
            subst this
            rw [List.getElem?_set_self hx] at j2
            cases j2
        · rw [mn v e, hL v]
          constructor
          · rintro ⟨j, rfl, h2⟩
            exact ⟨j, rfl, by rw [List.getElem?_set_ne (fun z => e (by rw [z]))]; exact h2⟩
          · rintro ⟨j, rfl, h2⟩
            rw [List.getElem?_set_ne (fun z => e (by rw [z]))] at h2
            exact ⟨j, rfl, h2⟩
theorem ok_law (T : Txt K mg) : FnOk P w K mg base CX0 11 T.f_law T.fd_law ["_law_script"] (sp_law K) := by
  have G_open : FnOk P w K mg base CX0 1 T.f_open T.fd_open ["_law_script", "_law_at"] (sp_open K) := ok_open T
  have G_take : FnOk P w K mg base CX0 1 T.f_take T.fd_take ["_law_box", "_law_size"] sp_take := ok_take T
  have G_whole : FnOk P w K mg base CX0 1 T.f_whole T.fd_whole ["_law_levels"] sp_whole := ok_whole T
  have G_marks : FnOk P w K mg base CX0 2 T.f_marks T.fd_marks ["_law_box", "_law_whole_here"] sp_marks := ok_marks T
  have G_handed : FnOk P w K mg base CX0 2 T.f_handed T.fd_handed ["_law_box", "_law_marks_here"] sp_handed := ok_handed T
  have G_covers : FnOk P w K mg base CX0 2 T.f_covers T.fd_covers ["_law_told", "_law_levels", "_law_marks_here"] (sp_covers K) := ok_covers T
  have G_change : FnOk P w K mg base CX0 1 T.f_change T.fd_change ["_law_listed", "_law_marks_here", "_law_place"] sp_change := ok_change T
  have G_least_cover : FnOk P w K mg base CX0 10 T.f_least_cover T.fd_least_cover ["depth", "places"] (sp_least_cover K) := ok_least_cover T
  refine T.F_law.ok sc_law (fun vs H Q E h => ?_) (fun cdv A outer s H vs Q E hr h => ?_)
  · obtain ⟨a, ns, rfl, _⟩ := h
    rfl
  · obtain ⟨a, ns, rfl, hS, hlen, q⟩ := h
    refine ⟨_, (pss_cons (ps_set (i := 1) sc_law.nd rfl (Or.inl rfl) (pe_call G_open (hr.mono (by omega)) (by rfl) T.g_open T.F_open.kp T.b_open .nil pass0 (pa_cons (pv 0) (pa_cons pe_int pa_nil))))
      (pss_cons (ps_set (i := 2) sc_law.nd rfl (Or.inl rfl) (pe_call G_take (hr.mono (by omega)) (by rfl) T.g_take T.F_take.kp T.b_take .nil pass0 (pa_cons (pv 1) (pa_cons pe_int pa_nil))))
      (C8.pss_cut (ps_if (pt_cmpR op_eq (pe_call G_take (hr.mono (by omega)) (by rfl) T.g_take T.F_take.kp T.b_take .nil pass0 (pa_cons (pv 1) (pa_cons pe_int pa_nil))) pe_int (nomark _))
      (pss_one (ps_set (i := 2) sc_law.nd rfl (Or.inl rfl) (pe_op op_add (pv 2) pe_int)))
      pss_nil)
      (pss_cons (ps_set (i := 3) sc_law.nd rfl (Or.inl rfl) (pe_call G_marks (hr.mono (by omega)) (by rfl) T.g_marks T.F_marks.kp T.b_marks .nil pass0 (pa_cons (pv 1) (pa_cons (pe_call G_whole (hr.mono (by omega)) (by rfl) T.g_whole T.F_whole.kp T.b_whole .nil pass0 (pa_cons (pv 2) pa_nil)) pa_nil))))
      (pss_cons (ps_set (i := 4) sc_law.nd rfl (Or.inl rfl) (pe_call G_handed (hr.mono (by omega)) (by rfl) T.g_handed T.F_handed.kp T.b_handed .nil pass0 (pa_cons (pe_call G_open (hr.mono (by omega)) (by rfl) T.g_open T.F_open.kp T.b_open .nil pass0 (pa_cons (pv 0) (pa_cons pe_int pa_nil))) (pa_cons (pv 3) pa_nil))))
      (pss_cons (ps_set (i := 5) sc_law.nd rfl (Or.inl rfl) (pe_callTy (r := rListK K) call_list_of (by rfl) T.z_list (by decide +kernel) (pa_cons (pv 4) pa_nil)))
      (pss_cons (ps_set (i := 6) sc_law.nd rfl (Or.inl rfl) (pe_call G_least_cover (hr.mono (by omega)) (by rfl) T.g_least_cover T.F_least_cover.kp T.b_least_cover .nil pass0 (pa_cons (pv 2) (pa_cons (pv 5) pa_nil))))
      (pss_cons (ps_if (PW.pt (pw_or (pt_not (pt_val (pe_call G_covers (hr.mono (by omega)) (by rfl) T.g_covers T.F_covers.kp T.b_covers .nil pass0 (pa_cons (pv 6) (pa_cons (pv 2) (pa_cons (pv 3) pa_nil)))))) (pw_or1 (pt_cmpR (r := rNeD K) (op_neD hr.units) (pv 5) (pv 4) (nomark _)))))
      (pss_one (ps_ret pe_bl))
      pss_nil)
      (pss_cons (ps_expr (pe_bm PySem.F.plainAttrs_list PySem.F.slot_list_append PySem.F.type_list_append mt_append (pv 6) (pa_cons (pe_tup (pa_cons pe_int (pa_cons pe_int pa_nil))) pa_nil)))
      (pss_cons (ps_asg (pe_tup (pa_cons (pe_callB (r := rLenK K) call_len_seq (by rfl) T.z_len PySem.boot_len (pa_cons (pv 3) pa_nil)) (pa_cons pe_int pa_nil))) (pg_sub (pv 6) pe_int set_list))
      (pss_cons (ps_if (PW.pt (pw_or (pt_not (pt_val (pe_call G_covers (hr.mono (by omega)) (by rfl) T.g_covers T.F_covers.kp T.b_covers .nil pass0 (pa_cons (pe_call G_least_cover (hr.mono (by omega)) (by rfl) T.g_least_cover T.F_least_cover.kp T.b_least_cover .nil pass0 (pa_cons (pv 2) (pa_cons (pv 5) pa_nil))) (pa_cons (pv 2) (pa_cons (pv 3) pa_nil)))))) (pw_or1 (pt_cmpR (r := rNeD K) (op_neD hr.units) (pv 5) (pv 4) (nomark _)))))
      (pss_one (ps_ret pe_bl))
      pss_nil)
      (pss_cons (ps_set (i := 4) sc_law.nd rfl (Or.inl rfl) (pe_call G_change (hr.mono (by omega)) (by rfl) T.g_change T.F_change.kp T.b_change .nil pass0 (pa_cons (pv 5) (pa_cons (pv 3) (pa_cons (pe_call G_take (hr.mono (by omega)) (by rfl) T.g_take T.F_take.kp T.b_take .nil pass0 (pa_cons (pe_call G_open (hr.mono (by omega)) (by rfl) T.g_open T.F_open.kp T.b_open .nil pass0 (pa_cons (pv 0) (pa_cons pe_int pa_nil))) (pa_cons (pe_callB (r := rLenK K) call_len_seq (by rfl) T.z_len PySem.boot_len (pa_cons (pv 3) pa_nil)) pa_nil))) pa_nil)))))
      (pss_cons (ps_if (PW.pt (pw_or (pt_not (pt_val (pe_call G_covers (hr.mono (by omega)) (by rfl) T.g_covers T.F_covers.kp T.b_covers .nil pass0 (pa_cons (pe_call G_least_cover (hr.mono (by omega)) (by rfl) T.g_least_cover T.F_least_cover.kp T.b_least_cover .nil pass0 (pa_cons (pv 2) (pa_cons (pv 5) pa_nil))) (pa_cons (pv 2) (pa_cons (pv 3) pa_nil)))))) (pw_or1 (pt_cmpR (r := rNeD K) (op_neD hr.units) (pv 5) (pv 4) (nomark _)))))
      (pss_one (ps_ret pe_bl))
      pss_nil)
      (pss_cons (ps_if (pt_cmpR op_eq (pv 2) pe_int (nomark _))
      (pss_one (ps_ret pe_bl))
      pss_nil)
      (pss_one (ps_ret (pe_call G_covers (hr.mono (by omega)) (by rfl) T.g_covers T.F_covers.kp T.b_covers .nil pass0 (pa_cons (pe_call G_least_cover (hr.mono (by omega)) (by rfl) T.g_least_cover T.F_least_cover.kp T.b_least_cover .nil pass0 (pa_cons (pe_op op_add (pv 2) pe_int) (pa_cons (pv 5) pa_nil))) (pa_cons (pe_op op_add (pv 2) pe_int) (pa_cons (pe_op op_cat (pv 3) (pe_lc (own := [("_law_k", 7)]) (g := gName 7) (tt := tYes) rfl sc_law.nd (pi_range1 (by rfl) T.z_range (pa_cons (pe_callB (r := rLenK K) call_len_seq (by rfl) T.z_len PySem.boot_len (pa_cons (pv 3) pa_nil)) pa_nil)) (blkOk_by (own := [("_law_k", 7)]) (N := N_law) (sc := defScope s_law) (by decide +kernel)) (fun _ _ _ _ _ => (pg_name (i := 7) sc_law.nd rfl (Or.inl rfl))) (fun _ _ _ _ _ => pts_nil) (fun _ _ _ _ _ => pe_int))) pa_nil)))))))))))))))))))), ?_⟩
    refine ⟨_, rfl, a, ns, 0, rfl, hS, fun b0 o0 hb0 ho0 => ?_⟩
    refine ⟨_, rfl, b0, 6, rfl, ⟨o0, upd_same, ho0⟩, by decide, by decide, fun d H2 d0 d6 B2 N2 => ?_⟩
    obtain ⟨d, rfl⟩ := Int.eq_ofNat_of_zero_le d0
    refine ⟨fun σ H' => ∃ l : Nat, l ≤ 8 ∧ σ = [some (.ref a), some (.ref b0), some (.int l), none, none, none, none, none] ∧ But b0 (upd H b0 o0) H', ?_, ?_⟩
    · refine ⟨_, rfl, b0, 8, rfl, B2.2, by decide, by decide, fun d2 H3 _ _ B3 _ => ?_⟩
      refine ⟨rfl, _, rfl, ite2 (fun h => ?_) (fun h => ?_)⟩
      · exact ⟨_, rfl, _, _, rfl, rfl, d + 3, by omega, rfl, B2.trans B3⟩
      · exact ⟨d, by omega, rfl, B2.trans B3⟩
    rintro σ H3 ⟨l, hl, rfl, B3⟩
    have pl : 2 ^ l ≤ 2 ^ 8 := Nat.pow_le_pow_right (by decide) hl
    have pl0 := Nat.two_pow_pos l
    have S3 : Same H H3 := B3.same_of (Same.new hb0) hb0
    refine ⟨_, rfl, _, rfl, l, rfl, by omega, b0, 2 ^ l, rfl, B3.2, pl0, pl, fun H4 mk ms B4 n4 e4 l4 z4 => ?_⟩
    have S4 : Same H H4 := B4.same_of S3 hb0
    refine ⟨_, rfl, a, ns, 1, rfl, S4.seq hS, fun b1 o1 hb1 ho1 => ?_⟩
    have S5 : Same H4 (upd H4 b1 o1) := Same.new hb1
    refine ⟨_, rfl, b1, mk, ms, rfl, ⟨o1, upd_same, ho1⟩, S5 _ _ e4, (ne_of_none e4 hb1).symm, by omega, fun H6 hd hs B6 n6 e6 l6 m6 => ?_⟩
    have S6 : Same H4 H6 := B6.same_of S5 hb1
    refine ⟨_, rfl, hd, _, rfl, .inl (SqL.of e6), fun mi hmi => ?_⟩
    have S7 : Same H6 (upd H6 mi (.lst (hs.map V.int))) := Same.new hmi
    have mk7 := S7 _ _ (S6 _ _ e4)
    have hd7 := S7 _ _ e6
    have mi7 : (upd H6 mi (.lst (hs.map V.int))) mi = some (.lst (hs.map V.int)) := upd_same
    have sc7 : SqL K (upd H6 mi (.lst (hs.map V.int))) a (ns.map V.int) := S7.seq (S6.seq (S4.seq hS))
    revert mk7 hd7 mi7 sc7
    generalize upd H6 mi (.lst (hs.map V.int)) = H7
    intro mk7 hd7 mi7 sc7
    have L7 : Lists hs ms := m6
    have nmm : mi ≠ mk := by
      intro e
      subst e
      have := S6 _ _ e4
      rw [hmi] at this
      cases this
    clear S7 hmi S6 e6 n6 B6 S5 ho1 hb1 S4 B4 n4 e4 S3 B3 B2 N2
    -- the first cover
    refine ⟨_, rfl, _, rfl, l, mi, hs, on ms, rfl, SqL.of mi7, hl, by omega, L7.mark, fun H8 p8 ts8 S8 n8 e8 b8 => ?_⟩
    refine ⟨_, rfl, _, rfl, _, rfl, p8, mk, l, ms, ts8, rfl, hl, e8, b8, SqL.of (S8 _ _ mk7), l4, z4, fun H9 S9 => ⟨_, rfl, iteF ?_⟩⟩
    have S79 := S8.trans S9
    refine ⟨_, rfl, _, rfl, _, _, .lst (SqL.of (S79 _ _ mi7)) (dp_ints hs), .lst (SqL.of (S79 _ _ hd7)) (dp_ints hs), shaped_list hs, shaped_list hs, _, rfl, ?_⟩
    rw [eqv_same]
    refine iteF ?_
    refine ⟨_, rfl, .inl ⟨rfl, _, SqL.of (S9 _ _ e8)⟩, sz (by show 2 ≤ 100000; decide), fun t9 ht9 => ?_⟩
    have c8 := Paired.length b8
    have c8' := cov_len_le (on ms) l 0
    refine ⟨p8, _, _, rfl, rfl, (Same.new ht9) _ _ (S9 _ _ e8), szl (by rw [List.length_map]; omega), ?_⟩
    have S10 : Same H7 (upd (upd H9 t9 (.tup [.int 0, .int 1])) p8 (.lst (ts8.map V.ref ++ [V.ref t9]))) := Same.mut (S79.trans (Same.new ht9)) n8
    refine ⟨_, rfl, mk, _, rfl, .inl (SqL.of (S10 _ _ mk7)), sz (by show 2 ≤ 100000; decide), fun t10 ht10 => ?_⟩
    refine ⟨_, rfl, p8, _, 0, 0, rfl, rfl, (Same.new ht10) _ _ upd_same, ?_, ?_⟩
    · rw [ixN_at (by decide) (by rw [List.length_append]; show (0 : Int) < (((ts8.map V.ref).length + 1 : Nat) : Int); omega)]
      rfl
    -- the same again
    have S11 := Same.mut (o := .lst ((ts8.map V.ref ++ [V.ref t9]).set 0 (V.ref t10))) (S10.trans (Same.new (o := .tup [.int ((ms.map V.int).length : Nat), .int 1]) ht10)) n8
    refine ⟨_, rfl, _, rfl, l, mi, hs, on ms, rfl, SqL.of (S11 _ _ mi7), hl, by omega, L7.mark, fun H12 p12 ts12 S12 n12 e12 b12 => ?_⟩
    have S12' := S11.trans S12
    refine ⟨_, rfl, _, rfl, p12, mk, l, ms, ts12, rfl, hl, e12, b12, SqL.of (S12' _ _ mk7), l4, z4, fun H13 S13 => ⟨_, rfl, iteF ?_⟩⟩
    have S713 := S12'.trans S13
    refine ⟨_, rfl, _, rfl, _, _, .lst (SqL.of (S713 _ _ mi7)) (dp_ints hs), .lst (SqL.of (S713 _ _ hd7)) (dp_ints hs), shaped_list hs, shaped_list hs, _, rfl, ?_⟩
    rw [eqv_same]
    refine iteF ?_
    -- a place more or less
    refine ⟨_, rfl, _, rfl, _, rfl, a, ns, 2, rfl, S713.seq sc7, fun b2 o2 hb2 ho2 => ?_⟩
    refine ⟨_, rfl, mk, _, rfl, .inl (SqL.of ((Same.new hb2) _ _ (S713 _ _ mk7))), b2, _, rfl, ⟨o2, upd_same, ho2⟩, by rw [List.length_map]; omega, by rw [List.length_map]; omega, fun x H15 x0 xl B15 N15 => ?_⟩
    obtain ⟨x, rfl⟩ := Int.eq_ofNat_of_zero_le x0
    have S15 : Same H13 H15 := B15.same_of (Same.new hb2) hb2
    have S715 := S713.trans S15
    refine ⟨mi, mk, hs, ms, x, rfl, S715 _ _ mi7, S715 _ _ mk7, nmm, by rw [List.length_map] at xl; omega, z4, L7, by omega, fun H16 p16 ls ms' fr16 n16 mi16 mk16 e16 l16 z16 L16 ll16 => ?_⟩
    rw [l4] at l16
    refine ⟨_, rfl, _, rfl, l, mi, ls, on ms', rfl, SqL.of mi16, hl, by omega, L16.mark, fun H17 p17 ts17 S17 n17 e17 b17 => ?_⟩
    refine ⟨_, rfl, _, rfl, p17, mk, l, ms', ts17, rfl, hl, e17, b17, SqL.of (S17 _ _ mk16), l16, z16, fun H18 S18 => ⟨_, rfl, iteF ?_⟩⟩
    have S1618 := S17.trans S18
    refine ⟨_, rfl, _, rfl, _, _, .lst (SqL.of (S1618 _ _ mi16)) (dp_ints ls), .lst (SqL.of (S1618 _ _ e16)) (dp_ints ls), shaped_list ls, shaped_list ls, _, rfl, ?_⟩
    rw [eqv_same]
    refine iteF ?_
    refine ⟨_, rfl, rfl, _, rfl, ite2 (fun h => q _) (fun h => ?_)⟩
    have hl7 : l + 1 ≤ 8 := by
      rcases Nat.lt_or_ge l 8 with z | z
      · exact z
      · exact absurd (decide_eq_true (show V.int (l : Int) = V.int 8 by rw [show l = 8 by omega]; rfl)) h
    -- one depth more
    have mi18 := S1618 _ _ mi16
    have mk18 := S1618 _ _ mk16
    have pn : 2 ^ (l + 1) = 2 ^ l + 2 ^ l := by omega
    refine ⟨_, rfl, _, _, rfl, rfl, _, rfl, l + 1, mi, ls, on (ms' ++ List.replicate ms'.length 0), rfl, SqL.of mi18, hl7, by omega, (L16.more _).mark, fun H19 p19 ts19 S19 n19 e19 b19 => ?_⟩
    refine ⟨_, rfl, _, _, rfl, rfl, _, rfl, _, rfl, mk, _, rfl, .inl (SqL.of (S19 _ _ mk18)), _, rfl, by rw [List.length_map]; omega, by rw [List.length_map]; omega, fun D hD => lc_range (fun i H' => Same H19 H' ∧ H' D = some (.lst ((List.replicate i (0 : Int)).map V.int))) ⟨Same.new hD, upd_same⟩ (fun i H' hi hP => ?_) (fun H' hP => ?_)⟩
    · obtain ⟨sm, eD⟩ := hP
      rw [List.length_map, Int.toNat_natCast] at hi
      refine ⟨rfl, _, eD, szl (by rw [List.length_map, List.length_replicate]; omega), Same.mut sm hD, ?_⟩
      rw [upd_same, map_snoc, ← List.replicate_succ']
    · obtain ⟨sm, eD⟩ := hP
      rw [List.length_map, Int.toNat_natCast] at eD
      refine ⟨mk, D, _, _, rfl, rfl, sm _ _ (S19 _ _ mk18), eD, sz (by rw [List.length_map, List.length_map, List.length_replicate]; omega), fun m2 hm2 => ?_⟩
      have Sn := Same.new (o := .lst (ms'.map V.int ++ (List.replicate ms'.length (0 : Int)).map V.int)) hm2
      refine ⟨p19, m2, l + 1, ms' ++ List.replicate ms'.length 0, ts19, rfl, hl7, Sn _ _ (sm _ _ e19), Blks.same (sm.trans Sn) b19, SqL.of (by rw [upd_same, List.map_append]), by rw [List.length_append, List.length_replicate]; omega, zo_more z16 _, fun H20 _ => q _⟩
end
theorem all_mk {l : PySem.W.OpenLaw} {w : World} {K : PySem.W.Frag} {h : Heap} {mg : Str → Option Value} {fa f0 f1 f2 f3 f4 f5 f6 f7 f8 f9 f10 : Addr} (X : K.In h) (G : h.Ns mainGlobals mg) (hfa : mg "law" = some (.ref fa))
    {od0 an0 od1 an1 od2 an2 od3 an3 od4 an4 od5 an5 od6 an6 od7 an7 od8 an8 od9 an9 od10 an10 : Option Addr} {sl0 sl1 sl2 sl3 sl4 sl5 sl6 sl7 sl8 sl9 sl10 : Array (Option Value)} {oc0 kV0 dc0 pm0 cd0 ct0 oc1 kV1 dc1 pm1 cd1 ct1 oc2 kV2 dc2 pm2 cd2 ct2 oc3 kV3 dc3 pm3 cd3 ct3 oc4 kV4 dc4 pm4 cd4 ct4 oc5 kV5 dc5 pm5 cd5 ct5 oc6 kV6 dc6 pm6 cd6 ct6 oc7 kV7 dc7 pm7 cd7 ct7 oc8 kV8 dc8 pm8 cd8 ct8 oc9 kV9 dc9 pm9 cd9 ct9 oc10 kV10 dc10 pm10 cd10 ct10 : Value}
    (a0 : PySem.W.nsIn K mainGlobals "least_cover" = some (some (.ref f0))) (l0 : K.lookup f0 = some ⟨oc0, od0, .func (PySem.W.fnOf "least_cover" "least_cover" (defArgs s_least_cover) (defBody s_least_cover) (defScope s_least_cover) .none kV0 dc0 pm0 an0 cd0 ct0), sl0⟩) (c0 : PySem.W.codeIn K cd0 "least_cover" = true) (k0 : PySem.W.keepIn K (.ref f0) = true)
    (a1 : PySem.W.nsIn K mainGlobals "_cover" = some (some (.ref f1))) (l1 : K.lookup f1 = some ⟨oc1, od1, .func (PySem.W.fnOf "_cover" "_cover" (defArgs s_u_cover) (defBody s_u_cover) (defScope s_u_cover) .none kV1 dc1 pm1 an1 cd1 ct1), sl1⟩) (c1 : PySem.W.codeIn K cd1 "_cover" = true) (k1 : PySem.W.keepIn K (.ref f1) = true)
    (a2 : PySem.W.nsIn K mainGlobals "_law_open" = some (some (.ref f2))) (l2 : K.lookup f2 = some ⟨oc2, od2, .func (PySem.W.fnOf "_law_open" "_law_open" (defArgs s_open) (defBody s_open) (defScope s_open) .none kV2 dc2 pm2 an2 cd2 ct2), sl2⟩) (c2 : PySem.W.codeIn K cd2 "_law_open" = true) (k2 : PySem.W.keepIn K (.ref f2) = true)
    (a3 : PySem.W.nsIn K mainGlobals "_law_take" = some (some (.ref f3))) (l3 : K.lookup f3 = some ⟨oc3, od3, .func (PySem.W.fnOf "_law_take" "_law_take" (defArgs s_take) (defBody s_take) (defScope s_take) .none kV3 dc3 pm3 an3 cd3 ct3), sl3⟩) (c3 : PySem.W.codeIn K cd3 "_law_take" = true) (k3 : PySem.W.keepIn K (.ref f3) = true)
    (a4 : PySem.W.nsIn K mainGlobals "_law_whole" = some (some (.ref f4))) (l4 : K.lookup f4 = some ⟨oc4, od4, .func (PySem.W.fnOf "_law_whole" "_law_whole" (defArgs s_whole) (defBody s_whole) (defScope s_whole) .none kV4 dc4 pm4 an4 cd4 ct4), sl4⟩) (c4 : PySem.W.codeIn K cd4 "_law_whole" = true) (k4 : PySem.W.keepIn K (.ref f4) = true)
    (a5 : PySem.W.nsIn K mainGlobals "_law_marks" = some (some (.ref f5))) (l5 : K.lookup f5 = some ⟨oc5, od5, .func (PySem.W.fnOf "_law_marks" "_law_marks" (defArgs s_marks) (defBody s_marks) (defScope s_marks) .none kV5 dc5 pm5 an5 cd5 ct5), sl5⟩) (c5 : PySem.W.codeIn K cd5 "_law_marks" = true) (k5 : PySem.W.keepIn K (.ref f5) = true)
    (a6 : PySem.W.nsIn K mainGlobals "_law_handed" = some (some (.ref f6))) (l6 : K.lookup f6 = some ⟨oc6, od6, .func (PySem.W.fnOf "_law_handed" "_law_handed" (defArgs s_handed) (defBody s_handed) (defScope s_handed) .none kV6 dc6 pm6 an6 cd6 ct6), sl6⟩) (c6 : PySem.W.codeIn K cd6 "_law_handed" = true) (k6 : PySem.W.keepIn K (.ref f6) = true)
    (a7 : PySem.W.nsIn K mainGlobals "_law_least" = some (some (.ref f7))) (l7 : K.lookup f7 = some ⟨oc7, od7, .func (PySem.W.fnOf "_law_least" "_law_least" (defArgs s_least) (defBody s_least) (defScope s_least) .none kV7 dc7 pm7 an7 cd7 ct7), sl7⟩) (c7 : PySem.W.codeIn K cd7 "_law_least" = true) (k7 : PySem.W.keepIn K (.ref f7) = true)
    (a8 : PySem.W.nsIn K mainGlobals "_law_covers" = some (some (.ref f8))) (l8 : K.lookup f8 = some ⟨oc8, od8, .func (PySem.W.fnOf "_law_covers" "_law_covers" (defArgs s_covers) (defBody s_covers) (defScope s_covers) .none kV8 dc8 pm8 an8 cd8 ct8), sl8⟩) (c8 : PySem.W.codeIn K cd8 "_law_covers" = true) (k8 : PySem.W.keepIn K (.ref f8) = true)
    (a9 : PySem.W.nsIn K mainGlobals "_law_change" = some (some (.ref f9))) (l9 : K.lookup f9 = some ⟨oc9, od9, .func (PySem.W.fnOf "_law_change" "_law_change" (defArgs s_change) (defBody s_change) (defScope s_change) .none kV9 dc9 pm9 an9 cd9 ct9), sl9⟩) (c9 : PySem.W.codeIn K cd9 "_law_change" = true) (k9 : PySem.W.keepIn K (.ref f9) = true)
    (a10 : PySem.W.nsIn K mainGlobals "law" = some (some (.ref f10))) (l10 : K.lookup f10 = some ⟨oc10, od10, .func (PySem.W.fnOf "law" "law" (defArgs s_law) (defBody s_law) (defScope s_law) .none kV10 dc10 pm10 an10 cd10 ct10), sl10⟩) (c10 : PySem.W.codeIn K cd10 "law" = true) (k10 : PySem.W.keepIn K (.ref f10) = true)
    (z0 : PySem.W.nsIn K mainGlobals "len" = some none)
    (z1 : PySem.W.nsIn K mainGlobals "int" = some none)
    (z2 : PySem.W.nsIn K mainGlobals "range" = some none)
    (z3 : PySem.W.nsIn K mainGlobals "list" = some none)
    (z4 : PySem.W.nsIn K mainGlobals "isinstance" = some none)
    (z5 : PySem.W.nsIn K mainGlobals "sum" = some none)
    (z6 : PySem.W.nsIn K mainGlobals "tuple" = some none)
    (z7 : PySem.W.nsIn K mainGlobals "bool" = some none)
    : ∃ fd : FuncData, (∀ (s : Shared) (v : Value), BindsTo s fd ⟨[v], []⟩ [("_law_script", v)]) ∧ ∀ base : Heap, K.In base → base.Ns mainGlobals mg → FnOk l.prog w K mg base CX0 11 fa fd ["_law_script"] (sp_law K) := by
  have e := hfa.symm.trans (PySem.W.mg_of X G a10)
  cases e
  have F0 := fun_mk (st := s_least_cover) l0 c0 k0
  have F1 := fun_mk (st := s_u_cover) l1 c1 k1
  have F2 := fun_mk (st := s_open) l2 c2 k2
  have F3 := fun_mk (st := s_take) l3 c3 k3
  have F4 := fun_mk (st := s_whole) l4 c4 k4
  have F5 := fun_mk (st := s_marks) l5 c5 k5
  have F6 := fun_mk (st := s_handed) l6 c6 k6
  have F7 := fun_mk (st := s_least) l7 c7 k7
  have F8 := fun_mk (st := s_covers) l8 c8 k8
  have F9 := fun_mk (st := s_change) l9 c9 k9
  have F10 := fun_mk (st := s_law) l10 c10 k10
  let T : Txt K mg := ⟨_, _, F0, (F0.binds (ps := ["depth", "places"]) fun _ _ _ _ _ _ us hl => match us, hl with | [_, _], _ => rfl), PySem.W.mg_of X G a0,
    _, _, F1, (F1.binds (ps := ["wanted", "start", "size"]) fun _ _ _ _ _ _ us hl => match us, hl with | [_, _, _], _ => rfl), PySem.W.mg_of X G a1,
    _, _, F2, (F2.binds (ps := ["_law_script", "_law_at"]) fun _ _ _ _ _ _ us hl => match us, hl with | [_, _], _ => rfl), PySem.W.mg_of X G a2,
    _, _, F3, (F3.binds (ps := ["_law_box", "_law_size"]) fun _ _ _ _ _ _ us hl => match us, hl with | [_, _], _ => rfl), PySem.W.mg_of X G a3,
    _, _, F4, (F4.binds (ps := ["_law_levels"]) fun _ _ _ _ _ _ us hl => match us, hl with | [_], _ => rfl), PySem.W.mg_of X G a4,
    _, _, F5, (F5.binds (ps := ["_law_box", "_law_whole_here"]) fun _ _ _ _ _ _ us hl => match us, hl with | [_, _], _ => rfl), PySem.W.mg_of X G a5,
    _, _, F6, (F6.binds (ps := ["_law_box", "_law_marks_here"]) fun _ _ _ _ _ _ us hl => match us, hl with | [_, _], _ => rfl), PySem.W.mg_of X G a6,
    _, _, F7, (F7.binds (ps := ["_law_levels", "_law_marks_here"]) fun _ _ _ _ _ _ us hl => match us, hl with | [_, _], _ => rfl), PySem.W.mg_of X G a7,
    _, _, F8, (F8.binds (ps := ["_law_told", "_law_levels", "_law_marks_here"]) fun _ _ _ _ _ _ us hl => match us, hl with | [_, _, _], _ => rfl), PySem.W.mg_of X G a8,
    _, _, F9, (F9.binds (ps := ["_law_listed", "_law_marks_here", "_law_place"]) fun _ _ _ _ _ _ us hl => match us, hl with | [_, _, _], _ => rfl), PySem.W.mg_of X G a9,
    _, _, F10, (F10.binds (ps := ["_law_script"]) fun _ _ _ _ _ _ us hl => match us, hl with | [_], _ => rfl), PySem.W.mg_of X G a10,
    PySem.W.mg_none_of X G z0, PySem.W.mg_none_of X G z1, PySem.W.mg_none_of X G z2, PySem.W.mg_none_of X G z3, PySem.W.mg_none_of X G z4, PySem.W.mg_none_of X G z5, PySem.W.mg_none_of X G z6, PySem.W.mg_none_of X G z7⟩
  exact ⟨PySem.W.fnOf "law" "law" (defArgs s_law) (defBody s_law) (defScope s_law) .none kV10 dc10 pm10 an10 cd10 ct10, fun s v => .of_eq rfl, fun base _ _ => ok_law T⟩
end P10
open PySem PySem.W PyProof.Rows in
set_option maxRecDepth 100000 in
set_option maxHeartbeats 0 in
theorem PySem.Challenge.cw_forkedshelves_k10_least_cover_by_blocks_holds : PySem.Challenge.rw_forkedshelves_k10_least_cover_by_blocks.Holds := by
  w_on; o_law; k_head; (case hw => w_witness2)
  k_fill
  refine L2.walk_of (l := PySem.Challenge.rw_forkedshelves_k10_least_cover_by_blocks) (n := 63) (k := 11) (x := "_law_script") (CX := fun _ => L2.CX0) (sp := fun w => P10.sp_law _) rfl (by decide) rfl ⟨rfl, by decide, by decide⟩ (fun w h Y => PySem.W.kIn_of Y) ?F (fun _ _ a ns hl _ hS => ⟨a, ns, rfl, hS, hl, fun _ => rfl⟩) (fun _ _ _ _ _ h => h)
  case F =>
    intro w mg fa h KX G hmg
    refine' P10.all_mk KX G hmg ?a0 ?l0 ?c0 ?k0 ?a1 ?l1 ?c1 ?k1 ?a2 ?l2 ?c2 ?k2 ?a3 ?l3 ?c3 ?k3 ?a4 ?l4 ?c4 ?k4 ?a5 ?l5 ?c5 ?k5 ?a6 ?l6 ?c6 ?k6 ?a7 ?l7 ?c7 ?k7 ?a8 ?l8 ?c8 ?k8 ?a9 ?l9 ?c9 ?k9 ?a10 ?l10 ?c10 ?k10 ?z0 ?z1 ?z2 ?z3 ?z4 ?z5 ?z6 ?z7
    (case a0 => k_is)
    (case l0 => k_is)
    (case c0 => k_is)
    (case k0 => k_is)
    (case a1 => k_is)
    (case l1 => k_is)
    (case c1 => k_is)
    (case k1 => k_is)
    (case a2 => k_is)
    (case l2 => k_is)
    (case c2 => k_is)
    (case k2 => k_is)
    (case a3 => k_is)
    (case l3 => k_is)
    (case c3 => k_is)
    (case k3 => k_is)
    (case a4 => k_is)
    (case l4 => k_is)
    (case c4 => k_is)
    (case k4 => k_is)
    (case a5 => k_is)
    (case l5 => k_is)
    (case c5 => k_is)
    (case k5 => k_is)
    (case a6 => k_is)
    (case l6 => k_is)
    (case c6 => k_is)
    (case k6 => k_is)
    (case a7 => k_is)
    (case l7 => k_is)
    (case c7 => k_is)
    (case k7 => k_is)
    (case a8 => k_is)
    (case l8 => k_is)
    (case c8 => k_is)
    (case k8 => k_is)
    (case a9 => k_is)
    (case l9 => k_is)
    (case c9 => k_is)
    (case k9 => k_is)
    (case a10 => k_is)
    (case l10 => k_is)
    (case c10 => k_is)
    (case k10 => k_is)
    (case z0 => k_is)
    (case z1 => k_is)
    (case z2 => k_is)
    (case z3 => k_is)
    (case z4 => k_is)
    (case z5 => k_is)
    (case z6 => k_is)
    (case z7 => k_is)

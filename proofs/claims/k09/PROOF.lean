import PyProof.Rows.All
import Wide.All
import OpenK.AllK
import Wide.FinOn
import HandS.ForMost
import HandS.IsInst
import PySem.Challenge.RW_forkedshelves_k09_blocks_of_a_place
set_option Elab.async false
set_option linter.all false
set_option maxRecDepth 100000
set_option maxHeartbeats 4000000
namespace P9
open PySem PySem.Spec PyProof.Rows L2
def topS (i : Nat) : Stmt := PySem.Challenge.pw_forkedshelves_k09_blocks_of_a_place.main.body.getD i (.Pass ⟨0, 0, 0, 0⟩)
abbrev s_blocks_with : Stmt := topS 1
abbrev N_blocks_with : List Str := ["depth", "place", "blocks", "size", "_"]
theorem sc_blocks_with : FnScope N_blocks_with ["depth", "place"] (defScope s_blocks_with) := ⟨rfl, rfl, rfl, by decide +kernel, rfl, by decide +kernel, by decide +kernel⟩
abbrev s_open : Stmt := topS 3
abbrev N_open : List Str := ["_law_script", "_law_at", "_law_cell"]
theorem sc_open : FnScope N_open ["_law_script", "_law_at"] (defScope s_open) := ⟨rfl, rfl, rfl, by decide +kernel, rfl, by decide +kernel, by decide +kernel⟩
abbrev s_take : Stmt := topS 4
abbrev N_take : List Str := ["_law_box", "_law_size", "_law_drawn", "_law_k", "_law_mixed"]
theorem sc_take : FnScope N_take ["_law_box", "_law_size"] (defScope s_take) := ⟨rfl, rfl, rfl, by decide +kernel, rfl, by decide +kernel, by decide +kernel⟩
abbrev s_whole : Stmt := topS 5
abbrev N_whole : List Str := ["_law_levels", "_law_size", "_law_k"]
theorem sc_whole : FnScope N_whole ["_law_levels"] (defScope s_whole) := ⟨rfl, rfl, rfl, by decide +kernel, rfl, by decide +kernel, by decide +kernel⟩
abbrev s_questions : Stmt := topS 6
abbrev N_questions : List Str := ["_law_box", "_law_levels", "_law_whole_here", "_law_rows", "_law_k"]
theorem sc_questions : FnScope N_questions ["_law_box"] (defScope s_questions) := ⟨rfl, rfl, rfl, by decide +kernel, rfl, by decide +kernel, by decide +kernel⟩
abbrev s_right : Stmt := topS 7
abbrev N_right : List Str := ["_law_told", "_law_levels", "_law_place", "_law_size", "_law_block", "_law_number"]
theorem sc_right : FnScope N_right ["_law_told", "_law_levels", "_law_place"] (defScope s_right) := ⟨rfl, rfl, rfl, by decide +kernel, rfl, by decide +kernel, by decide +kernel⟩
abbrev s_law : Stmt := topS 8
abbrev N_law : List Str := ["_law_script", "_law_questions_here", "_law_question", "_law_told"]
theorem sc_law : FnScope N_law ["_law_script"] (defScope s_law) := ⟨rfl, rfl, rfl, by decide +kernel, rfl, by decide +kernel, by decide +kernel⟩
/-- what the top has left, by names -/
structure Txt (K : PySem.W.Frag) (mg : Str → Option Value) : Type where
  f_blocks_with : Addr
  fd_blocks_with : FuncData
  F_blocks_with : Fun K "blocks_with" "blocks_with" s_blocks_with f_blocks_with fd_blocks_with
  b_blocks_with : Binds K fd_blocks_with ["depth", "place"] []
  g_blocks_with : mg "blocks_with" = some (.ref f_blocks_with)
  f_open : Addr
  fd_open : FuncData
  F_open : Fun K "_law_open" "_law_open" s_open f_open fd_open
  b_open : Binds K fd_open ["_law_script", "_law_at"] []
  g_open : mg "_law_open" = some (.ref f_open)
  f_take : Addr
  fd_take : FuncData
  F_take : Fun K "_law_take" "_law_take" s_take f_take fd_take
  b_take : Binds K fd_take ["_law_box", "_law_size"] []
  g_take : mg "_law_take" = some (.ref f_take)
  f_whole : Addr
  fd_whole : FuncData
  F_whole : Fun K "_law_whole" "_law_whole" s_whole f_whole fd_whole
  b_whole : Binds K fd_whole ["_law_levels"] []
  g_whole : mg "_law_whole" = some (.ref f_whole)
  f_questions : Addr
  fd_questions : FuncData
  F_questions : Fun K "_law_questions" "_law_questions" s_questions f_questions fd_questions
  b_questions : Binds K fd_questions ["_law_box"] []
  g_questions : mg "_law_questions" = some (.ref f_questions)
  f_right : Addr
  fd_right : FuncData
  F_right : Fun K "_law_right" "_law_right" s_right f_right fd_right
  b_right : Binds K fd_right ["_law_told", "_law_levels", "_law_place"] []
  g_right : mg "_law_right" = some (.ref f_right)
  f_law : Addr
  fd_law : FuncData
  F_law : Fun K "law" "law" s_law f_law fd_law
  b_law : Binds K fd_law ["_law_script"] []
  g_law : mg "law" = some (.ref f_law)
  z_range : mg "range" = none
  z_len : mg "len" = none
  z_int : mg "int" = none
  z_isinstance : mg "isinstance" = none
  z_list : mg "list" = none
  z_tuple : mg "tuple" = none
  z_bool : mg "bool" = none
/-! ### heaps -/
theorem Same.new {H : Hp} {p : Addr} {o : HO} (h : H p = none) : Same H (upd H p o) := fun b x e => by
  rw [upd_ne (ne_of_none e h)]
  exact e
/-- an object that H does not know may change -/
theorem Same.mut {H H' : Hp} {p : Addr} {o : HO} (e : Same H H') (h : H p = none) : Same H (upd H' p o) := fun b x q => by
  rw [upd_ne (ne_of_none q h)]
  exact e _ _ q
theorem Same.tup {K : PySem.W.Frag} {H H' : Hp} {a : Addr} {xs : List V} (e : Same H H') (h : SqT K H a xs) : SqT K H' a xs := by
  rcases h with (h | ⟨o, h⟩) | h
  · exact .inl (.inl (e _ _ h))
  · exact .inl (.inr ⟨o, e _ _ h⟩)
  · exact .inr h
theorem iteD0 {c A B : Prop} [Decidable c] (hc : ¬ c) (h : B) : if decide c = true then A else B := by
  rw [decide_eq_false hc]
  exact iteF h
theorem iteD1 {c A B : Prop} [Decidable c] (hc : c) (h : A) : if decide c = true then A else B := by
  rw [decide_eq_true hc]
  exact iteT h
theorem iteN1 {c A B : Prop} [Decidable c] (hc : ¬ c) (h : A) : if (!decide c) = true then A else B := by
  rw [decide_eq_false hc]
  exact iteT h
theorem ip_of {X : Cx} {op : Operator} {r : R2} (ho : OpR X (inplaceOp op) r) : PIp X op r := fun _ _ _ _ _ _ _ _ _ I rx ry q => augR ho I rx ry q
theorem sz {n : Nat} (h : n ≤ 100000) : n ≤ sizeLine := Nat.le_trans h (by decide)
theorem szl {n : Nat} (h : n < 100000) : n < sizeLine := Nat.lt_of_lt_of_le h (by decide)
/-! ### the draws' box -/
def IsBox (o : HO) : Prop := ∃ t c k : Int, o = .lst [.int t, .int c, .int k]
def Box (H : Hp) (a : Addr) : Prop := ∃ o, H a = some o ∧ IsBox o
/-- all but what stands at a is as it was, and a is a box -/
def But (a : Addr) (H H' : Hp) : Prop := (∀ b o, b ≠ a → H b = some o → H' b = some o) ∧ Box H' a
theorem But.upd {a : Addr} {H : Hp} {o : HO} (h : IsBox o) : But a H (upd H a o) := ⟨fun b x n e => by rw [upd_ne n]; exact e, o, upd_same, h⟩
theorem But.trans {a : Addr} {H H1 H2 : Hp} (x : But a H H1) (y : But a H1 H2) : But a H H2 := ⟨fun b o n e => y.1 b o n (x.1 b o n e), y.2⟩
theorem But.refl {a : Addr} {H : Hp} (h : Box H a) : But a H H := ⟨fun _ _ _ e => e, h⟩
theorem But.same {a : Addr} {H H1 H2 : Hp} (x : But a H H1) (y : Same H1 H2) : But a H H2 := ⟨fun b o n e => y b o (x.1 b o n e), let ⟨o, e, z⟩ := x.2; ⟨o, y _ _ e, z⟩⟩
theorem But.free {a b : Addr} {H H' : Hp} (e : But a H H') (hb : H' b = none) : H b = none ∨ b = a := by
  by_cases n : b = a
  · exact .inr n
  · refine .inl ?_
    cases q : H b with
    | none => rfl
    | some o =>
      rw [e.1 b o n q] at hb
      cases hb
theorem But.none {a b : Addr} {H H' : Hp} (e : But a H H') (hb : H' b = Option.none) : H b = Option.none := by
  rcases e.free hb with h | h
  · exact h
  · obtain ⟨o, q, _⟩ := e.2
    rw [h, q] at hb
    cases hb
theorem Box.lst {H : Hp} {a : Addr} (h : Box H a) : ∃ t c k : Int, H a = some (.lst [.int t, .int c, .int k]) := by
  obtain ⟨o, e, t, c, k, rfl⟩ := h
  exact ⟨t, c, k, e⟩
/-- behind a new object a, all that stood stands -/
theorem But.same_of {a : Addr} {H0 H H' : Hp} (s : Same H0 H) (n : H0 a = Option.none) (e : But a H H') : Same H0 H' := fun b o q => e.1 b o (ne_of_none q n) (s b o q)
def sp_open (K : PySem.W.Frag) : Sp := fun vs H Q _ => ∃ (a : Addr) (ns : List Int) (i : Nat), vs = [.ref a, .int i] ∧ SqL K H a (ns.map V.int) ∧ ∀ p o, H p = none → IsBox o → Q (.ref p) (upd H p o)
def sp_take : Sp := fun vs H Q _ => ∃ (a : Addr) (n : Int), vs = [.ref a, .int n] ∧ Box H a ∧ 0 < n ∧ n < 1073741824 ∧ ∀ (d : Int) (H' : Hp), 0 ≤ d → d < n → But a H H' → (∀ b, b ≠ a → H' b = H b) → Q (.int d) H'
def sp_whole : Sp := fun vs H Q _ => ∃ n : Nat, vs = [.int n] ∧ n ≤ 60 ∧ Q (.int ((2 ^ n : Nat) : Int)) H
/-! ### the promises -/
/-- at t stands the block of 2 ^ i places that contains n -/
def Blk (H : Hp) (n i : Nat) (t : Addr) : Prop := H t = some (.tup [.int ((n : Int) - (n : Int) % ((2 ^ i : Nat) : Int)), .int ((2 ^ i : Nat) : Int)])
def sp_blocks_with : Sp := fun vs H Q _ => ∃ d n : Nat, vs = [.int d, .int n] ∧ d ≤ 8 ∧ ∀ (H' : Hp) (p : Addr) (ts : List Addr), Same H H' → H p = none → H' p = some (.lst (ts.map V.ref)) → ts.length = d + 1 → (∀ i t, ts[i]? = some t → Blk H' n i t) → Q (.ref p) H'
/-- a question: a depth and a place of it -/
def Ask (H : Hp) (t : Addr) : Prop := ∃ d n : Nat, H t = some (.tup [.int d, .int n]) ∧ d ≤ 8 ∧ n < 2 ^ d
def sp_questions : Sp := fun vs H Q _ => ∃ a : Addr, vs = [.ref a] ∧ Box H a ∧ ∀ (H' : Hp) (p : Addr) (ts : List Addr), But a H H' → H p = none → H' p = some (.lst (ts.map V.ref)) → ts.length ≤ 6 → (∀ t ∈ ts, Ask H' t) → Q (.ref p) H'
def sp_right (K : PySem.W.Frag) : Sp := fun vs H Q _ => ∃ (p : Addr) (d n : Nat) (ts : List Addr), vs = [.ref p, .int d, .int n] ∧ H p = some (.lst (ts.map V.ref)) ∧ ts.length = d + 1 ∧ (∀ i t, ts[i]? = some t → Blk H n i t) ∧ Q (.bl true) H
def sp_law (K : PySem.W.Frag) : Sp := fun vs H Q _ => ∃ (a : Addr) (ns : List Int), vs = [.ref a] ∧ SqL K H a (ns.map V.int) ∧ ns.length ≤ 63 ∧ ∀ H', Q (.bl true) H'
theorem two_pos (i : Nat) : (0 : Int) < ((2 ^ i : Nat) : Int) := by
  have := Nat.two_pow_pos i
  omega
theorem two_next (i : Nat) : ((2 ^ i : Nat) : Int) * 2 = ((2 ^ (i + 1) : Nat) : Int) := by
  rw [Nat.pow_succ, Int.natCast_mul]
  rfl
section
variable {P : Program} {w : World} {K : PySem.W.Frag} {mg : Str → Option Value} {base : Heap}
theorem ok_open (T : Txt K mg) : FnOk P w K mg base CX0 1 T.f_open T.fd_open ["_law_script", "_law_at"] (sp_open K) := by
  refine T.F_open.ok sc_open (fun vs H Q E h => ?_) (fun cdv A outer s H vs Q E hr h => ?_)
  · obtain ⟨a, ns, i, rfl, _⟩ := h
    rfl
  · obtain ⟨a, ns, i, rfl, hS, q⟩ := h
    refine ⟨_, (pss_cons (ps_set (i := 2) sc_open.nd rfl (Or.inl rfl) pe_int)
      (pss_cons (ps_if (pt_cmpR op_lt (pv 1) (pe_callB call_len_seq (by rfl) T.z_len PySem.boot_len (pa_cons (pv 0) pa_nil)) (nomark _))
      (pss_one (ps_set (i := 2) sc_open.nd rfl (Or.inl rfl) (pe_ix ix_list (pv 0) (pv 1) (fun _ _ => rfl))))
      pss_nil)
      (pss_cons (ps_if (pt_cmpR op_ge (pv 2) (pe_op op_pow pe_int pe_int) (nomark _))
      (pss_one (ps_ret (pe_lst (pa_cons pe_int (pa_cons (pe_op op_sub (pv 2) (pe_op op_pow pe_int pe_int)) (pa_cons pe_int pa_nil))))))
      pss_nil)
      (pss_one (ps_ret (pe_lst (pa_cons pe_int (pa_cons (pv 2) (pa_cons pe_int pa_nil))))))))), ?_⟩
    refine ⟨_, rfl, _, rfl, a, _, rfl, .inl hS, _, _, rfl, rfl, _, rfl, ?_⟩
    refine ite2 (fun h => ?_) (fun h => ?_)
    · have hi : i < ns.length := by
        have h1 := of_decide_eq_true h
        rw [List.length_map] at h1
        omega
      have g : (ns.map V.int)[i]? = some (.int ns[i]) := by
        rw [List.getElem?_map, List.getElem?_eq_getElem hi]
        rfl
      refine ⟨_, rfl, _, rfl, a, _, _, _, rfl, rfl, hS, atI_nat g, ?_⟩
      refine ⟨_, rfl, _, _, rfl, rfl, ⟨by decide, by decide, by decide⟩, _, _, rfl, rfl, _, rfl, ?_⟩
      refine ite2 (fun h2 => ?_) (fun h2 => ?_)
      · refine ⟨_, rfl, _, _, rfl, rfl, ⟨by decide, by decide, by decide⟩, _, _, rfl, rfl, sz (by show 3 ≤ 100000; decide), fun p hp => ?_⟩
        exact q p _ hp ⟨_, _, _, rfl⟩
      · refine ⟨_, rfl, sz (by show 3 ≤ 100000; decide), fun p hp => ?_⟩
        exact q p _ hp ⟨_, _, _, rfl⟩
    · refine ⟨_, rfl, _, _, rfl, rfl, ⟨by decide, by decide, by decide⟩, _, _, rfl, rfl, _, rfl, ?_⟩
      refine ite2 (fun h2 => ?_) (fun h2 => ?_)
      · refine ⟨_, rfl, _, _, rfl, rfl, ⟨by decide, by decide, by decide⟩, _, _, rfl, rfl, sz (by show 3 ≤ 100000; decide), fun p hp => ?_⟩
        exact q p _ hp ⟨_, _, _, rfl⟩
      · refine ⟨_, rfl, sz (by show 3 ≤ 100000; decide), fun p hp => ?_⟩
        exact q p _ hp ⟨_, _, _, rfl⟩
theorem ok_take (T : Txt K mg) : FnOk P w K mg base CX0 1 T.f_take T.fd_take ["_law_box", "_law_size"] sp_take := by
  refine T.F_take.ok sc_take (fun vs H Q E h => ?_) (fun cdv A outer s H vs Q E hr h => ?_)
  · obtain ⟨a, n, rfl, _⟩ := h
    rfl
  · obtain ⟨a, n, rfl, hB, hn, hn2, q⟩ := h
    obtain ⟨t, c, k, ho⟩ := hB.lst
    refine ⟨_, (pss_cons (ps_if (pt_cmpR op_eq (pe_ix ix_list (pv 0) pe_int (fun _ _ => rfl)) pe_int (nomark _))
      (pss_cons (ps_set (i := 2) sc_take.nd rfl (Or.inl rfl) (pe_op op_mod (pe_callTy call_int1 (by rfl) T.z_int (by decide +kernel) (pa_cons (pe_ix ix_list (pv 0) pe_int (fun _ _ => rfl)) pa_nil)) (pv 1)))
        (pss_cons (ps_asg (pe_op op_fdiv (pe_callTy call_int1 (by rfl) T.z_int (by decide +kernel) (pa_cons (pe_ix ix_list (pv 0) pe_int (fun _ _ => rfl)) pa_nil)) (pv 1)) (pg_sub (pv 0) pe_int set_list))
        (pss_one (ps_ret (pv 2)))))
      pss_nil)
      (pss_cons (ps_set (i := 3) sc_take.nd rfl (Or.inl rfl) (pe_ix ix_list (pv 0) pe_int (fun _ _ => rfl)))
      (pss_cons (ps_asg (pe_op op_add (pv 3) pe_int) (pg_sub (pv 0) pe_int set_list))
      (pss_cons (ps_set (i := 4) sc_take.nd rfl (Or.inl rfl) (pe_op op_mod (pe_callTy call_int1 (by rfl) T.z_int (by decide +kernel) (pa_cons (pe_op op_add (pe_op op_add (pe_ix ix_list (pv 0) pe_int (fun _ _ => rfl)) (pe_op op_mul pe_int (pv 3))) pe_int) pa_nil)) pe_int))
      (pss_cons (ps_set (i := 4) sc_take.nd rfl (Or.inl rfl) (pe_op op_mod (pe_callTy call_int1 (by rfl) T.z_int (by decide +kernel) (pa_cons (pe_op op_mul (pv 4) (pe_op op_add (pv 4) pe_int)) pa_nil)) pe_int))
      (pss_cons (ps_set (i := 4) sc_take.nd rfl (Or.inl rfl) (pe_op op_mod (pe_callTy call_int1 (by rfl) T.z_int (by decide +kernel) (pa_cons (pe_op op_add (pe_op op_mul (pv 4) (pe_op op_add (pv 4) pe_int)) (pe_op op_mul pe_int (pv 3))) pa_nil)) pe_int))
      (pss_one (ps_ret (pe_op op_mod (pe_callTy call_int1 (by rfl) T.z_int (by decide +kernel) (pa_cons (pe_op op_fdiv (pv 4) pe_int) pa_nil)) (pv 1)))))))))), ?_⟩
    refine ⟨_, rfl, a, _, 0, _, rfl, rfl, SqL.of ho, rfl, rfl, _, rfl, ?_⟩
    refine ite2 (fun h => ?_) (fun h => ?_)
    · refine ⟨_, rfl, a, _, 1, _, rfl, rfl, SqL.of ho, rfl, .inl ⟨_, rfl, _, rfl, _, _, rfl, rfl, hn, ?_⟩⟩
      refine ⟨_, rfl, a, _, 1, _, rfl, rfl, SqL.of ho, rfl, .inl ⟨_, rfl, _, rfl, _, _, rfl, rfl, ⟨hn, hn2⟩, ?_⟩⟩
      refine ⟨_, rfl, a, _, 1, 1, rfl, rfl, ho, rfl, ?_⟩
      refine ⟨_, rfl, ?_⟩
      exact q _ _ (Int.emod_nonneg _ (by omega)) (Int.emod_lt_of_pos _ hn) (But.upd ⟨_, _, _, rfl⟩) fun b hb => upd_ne hb
    · refine ⟨_, rfl, a, _, 2, _, rfl, rfl, SqL.of ho, rfl, ?_⟩
      refine ⟨_, rfl, _, _, rfl, rfl, _, rfl, a, _, 2, 2, rfl, rfl, ho, rfl, ?_⟩
      refine ⟨_, rfl, a, _, 1, _, rfl, rfl, SqL.of upd_same, rfl, _, rfl, _, _, rfl, rfl, .inl ⟨by decide, by decide⟩, _, _, rfl, rfl, _, _, rfl, rfl, .inl ⟨_, rfl, _, _, rfl, rfl, (by decide : (0 : Int) < 2147483647), ?_⟩⟩
      refine ⟨_, rfl, _, rfl, _, _, rfl, rfl, _, _, rfl, rfl, .inl ⟨by omega, by omega⟩, .inl ⟨_, rfl, _, _, rfl, rfl, (by decide : (0 : Int) < 2147483629), ?_⟩⟩
      refine ⟨_, rfl, _, rfl, _, _, rfl, rfl, _, _, rfl, rfl, .inl ⟨by omega, by omega⟩, _, rfl, _, _, rfl, rfl, .inl ⟨by decide, by decide⟩, _, _, rfl, rfl, .inl ⟨_, rfl, _, _, rfl, rfl, (by decide : (0 : Int) < 2147483647), ?_⟩⟩
      refine ⟨_, rfl, _, _, rfl, rfl, ⟨by decide, by decide⟩, .inl ⟨_, rfl, _, rfl, _, _, rfl, rfl, hn, ?_⟩⟩
      exact q _ _ (Int.emod_nonneg _ (by omega)) (Int.emod_lt_of_pos _ hn) (But.upd ⟨_, _, _, rfl⟩) fun b hb => upd_ne hb
theorem ok_whole (T : Txt K mg) : FnOk P w K mg base CX0 1 T.f_whole T.fd_whole ["_law_levels"] sp_whole := by
  refine T.F_whole.ok sc_whole (fun vs H Q E h => ?_) (fun cdv A outer s H vs Q E hr h => ?_)
  · obtain ⟨n, rfl, _⟩ := h
    rfl
  · obtain ⟨n, rfl, hn, q⟩ := h
    refine ⟨_, (pss_cons (ps_set (i := 1) sc_whole.nd rfl (Or.inl rfl) pe_int)
      (pss_cons (ps_for PassesOwn.never rfl (pi_range1 (by rfl) T.z_range (pa_cons (pv 0) pa_nil)) (pg_name (i := 2) sc_whole.nd rfl (Or.inl rfl))
      (pss_one (ps_set (i := 1) sc_whole.nd rfl (Or.inl rfl) (pe_op op_mul (pv 1) pe_int))))
      (pss_one (ps_ret (pv 1))))), ?_⟩
    refine ⟨_, rfl, _, rfl, by omega, by omega, for_range (n := n) (fun i σ H' => H' = H ∧ ∃ y, σ = [some (.int n), some (.int ((2 ^ i : Nat) : Int)), y]) ⟨rfl, none, rfl⟩ ?_ ?_⟩
    · rintro i σ H' hi ⟨rfl, y, rfl⟩
      refine ⟨_, rfl, _, _, rfl, rfl, .inr ⟨by decide, by decide⟩, rfl, some (V.int (0 + i)), ?_⟩
      show [some (V.int n), some (V.int (((2 ^ i : Nat) : Int) * 2)), some (V.int (0 + i))] = [some (V.int n), some (V.int ((2 ^ (i + 1) : Nat) : Int)), some (V.int (0 + i))]
      rw [Nat.pow_succ, Int.natCast_mul]
      rfl
    · rintro σ H' ⟨rfl, y, rfl⟩
      exact ⟨_, rfl, q⟩
theorem ok_blocks_with (T : Txt K mg) : FnOk P w K mg base CX0 1 T.f_blocks_with T.fd_blocks_with ["depth", "place"] sp_blocks_with := by
  refine T.F_blocks_with.ok sc_blocks_with (fun vs H Q E h => ?_) (fun cdv A outer s H vs Q E hr h => ?_)
  · obtain ⟨d, n, rfl, _⟩ := h
    rfl
  · obtain ⟨d, n, rfl, hd, q⟩ := h
    refine ⟨_, (pss_cons (ps_set (i := 2) sc_blocks_with.nd rfl (Or.inl rfl) (pe_lst pa_nil))
      (pss_cons (ps_set (i := 3) sc_blocks_with.nd rfl (Or.inl rfl) pe_int)
      (pss_cons (ps_for PassesOwn.never rfl (pi_range1 (by rfl) T.z_range (pa_cons (pe_op op_add (pv 0) pe_int) pa_nil)) (pg_name (i := 4) sc_blocks_with.nd rfl (Or.inl rfl))
      (pss_cons (ps_expr (pe_bm PySem.F.plainAttrs_list PySem.F.slot_list_append PySem.F.type_list_append mt_append (pv 2) (pa_cons (pe_tup (pa_cons (pe_op op_sub (pv 1) (pe_op op_mod (pv 1) (pv 3))) (pa_cons (pv 3) pa_nil))) pa_nil)))
        (pss_one (ps_aug (i := 3) sc_blocks_with.nd rfl (Or.inl rfl) pe_int (ip_of iop_mul)))))
      (pss_one (ps_ret (pv 2)))))), ?_⟩
    refine ⟨Nat.zero_le _, fun p hp => ?_⟩
    refine ⟨_, rfl, _, _, rfl, rfl, _, rfl, by omega, by omega, for_range (n := d + 1) (fun i σ H' => ∃ (y : Option V) (ts : List Addr), σ = [some (.int d), some (.int n), some (.ref p), some (.int ((2 ^ i : Nat) : Int)), y] ∧ Same H H' ∧ H' p = some (.lst (ts.map V.ref)) ∧ ts.length = i ∧ ∀ i t, ts[i]? = some t → Blk H' n i t)
      ⟨none, [], rfl, Same.new hp, upd_same, rfl, fun i t e => by simp at e⟩ ?_ ?_⟩
    · rintro i σ H' hi ⟨y, ts, rfl, s1, e1, hl, hb⟩
      refine ⟨_, rfl, .inl ⟨rfl, _, SqL.of e1⟩, _, rfl, _, rfl, _, rfl, _, _, rfl, rfl, two_pos i, _, _, rfl, rfl, _, rfl, sz (by show 2 ≤ 100000; decide), fun t ht => ?_⟩
      have npt : p ≠ t := ne_of_none e1 ht
      have s2 : Same H' (upd H' t (.tup [.int ((n : Int) - (n : Int) % ((2 ^ i : Nat) : Int)), .int ((2 ^ i : Nat) : Int)])) := Same.new ht
      refine ⟨p, _, _, rfl, rfl, s2 _ _ e1, szl (by rw [List.length_map]; omega), ?_⟩
      refine ⟨_, rfl, _, _, rfl, rfl, .inr ⟨by decide, by decide⟩, some (V.int (0 + (i : Int))), ts ++ [t], ?_, Same.mut (s1.trans s2) hp, ?_, ?_, ?_⟩
      · rw [← two_next]
        rfl
      · rw [upd_same, List.map_append]
        rfl
      · rw [List.length_append, hl]
        rfl
      · intro j u e
        have nup : u ≠ p := by
          intro z
          subst z
          rcases Nat.lt_or_ge j ts.length with h | h
          · rw [List.getElem?_append_left h] at e
            have := hb j _ e
            unfold Blk at this
            rw [e1] at this
            cases this
          · rw [List.getElem?_append_right h] at e
            cases z : j - ts.length with
            | zero =>
              rw [z] at e
              exact npt (Option.some.inj e).symm
            | succ m =>
              rw [z] at e
              simp at e
        unfold Blk
        rw [upd_ne nup]
        rcases Nat.lt_or_ge j ts.length with h | h
        · rw [List.getElem?_append_left h] at e
          exact s2 _ _ (hb j _ e)
        · rw [List.getElem?_append_right h] at e
          cases z : j - ts.length with
          | zero =>
            rw [z] at e
            have : t = u := Option.some.inj e
            subst this
            have ej : j = i := by omega
            subst ej
            exact upd_same
          | succ m =>
            rw [z] at e
            simp at e
    · rintro σ H' ⟨y, ts, rfl, s1, e1, hl, hb⟩
      exact ⟨_, rfl, q H' p ts s1 hp e1 hl hb⟩
theorem ok_right (T : Txt K mg) : FnOk P w K mg base CX0 1 T.f_right T.fd_right ["_law_told", "_law_levels", "_law_place"] (sp_right K) := by
  refine T.F_right.ok sc_right (fun vs H Q E h => ?_) (fun cdv A outer s H vs Q E hr h => ?_)
  · obtain ⟨p, d, n, ts, rfl, _⟩ := h
    rfl
  · obtain ⟨p, d, n, ts, rfl, hp, hl, hb, q⟩ := h
    refine ⟨_, (pss_cons (ps_if (PW.pt (pw_or (pt_not (pt_val (pe_callB call_isi (by rfl) T.z_isinstance (by decide +kernel) (pa_cons (pv 0) (pa_cons (pe_bltn (v := .ty "list") (u := .type "list") (by rfl) T.z_list (by decide +kernel) rfl) pa_nil))))) (pw_or1 (pt_cmpR op_ne (pe_callB call_len_seq (by rfl) T.z_len PySem.boot_len (pa_cons (pv 0) pa_nil)) (pe_op op_add (pv 1) pe_int) (nomark _)))))
      (pss_one (ps_ret pe_bl))
      pss_nil)
      (pss_cons (ps_set (i := 3) sc_right.nd rfl (Or.inl rfl) pe_int)
      (pss_cons (ps_for PassesOwn.never rfl (pi_list (pv 0)) (pg_name (i := 4) sc_right.nd rfl (Or.inl rfl))
      (pss_cons (ps_if (PW.pt (pw_or (pt_not (pt_val (pe_callB call_isi (by rfl) T.z_isinstance (by decide +kernel) (pa_cons (pv 4) (pa_cons (pe_bltn (v := .ty "tuple") (u := .type "tuple") (by rfl) T.z_tuple (by decide +kernel) rfl) pa_nil))))) (pw_or1 (pt_cmpR op_ne (pe_callB call_len_seq (by rfl) T.z_len PySem.boot_len (pa_cons (pv 4) pa_nil)) pe_int (nomark _)))))
        (pss_one (ps_ret pe_bl))
        pss_nil)
        (pss_cons (ps_for PassesOwn.never rfl (pi_tup (pv 4)) (pg_name (i := 5) sc_right.nd rfl (Or.inl rfl))
        (pss_one (ps_if (PW.pt (pw_or (pt_not (pt_val (pe_callB call_isi (by rfl) T.z_isinstance (by decide +kernel) (pa_cons (pv 5) (pa_cons (pe_bltn (v := .ty "int") (u := .type "int") (by rfl) T.z_int (by decide +kernel) rfl) pa_nil))))) (pw_or1 (pt_val (pe_callB call_isi (by rfl) T.z_isinstance (by decide +kernel) (pa_cons (pv 5) (pa_cons (pe_bltn (v := .ty "bool") (u := .type "bool") (by rfl) T.z_bool (by decide +kernel) rfl) pa_nil)))))))
          (pss_one (ps_ret pe_bl))
          pss_nil)))
        (pss_cons (ps_if (PW.pt (pw_or (pt_cmpR op_ne (pe_ix ix_tup (pv 4) pe_int (fun _ _ => rfl)) (pv 3) (nomark _)) (pw_or1 (pt_cmpR op_ne (pe_op op_mod (pe_callTy call_int1 (by rfl) T.z_int (by decide +kernel) (pa_cons (pe_ix ix_tup (pv 4) pe_int (fun _ _ => rfl)) pa_nil)) (pv 3)) pe_int (nomark _)))))
        (pss_one (ps_ret pe_bl))
        pss_nil)
        (pss_cons (ps_if (PW.pt (pw_or (pt_cmpR op_gt (pe_ix ix_tup (pv 4) pe_int (fun _ _ => rfl)) (pv 2) (nomark _)) (pw_or1 (pt_cmpR op_ge (pv 2) (pe_op op_add (pe_ix ix_tup (pv 4) pe_int (fun _ _ => rfl)) (pv 3)) (nomark _)))))
        (pss_one (ps_ret pe_bl))
        pss_nil)
        (pss_one (ps_set (i := 3) sc_right.nd rfl (Or.inl rfl) (pe_op op_mul (pv 3) pe_int))))))))
      (pss_one (ps_ret pe_bl))))), ?_⟩
    refine ⟨_, rfl, _, _, _, _, true, rfl, .ty "list", .base (.lst hp), kit_ty (by decide +kernel), _, rfl, iteF ?_⟩
    refine ⟨_, rfl, p, _, rfl, .inl (SqL.of hp), _, rfl, _, _, rfl, rfl, rfl, _, rfl, iteNS (by rw [List.length_map, hl]; rfl) ?_⟩
    refine ⟨_, rfl, p, rfl, ⟨_, SqL.of hp⟩, for_list (xs := ts.map V.ref) (fun i σ H' => H' = H ∧ ∃ y4 y5, σ = [some (.ref p), some (.int d), some (.int n), some (.int ((2 ^ i : Nat) : Int)), y4, y5])
      ⟨rfl, none, none, rfl⟩ (fun i σ H' _ h => by rw [h.1]; exact SqL.of hp) ?_ ?_⟩
    · rintro i x σ H' hx ⟨rfl, y4, y5, rfl⟩
      rw [List.getElem?_map] at hx
      obtain ⟨t, ht, rfl⟩ := Option.map_eq_some_iff.mp hx
      have hk := hb i t ht
      have hT : H' t = some (.tup [.int ((n : Int) - (n : Int) % ((2 ^ i : Nat) : Int)), .int ((2 ^ i : Nat) : Int)]) := hk
      have h2 := two_pos i
      refine ⟨_, rfl, _, _, _, _, true, rfl, .ty "tuple", .base (.tup hT), kit_ty (by decide +kernel), _, rfl, iteF ?_⟩
      refine ⟨_, rfl, t, _, rfl, .inr (SqT.of hT), rfl, _, rfl, iteNS rfl ?_⟩
      refine ⟨_, rfl, t, rfl, ⟨_, SqT.of hT⟩, for_tup (xs := [.int ((n : Int) - (n : Int) % ((2 ^ i : Nat) : Int)), .int ((2 ^ i : Nat) : Int)]) (fun j σ H2 => H2 = H' ∧ ∃ y5, σ = [some (.ref p), some (.int d), some (.int n), some (.int ((2 ^ i : Nat) : Int)), some (.ref t), y5])
        ⟨rfl, y5, rfl⟩ (fun j σ H2 _ h => by rw [h.1]; exact SqT.of hT) ?_ ?_⟩
      · rintro j x σ H2 hx ⟨rfl, y5, rfl⟩
        have hxi : ∃ m : Int, x = .int m := by
          match j, hx with
          | 0, hx => exact ⟨_, (Option.some.inj hx).symm⟩
          | 1, hx => exact ⟨_, (Option.some.inj hx).symm⟩
          | j + 2, hx => simp at hx
        obtain ⟨m, rfl⟩ := hxi
        refine ⟨_, rfl, _, _, _, _, true, rfl, .ty "int", .base (.int m), kit_ty (by decide +kernel), _, rfl, iteF ?_⟩
        refine ⟨_, rfl, _, _, _, _, false, rfl, .ty "bool", .base (.int m), kit_ty (by decide +kernel), _, rfl, iteF ?_⟩
        exact ⟨rfl, _, rfl⟩
      · rintro σ H2 ⟨rfl, y5, rfl⟩
        refine ⟨_, rfl, t, _, 1, _, rfl, rfl, SqT.of hT, rfl, _, rfl, rfl, _, rfl, iteNS rfl ?_⟩
        refine ⟨_, rfl, t, _, 0, _, rfl, rfl, SqT.of hT, rfl, .inl ⟨_, rfl, _, rfl, _, _, rfl, rfl, h2, rfl, _, rfl, iteNS ?_ ?_⟩⟩
        · show V.int (((n : Int) - (n : Int) % ((2 ^ i : Nat) : Int)) % ((2 ^ i : Nat) : Int)) = V.int 0
          rw [Int.sub_emod, Int.emod_emod, Int.sub_self, Int.zero_emod]
        refine ⟨_, rfl, t, _, 0, _, rfl, rfl, SqT.of hT, rfl, _, rfl, _, _, rfl, rfl, _, rfl, iteD0 ?_ ?_⟩
        · have := Int.emod_nonneg (n : Int) (Int.ne_of_gt h2)
          omega
        refine ⟨_, rfl, _, rfl, t, _, 0, _, rfl, rfl, SqT.of hT, rfl, _, rfl, _, _, rfl, rfl, _, _, rfl, rfl, _, rfl, iteD0 ?_ ?_⟩
        · have := Int.emod_lt_of_pos (n : Int) h2
          omega
        refine ⟨_, rfl, _, _, rfl, rfl, .inr ⟨by decide, by decide⟩, rfl, some (V.ref t), y5, ?_⟩
        rw [← two_next]
        rfl
    · rintro σ H' ⟨rfl, y4, y5, rfl⟩
      exact q
theorem ok_questions (T : Txt K mg) : FnOk P w K mg base CX0 2 T.f_questions T.fd_questions ["_law_box"] sp_questions := by
  have G_take : FnOk P w K mg base CX0 1 T.f_take T.fd_take ["_law_box", "_law_size"] sp_take := ok_take T
  have G_whole : FnOk P w K mg base CX0 1 T.f_whole T.fd_whole ["_law_levels"] sp_whole := ok_whole T
  refine T.F_questions.ok sc_questions (fun vs H Q E h => ?_) (fun cdv A outer s H vs Q E hr h => ?_)
  · obtain ⟨a, rfl, _⟩ := h
    rfl
  · obtain ⟨a, rfl, hB, q⟩ := h
    refine ⟨_, (pss_cons (ps_set (i := 1) sc_questions.nd rfl (Or.inl rfl) (pe_call G_take (hr.mono (by decide)) (by rfl) T.g_take T.F_take.kp T.b_take .nil pass0 (pa_cons (pv 0) (pa_cons pe_int pa_nil))))
      (pss_cons (ps_set (i := 2) sc_questions.nd rfl (Or.inl rfl) (pe_call G_whole (hr.mono (by decide)) (by rfl) T.g_whole T.F_whole.kp T.b_whole .nil pass0 (pa_cons (pv 1) pa_nil)))
      (pss_cons (ps_set (i := 3) sc_questions.nd rfl (Or.inl rfl) (pe_lst (pa_cons (pe_tup (pa_cons (pv 1) (pa_cons pe_int pa_nil))) (pa_cons (pe_tup (pa_cons (pv 1) (pa_cons (pe_op op_sub (pv 2) pe_int) pa_nil))) pa_nil))))
      (pss_cons (ps_for PassesOwn.never rfl (pi_range1 (by rfl) T.z_range (pa_cons pe_int pa_nil)) (pg_name (i := 4) sc_questions.nd rfl (Or.inl rfl))
      (pss_one (ps_expr (pe_bm PySem.F.plainAttrs_list PySem.F.slot_list_append PySem.F.type_list_append mt_append (pv 3) (pa_cons (pe_tup (pa_cons (pv 1) (pa_cons (pe_call G_take (hr.mono (by decide)) (by rfl) T.g_take T.F_take.kp T.b_take .nil pass0 (pa_cons (pv 0) (pa_cons (pv 2) pa_nil))) pa_nil))) pa_nil)))))
      (pss_one (ps_ret (pv 3))))))), ?_⟩
    refine ⟨_, rfl, a, 9, rfl, hB, by decide, by decide, fun d H1 h0 h9 B1 N1 => ?_⟩
    obtain ⟨d, rfl⟩ := Int.eq_ofNat_of_zero_le h0
    refine ⟨_, rfl, d, rfl, by omega, ?_⟩
    have hd8 : d ≤ 8 := by omega
    have h256 : 2 ^ d ≤ 256 := Nat.pow_le_pow_right (by decide) hd8
    have h1 : 1 ≤ 2 ^ d := Nat.two_pow_pos d
    refine ⟨_, rfl, sz (by show 2 ≤ 100000; decide), fun t0 ht0 => ?_⟩
    refine ⟨_, rfl, _, rfl, _, _, rfl, rfl, sz (by show 2 ≤ 100000; decide), fun t1 ht1 => ?_⟩
    refine ⟨sz (by show 2 ≤ 100000; decide), fun p hp => ?_⟩
    have S0 : Same H1 (upd H1 t0 (.tup [.int d, .int 0])) := Same.new ht0
    have S1 : Same (upd H1 t0 (.tup [.int d, .int 0])) (upd (upd H1 t0 (.tup [.int d, .int 0])) t1 (.tup [.int d, .int (((2 ^ d : Nat) : Int) - 1)])) := Same.new ht1
    have A0 : Ask (upd (upd H1 t0 (.tup [.int d, .int 0])) t1 (.tup [.int d, .int (((2 ^ d : Nat) : Int) - 1)])) t0 := ⟨d, 0, S1 _ _ upd_same, hd8, h1⟩
    have A1 : Ask (upd (upd H1 t0 (.tup [.int d, .int 0])) t1 (.tup [.int d, .int (((2 ^ d : Nat) : Int) - 1)])) t1 := by
      refine ⟨d, 2 ^ d - 1, ?_, hd8, by omega⟩
      rw [upd_same, Int.ofNat_sub h1]
      rfl
    revert A0 A1
    generalize (upd (upd H1 t0 (.tup [.int d, .int 0])) t1 (.tup [.int d, .int (((2 ^ d : Nat) : Int) - 1)])) = H2 at *
    intro A0 A1
    have Sn : Same H2 (upd H2 p (.lst [.ref t0, .ref t1])) := Same.new hp
    have hp1 : H1 p = none := (S0.trans S1).free hp
    have hp0 : H p = none := B1.none hp1
    have nap : a ≠ p := by
      obtain ⟨o, e, _⟩ := B1.2
      exact ne_of_none e hp1
    refine ⟨4, rfl, by decide, by decide, for_range (n := 4) (fun i σ H' => ∃ (y : Option V) (ts : List Addr), σ = [some (.ref a), some (.int d), some (.int ((2 ^ d : Nat) : Int)), some (.ref p), y] ∧ But a H H' ∧ H' p = some (.lst (ts.map V.ref)) ∧ ts.length = i + 2 ∧ ∀ t ∈ ts, Ask H' t)
      ⟨none, [t0, t1], rfl, (B1.same (S0.trans S1)).same Sn, upd_same, rfl, ?_⟩ ?_ ?_⟩
    · intro t ht
      rcases List.mem_cons.mp ht with rfl | ht
      · obtain ⟨x, y, e, z⟩ := A0
        exact ⟨x, y, Sn _ _ e, z⟩
      · obtain rfl := List.mem_singleton.mp ht
        obtain ⟨x, y, e, z⟩ := A1
        exact ⟨x, y, Sn _ _ e, z⟩
    · rintro i σ H' hi ⟨y, ts, rfl, bt, ep, el, ask⟩
      refine ⟨_, rfl, .inl ⟨rfl, _, SqL.of ep⟩, _, rfl, _, rfl, _, rfl, a, _, rfl, bt.2, by omega, by omega, fun n H3 n0 nn B3 N3 => ?_⟩
      obtain ⟨n, rfl⟩ := Int.eq_ofNat_of_zero_le n0
      refine ⟨sz (by show 2 ≤ 100000; decide), fun t ht => ?_⟩
      have ep3 : H3 p = some (.lst (ts.map V.ref)) := B3.1 _ _ nap.symm ep
      have St : Same H3 (upd H3 t (.tup [.int d, .int n])) := Same.new ht
      refine ⟨p, _, _, rfl, rfl, St _ _ ep3, szl (by rw [List.length_map]; omega), _, ts ++ [t], rfl, ?_, ?_, ?_, ?_⟩
      · refine ⟨fun b o nb e => ?_, ?_⟩
        · have nbp : b ≠ p := ne_of_none e hp0
          rw [upd_ne nbp]
          exact St _ _ ((bt.trans B3).1 b o nb e)
        · obtain ⟨o, e, z⟩ := B3.2
          exact ⟨o, by rw [upd_ne nap]; exact St _ _ e, z⟩
      · rw [upd_same, List.map_append]
        rfl
      · rw [List.length_append, el]
        show i + 2 + 1 = i + 1 + 2
        omega
      · intro u hu
        rcases List.mem_append.mp hu with hu | hu
        · obtain ⟨x, y, e, z⟩ := ask u hu
          have nua : u ≠ a := by
            intro q
            subst q
            obtain ⟨t', c', k', e2⟩ := bt.2.lst
            rw [e] at e2
            cases e2
          have nup : u ≠ p := ne_of e ep (by intro q; cases q)
          exact ⟨x, y, by rw [upd_ne nup]; exact St _ _ (B3.1 _ _ nua e), z⟩
        · obtain rfl := List.mem_singleton.mp hu
          exact ⟨d, n, by rw [upd_ne (ne_of_none ep3 ht).symm, upd_same], hd8, by omega⟩
    · rintro σ H' ⟨y, ts, rfl, bt, ep, el, ask⟩
      exact ⟨_, rfl, q H' p ts bt hp0 ep (by omega) ask⟩
theorem Ask.same {H H' : Hp} {t : Addr} (s : Same H H') (h : Ask H t) : Ask H' t := by
  obtain ⟨d, n, e, z⟩ := h
  exact ⟨d, n, s _ _ e, z⟩
theorem ok_law (T : Txt K mg) : FnOk P w K mg base CX0 3 T.f_law T.fd_law ["_law_script"] (sp_law K) := by
  have G_open : FnOk P w K mg base CX0 1 T.f_open T.fd_open ["_law_script", "_law_at"] (sp_open K) := ok_open T
  have G_questions : FnOk P w K mg base CX0 2 T.f_questions T.fd_questions ["_law_box"] sp_questions := ok_questions T
  have G_right : FnOk P w K mg base CX0 1 T.f_right T.fd_right ["_law_told", "_law_levels", "_law_place"] (sp_right K) := ok_right T
  have G_blocks_with : FnOk P w K mg base CX0 1 T.f_blocks_with T.fd_blocks_with ["depth", "place"] sp_blocks_with := ok_blocks_with T
  refine T.F_law.ok sc_law (fun vs H Q E h => ?_) (fun cdv A outer s H vs Q E hr h => ?_)
  · obtain ⟨a, ns, rfl, _⟩ := h
    rfl
  · obtain ⟨a, ns, rfl, hS, hlen, q⟩ := h
    refine ⟨_, (pss_cons (ps_set (i := 1) sc_law.nd rfl (Or.inl rfl) (pe_op op_cat (pe_call G_questions (hr.mono (by decide)) (by rfl) T.g_questions T.F_questions.kp T.b_questions .nil pass0 (pa_cons (pe_call G_open (hr.mono (by decide)) (by rfl) T.g_open T.F_open.kp T.b_open .nil pass0 (pa_cons (pv 0) (pa_cons pe_int pa_nil))) pa_nil)) (pe_call G_questions (hr.mono (by decide)) (by rfl) T.g_questions T.F_questions.kp T.b_questions .nil pass0 (pa_cons (pe_call G_open (hr.mono (by decide)) (by rfl) T.g_open T.F_open.kp T.b_open .nil pass0 (pa_cons (pv 0) (pa_cons pe_int pa_nil))) pa_nil))))
      (pss_cons (ps_for PassesOwn.never rfl (pi_list (pv 1)) (pg_name (i := 2) sc_law.nd rfl (Or.inl rfl))
      (pss_cons (ps_set (i := 3) sc_law.nd rfl (Or.inl rfl) (pe_call G_blocks_with (hr.mono (by decide)) (by rfl) T.g_blocks_with T.F_blocks_with.kp T.b_blocks_with .nil pass0 (pa_cons (pe_ix ix_tup (pv 2) pe_int (fun _ _ => rfl)) (pa_cons (pe_ix ix_tup (pv 2) pe_int (fun _ _ => rfl)) pa_nil))))
        (pss_cons (ps_if (pt_not (pt_val (pe_call G_right (hr.mono (by decide)) (by rfl) T.g_right T.F_right.kp T.b_right .nil pass0 (pa_cons (pv 3) (pa_cons (pe_ix ix_tup (pv 2) pe_int (fun _ _ => rfl)) (pa_cons (pe_ix ix_tup (pv 2) pe_int (fun _ _ => rfl)) pa_nil))))))
        (pss_one (ps_ret pe_bl))
        pss_nil)
        (pss_cons (ps_asg (pe_tup (pa_cons (pe_op op_add (pe_ix ix_tup (pv 2) pe_int (fun _ _ => rfl)) pe_int) (pa_cons pe_int pa_nil))) (pg_sub (pv 3) pe_int set_list))
        (pss_one (ps_expr (pe_bm PySem.F.plainAttrs_list PySem.F.slot_list_append PySem.F.type_list_append mt_append (pv 3) (pa_cons (pe_tup (pa_cons pe_int (pa_cons pe_int pa_nil))) pa_nil))))))))
      (pss_cons (ps_for PassesOwn.never rfl (pi_list (pv 1)) (pg_name (i := 2) sc_law.nd rfl (Or.inl rfl))
      (pss_one (ps_if (pt_not (pt_val (pe_call G_right (hr.mono (by decide)) (by rfl) T.g_right T.F_right.kp T.b_right .nil pass0 (pa_cons (pe_call G_blocks_with (hr.mono (by decide)) (by rfl) T.g_blocks_with T.F_blocks_with.kp T.b_blocks_with .nil pass0 (pa_cons (pe_ix ix_tup (pv 2) pe_int (fun _ _ => rfl)) (pa_cons (pe_ix ix_tup (pv 2) pe_int (fun _ _ => rfl)) pa_nil))) (pa_cons (pe_ix ix_tup (pv 2) pe_int (fun _ _ => rfl)) (pa_cons (pe_ix ix_tup (pv 2) pe_int (fun _ _ => rfl)) pa_nil))))))
        (pss_one (ps_ret pe_bl))
        pss_nil)))
      (pss_one (ps_ret pe_bl))))), ?_⟩
    refine ⟨_, rfl, a, ns, 0, rfl, hS, fun b0 o0 hb0 ho0 => ?_⟩
    have S0 : Same H (upd H b0 o0) := Same.new hb0
    refine ⟨b0, rfl, ⟨o0, upd_same, ho0⟩, fun H1 p ts B1 hp1 ep lp ask1 => ?_⟩
    have S1 : Same H H1 := B1.same_of S0 hb0
    refine ⟨_, rfl, a, ns, 1, rfl, S1.seq hS, fun b1 o1 hb1 ho1 => ?_⟩
    have S2 : Same H1 (upd H1 b1 o1) := Same.new hb1
    refine ⟨b1, rfl, ⟨o1, upd_same, ho1⟩, fun H2 p2 ts2 B2 hp2 ep2 lp2 ask2 => ?_⟩
    have S3 : Same H1 H2 := B2.same_of S2 hb1
    refine ⟨p, p2, _, _, rfl, rfl, S3 _ _ ep, ep2, sz (by rw [List.length_map, List.length_map]; omega), fun l hl => ?_⟩
    have S4 : Same H2 (upd H2 l (.lst (ts.map V.ref ++ ts2.map V.ref))) := Same.new hl
    have ask : ∀ t ∈ ts ++ ts2, Ask (upd H2 l (.lst (ts.map V.ref ++ ts2.map V.ref))) t := fun t ht => by
      rcases List.mem_append.mp ht with h | h
      · exact ((ask1 t h).same S3).same S4
      · exact (ask2 t h).same S4
    have el : (upd H2 l (.lst (ts.map V.ref ++ ts2.map V.ref))) l = some (.lst ((ts ++ ts2).map V.ref)) := by rw [upd_same, List.map_append]
    revert ask el
    generalize upd H2 l (.lst (ts.map V.ref ++ ts2.map V.ref)) = H3
    intro ask el
    refine ⟨_, rfl, l, rfl, ⟨_, SqL.of el⟩, for_list (xs := (ts ++ ts2).map V.ref) (fun i σ H' => Same H3 H' ∧ ∃ y2 y3, σ = [some (.ref a), some (.ref l), y2, y3])
      ⟨Same.refl _, none, none, rfl⟩ (fun i σ H' _ h => SqL.of (h.1 _ _ el)) ?_ ?_⟩
    · rintro i x σ H' hx ⟨sm, y2, y3, rfl⟩
      rw [List.getElem?_map] at hx
      obtain ⟨t, ht, rfl⟩ := Option.map_eq_some_iff.mp hx
      obtain ⟨d, n, et, hd, hn⟩ := (ask t (List.mem_of_getElem? ht)).same sm
      refine ⟨_, rfl, t, _, 0, _, rfl, rfl, SqT.of et, rfl, _, rfl, t, _, 1, _, rfl, rfl, SqT.of et, rfl, d, n, rfl, hd, fun H4 p4 ts4 sm4 hp4 ep4 lp4 hb4 => ?_⟩
      have et4 := sm4 _ _ et
      refine ⟨_, rfl, _, rfl, t, _, 0, _, rfl, rfl, SqT.of et4, rfl, _, rfl, t, _, 1, _, rfl, rfl, SqT.of et4, rfl, p4, d, n, ts4, rfl, ep4, lp4, hb4, _, rfl, iteF ?_⟩
      refine ⟨_, rfl, t, _, 1, _, rfl, rfl, SqT.of et4, rfl, _, _, rfl, rfl, sz (by show 2 ≤ 100000; decide), fun t5 ht5 => ?_⟩
      have S5 : Same H4 (upd H4 t5 (.tup [.int ((n : Int) + 1), .int 1])) := Same.new ht5
      have e5 := S5 _ _ ep4
      refine ⟨_, rfl, p4, _, 0, 0, rfl, rfl, e5, ?_, ?_⟩
      · rw [List.length_map, lp4]
        unfold ixN
        rw [if_pos (by decide), if_pos (by omega)]
        rfl
      refine ⟨_, rfl, .inl ⟨rfl, _, SqL.of upd_same⟩, sz (by show 2 ≤ 100000; decide), fun t6 ht6 => ?_⟩
      refine ⟨p4, _, _, rfl, rfl, (Same.new ht6) _ _ upd_same, szl (by rw [List.length_set, List.length_map]; omega), ?_, _, _, rfl⟩
      have n4 : H3 p4 = none := sm.free hp4
      refine Same.mut ?_ n4
      refine Same.trans (Same.mut ((sm.trans sm4).trans S5) n4) (Same.new ht6)
    · rintro σ H' ⟨sm, y2, y3, rfl⟩
      refine ⟨_, rfl, l, rfl, ⟨_, SqL.of (sm _ _ el)⟩, for_list (xs := (ts ++ ts2).map V.ref) (fun i σ H' => Same H3 H' ∧ ∃ y2 y3, σ = [some (.ref a), some (.ref l), y2, y3])
        ⟨sm, y2, y3, rfl⟩ (fun i σ H' _ h => SqL.of (h.1 _ _ el)) ?_ ?_⟩
      · rintro i x σ H' hx ⟨sm, y2, y3, rfl⟩
        rw [List.getElem?_map] at hx
        obtain ⟨t, ht, rfl⟩ := Option.map_eq_some_iff.mp hx
        obtain ⟨d, n, et, hd, hn⟩ := (ask t (List.mem_of_getElem? ht)).same sm
        refine ⟨_, rfl, t, _, 0, _, rfl, rfl, SqT.of et, rfl, _, rfl, t, _, 1, _, rfl, rfl, SqT.of et, rfl, d, n, rfl, hd, fun H4 p4 ts4 sm4 hp4 ep4 lp4 hb4 => ?_⟩
        have et4 := sm4 _ _ et
        refine ⟨_, rfl, t, _, 0, _, rfl, rfl, SqT.of et4, rfl, _, rfl, t, _, 1, _, rfl, rfl, SqT.of et4, rfl, p4, d, n, ts4, rfl, ep4, lp4, hb4, _, rfl, iteF ?_⟩
        exact ⟨sm.trans sm4, _, _, rfl⟩
      · rintro σ H' ⟨sm, y2, y3, rfl⟩
        exact q _
end
theorem all_mk {l : PySem.W.OpenLaw} {w : World} {K : PySem.W.Frag} {h : Heap} {mg : Str → Option Value} {fa f0 f1 f2 f3 f4 f5 f6 : Addr} (X : K.In h) (G : h.Ns mainGlobals mg) (hfa : mg "law" = some (.ref fa))
    {od0 an0 od1 an1 od2 an2 od3 an3 od4 an4 od5 an5 od6 an6 : Option Addr} {sl0 sl1 sl2 sl3 sl4 sl5 sl6 : Array (Option Value)} {oc0 kV0 dc0 pm0 cd0 ct0 oc1 kV1 dc1 pm1 cd1 ct1 oc2 kV2 dc2 pm2 cd2 ct2 oc3 kV3 dc3 pm3 cd3 ct3 oc4 kV4 dc4 pm4 cd4 ct4 oc5 kV5 dc5 pm5 cd5 ct5 oc6 kV6 dc6 pm6 cd6 ct6 : Value}
    (a0 : PySem.W.nsIn K mainGlobals "blocks_with" = some (some (.ref f0))) (l0 : K.lookup f0 = some ⟨oc0, od0, .func (PySem.W.fnOf "blocks_with" "blocks_with" (defArgs s_blocks_with) (defBody s_blocks_with) (defScope s_blocks_with) .none kV0 dc0 pm0 an0 cd0 ct0), sl0⟩) (c0 : PySem.W.codeIn K cd0 "blocks_with" = true) (k0 : PySem.W.keepIn K (.ref f0) = true)
    (a1 : PySem.W.nsIn K mainGlobals "_law_open" = some (some (.ref f1))) (l1 : K.lookup f1 = some ⟨oc1, od1, .func (PySem.W.fnOf "_law_open" "_law_open" (defArgs s_open) (defBody s_open) (defScope s_open) .none kV1 dc1 pm1 an1 cd1 ct1), sl1⟩) (c1 : PySem.W.codeIn K cd1 "_law_open" = true) (k1 : PySem.W.keepIn K (.ref f1) = true)
    (a2 : PySem.W.nsIn K mainGlobals "_law_take" = some (some (.ref f2))) (l2 : K.lookup f2 = some ⟨oc2, od2, .func (PySem.W.fnOf "_law_take" "_law_take" (defArgs s_take) (defBody s_take) (defScope s_take) .none kV2 dc2 pm2 an2 cd2 ct2), sl2⟩) (c2 : PySem.W.codeIn K cd2 "_law_take" = true) (k2 : PySem.W.keepIn K (.ref f2) = true)
    (a3 : PySem.W.nsIn K mainGlobals "_law_whole" = some (some (.ref f3))) (l3 : K.lookup f3 = some ⟨oc3, od3, .func (PySem.W.fnOf "_law_whole" "_law_whole" (defArgs s_whole) (defBody s_whole) (defScope s_whole) .none kV3 dc3 pm3 an3 cd3 ct3), sl3⟩) (c3 : PySem.W.codeIn K cd3 "_law_whole" = true) (k3 : PySem.W.keepIn K (.ref f3) = true)
    (a4 : PySem.W.nsIn K mainGlobals "_law_questions" = some (some (.ref f4))) (l4 : K.lookup f4 = some ⟨oc4, od4, .func (PySem.W.fnOf "_law_questions" "_law_questions" (defArgs s_questions) (defBody s_questions) (defScope s_questions) .none kV4 dc4 pm4 an4 cd4 ct4), sl4⟩) (c4 : PySem.W.codeIn K cd4 "_law_questions" = true) (k4 : PySem.W.keepIn K (.ref f4) = true)
    (a5 : PySem.W.nsIn K mainGlobals "_law_right" = some (some (.ref f5))) (l5 : K.lookup f5 = some ⟨oc5, od5, .func (PySem.W.fnOf "_law_right" "_law_right" (defArgs s_right) (defBody s_right) (defScope s_right) .none kV5 dc5 pm5 an5 cd5 ct5), sl5⟩) (c5 : PySem.W.codeIn K cd5 "_law_right" = true) (k5 : PySem.W.keepIn K (.ref f5) = true)
    (a6 : PySem.W.nsIn K mainGlobals "law" = some (some (.ref f6))) (l6 : K.lookup f6 = some ⟨oc6, od6, .func (PySem.W.fnOf "law" "law" (defArgs s_law) (defBody s_law) (defScope s_law) .none kV6 dc6 pm6 an6 cd6 ct6), sl6⟩) (c6 : PySem.W.codeIn K cd6 "law" = true) (k6 : PySem.W.keepIn K (.ref f6) = true)
    (z0 : PySem.W.nsIn K mainGlobals "range" = some none)
    (z1 : PySem.W.nsIn K mainGlobals "len" = some none)
    (z2 : PySem.W.nsIn K mainGlobals "int" = some none)
    (z3 : PySem.W.nsIn K mainGlobals "isinstance" = some none)
    (z4 : PySem.W.nsIn K mainGlobals "list" = some none)
    (z5 : PySem.W.nsIn K mainGlobals "tuple" = some none)
    (z6 : PySem.W.nsIn K mainGlobals "bool" = some none)
    : ∃ fd : FuncData, (∀ (s : Shared) (v : Value), BindsTo s fd ⟨[v], []⟩ [("_law_script", v)]) ∧ ∀ base : Heap, K.In base → base.Ns mainGlobals mg → FnOk l.prog w K mg base CX0 3 fa fd ["_law_script"] (sp_law K) := by
  have e := hfa.symm.trans (PySem.W.mg_of X G a6)
  cases e
  have F0 := fun_mk (st := s_blocks_with) l0 c0 k0
  have F1 := fun_mk (st := s_open) l1 c1 k1
  have F2 := fun_mk (st := s_take) l2 c2 k2
  have F3 := fun_mk (st := s_whole) l3 c3 k3
  have F4 := fun_mk (st := s_questions) l4 c4 k4
  have F5 := fun_mk (st := s_right) l5 c5 k5
  have F6 := fun_mk (st := s_law) l6 c6 k6
  let T : Txt K mg := ⟨_, _, F0, (F0.binds (ps := ["depth", "place"]) fun _ _ _ _ _ _ us hl => match us, hl with | [_, _], _ => rfl), PySem.W.mg_of X G a0,
    _, _, F1, (F1.binds (ps := ["_law_script", "_law_at"]) fun _ _ _ _ _ _ us hl => match us, hl with | [_, _], _ => rfl), PySem.W.mg_of X G a1,
    _, _, F2, (F2.binds (ps := ["_law_box", "_law_size"]) fun _ _ _ _ _ _ us hl => match us, hl with | [_, _], _ => rfl), PySem.W.mg_of X G a2,
    _, _, F3, (F3.binds (ps := ["_law_levels"]) fun _ _ _ _ _ _ us hl => match us, hl with | [_], _ => rfl), PySem.W.mg_of X G a3,
    _, _, F4, (F4.binds (ps := ["_law_box"]) fun _ _ _ _ _ _ us hl => match us, hl with | [_], _ => rfl), PySem.W.mg_of X G a4,
    _, _, F5, (F5.binds (ps := ["_law_told", "_law_levels", "_law_place"]) fun _ _ _ _ _ _ us hl => match us, hl with | [_, _, _], _ => rfl), PySem.W.mg_of X G a5,
    _, _, F6, (F6.binds (ps := ["_law_script"]) fun _ _ _ _ _ _ us hl => match us, hl with | [_], _ => rfl), PySem.W.mg_of X G a6,
    PySem.W.mg_none_of X G z0, PySem.W.mg_none_of X G z1, PySem.W.mg_none_of X G z2, PySem.W.mg_none_of X G z3, PySem.W.mg_none_of X G z4, PySem.W.mg_none_of X G z5, PySem.W.mg_none_of X G z6⟩
  exact ⟨PySem.W.fnOf "law" "law" (defArgs s_law) (defBody s_law) (defScope s_law) .none kV6 dc6 pm6 an6 cd6 ct6, fun s v => .of_eq rfl, fun base _ _ => ok_law T⟩
end P9
open PySem PySem.W PyProof.Rows in
set_option maxRecDepth 100000 in
set_option maxHeartbeats 0 in
theorem PySem.Challenge.cw_forkedshelves_k09_blocks_of_a_place_holds : PySem.Challenge.rw_forkedshelves_k09_blocks_of_a_place.Holds := by
  w_on; o_law; k_head; (case hw => w_witness2)
  k_fill
  refine L2.walk_of (l := PySem.Challenge.rw_forkedshelves_k09_blocks_of_a_place) (n := 63) (k := 3) (x := "_law_script") (CX := fun _ => L2.CX0) (sp := fun w => P9.sp_law _) rfl (by decide) rfl ⟨rfl, by decide, by decide⟩ (fun w h Y => PySem.W.kIn_of Y) ?F (fun _ _ a ns hl _ hS => ⟨a, ns, rfl, hS, hl, fun _ => rfl⟩) (fun _ _ _ _ _ h => h)
  case F =>
    intro w mg fa h KX G hmg
    refine' P9.all_mk KX G hmg ?a0 ?l0 ?c0 ?k0 ?a1 ?l1 ?c1 ?k1 ?a2 ?l2 ?c2 ?k2 ?a3 ?l3 ?c3 ?k3 ?a4 ?l4 ?c4 ?k4 ?a5 ?l5 ?c5 ?k5 ?a6 ?l6 ?c6 ?k6 ?z0 ?z1 ?z2 ?z3 ?z4 ?z5 ?z6
    (case a0 => k_is)
    (case l0 => k_is)
    (case c0 => k_is)
    (case k0 => k_is)
    (case a1 => k_is)
    (case l1 => k_is)
    (case c1 => k_is)
    (case k1 => k_is)
    (case a2 => k_is)
    (case l2 => k_is)
    (case c2 => k_is)
    (case k2 => k_is)
    (case a3 => k_is)
    (case l3 => k_is)
    (case c3 => k_is)
    (case k3 => k_is)
    (case a4 => k_is)
    (case l4 => k_is)
    (case c4 => k_is)
    (case k4 => k_is)
    (case a5 => k_is)
    (case l5 => k_is)
    (case c5 => k_is)
    (case k5 => k_is)
    (case a6 => k_is)
    (case l6 => k_is)
    (case c6 => k_is)
    (case k6 => k_is)
    (case z0 => k_is)
    (case z1 => k_is)
    (case z2 => k_is)
    (case z3 => k_is)
    (case z4 => k_is)
    (case z5 => k_is)
    (case z6 => k_is)

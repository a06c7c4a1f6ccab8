import PyProof.Rows.All
import Wide.All
import OpenK.AllK
import Wide.FinOn
import PySem.Challenge.RW_cutsanywhere_k02_points_in_words
import HandS.ForMost
import HandS.Wide
import HandS.IntHex
import HandS.FStr
import HandS.IsInst
import PyProof.FString3
import KE.KxField
set_option Elab.async false
set_option linter.all false
set_option maxRecDepth 100000
set_option maxHeartbeats 4000000
namespace CA
open PySem PySem.Spec PyProof.Rows L2
def topS (i : Nat) : Stmt := PySem.Challenge.pw_cutsanywhere_k02_points_in_words.main.body.getD i (.Pass ⟨0, 0, 0, 0⟩)
abbrev sIsInteger : Stmt := topS 5
theorem scIsInteger : FnScope ["thing"] ["thing"] (defScope sIsInteger) := ⟨rfl, rfl, rfl, by decide +kernel, rfl, by decide +kernel, by decide +kernel⟩
abbrev sIsPoint : Stmt := topS 6
theorem scIsPoint : FnScope ["thing"] ["thing"] (defScope sIsPoint) := ⟨rfl, rfl, rfl, by decide +kernel, rfl, by decide +kernel, by decide +kernel⟩
abbrev sPointText : Stmt := topS 7
theorem scPointText : FnScope ["point"] ["point"] (defScope sPointText) := ⟨rfl, rfl, rfl, by decide +kernel, rfl, by decide +kernel, by decide +kernel⟩
abbrev sPointBy : Stmt := topS 8
theorem scPointBy : FnScope ["figures", "figure", "point"] ["figures"] (defScope sPointBy) := ⟨rfl, rfl, rfl, by decide +kernel, rfl, by decide +kernel, by decide +kernel⟩
abbrev sCell : Stmt := topS 10
theorem scCell : FnScope ["script", "k"] ["script", "k"] (defScope sCell) := ⟨rfl, rfl, rfl, by decide +kernel, rfl, by decide +kernel, by decide +kernel⟩
abbrev sDraw : Stmt := topS 11
theorem scDraw : FnScope ["cell", "k", "bound", "primes"] ["cell", "k", "bound"] (defScope sDraw) := ⟨rfl, rfl, rfl, by decide +kernel, rfl, by decide +kernel, by decide +kernel⟩
abbrev sNumber : Stmt := topS 12
theorem scNumber : FnScope ["cell", "k", "bound", "power", "lap", "remains", "small"] ["cell", "k", "bound"] (defScope sNumber) := ⟨rfl, rfl, rfl, by decide +kernel, rfl, by decide +kernel, by decide +kernel⟩
abbrev sNext : Stmt := topS 13
theorem scNext : FnScope ["draw", "bound", "at", "cell"] ["draw", "bound"] (defScope sNext) := ⟨rfl, rfl, rfl, by decide +kernel, rfl, by decide +kernel, by decide +kernel⟩
abbrev sPick : Stmt := topS 14
theorem scPick : FnScope ["draw", "things"] ["draw", "things"] (defScope sPick) := ⟨rfl, rfl, rfl, by decide +kernel, rfl, by decide +kernel, by decide +kernel⟩
abbrev sLFigures : Stmt := topS 15
theorem scLFigures : FnScope ["point", "found", "rest", "turn"] ["point"] (defScope sLFigures) := ⟨rfl, rfl, rfl, by decide +kernel, rfl, by decide +kernel, by decide +kernel⟩
abbrev sLIsPoint : Stmt := topS 16
theorem scLIsPoint : FnScope ["number"] ["number"] (defScope sLIsPoint) := ⟨rfl, rfl, rfl, by decide +kernel, rfl, by decide +kernel, by decide +kernel⟩
abbrev sLaw : Stmt := topS 17
theorem scLaw : FnScope ["script", "draw", "turn", "number", "figures", "short", "at"] ["script"] (defScope sLaw) := ⟨rfl, rfl, rfl, by decide +kernel, rfl, by decide +kernel, by decide +kernel⟩
/-! ### drawing: the helpers that all statements share -/
/-- all that was tracked is as it was, but for the object at d -/
def But (d : Addr) (H H' : Hp) : Prop := ∀ b o, b ≠ d → H b = some o → H' b = some o
theorem But.refl (d : Addr) (H : Hp) : But d H H := fun _ _ _ h => h
theorem But.trans {d : Addr} {H H1 H2 : Hp} (a : But d H H1) (b : But d H1 H2) : But d H H2 := fun c o n h => b c o n (a c o n h)
theorem But.same {d : Addr} {H H1 H2 : Hp} (a : But d H H1) (b : Same H1 H2) : But d H H2 := fun c o n h => b c o (a c o n h)
theorem Same.but {d : Addr} {H H1 H2 : Hp} (a : Same H H1) (b : But d H1 H2) : But d H H2 := fun c o n h => b c o n (a c o h)
theorem same_upd {H : Hp} {p : Addr} {o : HO} (h : H p = none) : Same H (upd H p o) := fun b x e => by
  rw [upd_ne (ne_of_none e h)]
  exact e
/-- the state of drawing at d: the script's part, nought, how often one has drawn -/
def Dr (d : Addr) (n : Nat) (H : Hp) : Prop := ∃ (l : Addr) (ns : List Int), l ≠ d ∧ H d = some (.lst [.ref l, .int 0, .int (n : Int)]) ∧ H l = some (.lst (ns.map V.int)) ∧ ns.length ≤ 63
theorem Dr.same {d : Addr} {n : Nat} {H H' : Hp} (a : Dr d n H) (b : Same H H') : Dr d n H' := by
  obtain ⟨l, ns, h1, h2, h3, h4⟩ := a
  exact ⟨l, ns, h1, b _ _ h2, b _ _ h3, h4⟩
theorem Dr.at {d : Addr} {n : Nat} {H : Hp} (a : Dr d n H) : ∃ o, H d = some o := by
  obtain ⟨l, ns, h1, h2, h3, h4⟩ := a
  exact ⟨_, h2⟩
theorem len63 {n : Nat} (h : n ≤ 100000) : n ≤ sizeLine := Nat.le_trans h (by decide)

theorem at_int {α : Type} {xs : List α} {i : Int} (h0 : 0 ≤ i) (h1 : i < (xs.length : Int)) : ∃ (h : i.toNat < xs.length), atI xs i = some (xs[i.toNat]'h) := by
  refine ⟨by omega, ?_⟩
  have e : atI xs ((i.toNat : Nat) : Int) = some (xs[i.toNat]'(by omega)) := atI_nat (List.getElem?_eq_getElem (by omega))
  have e2 : ((i.toNat : Nat) : Int) = i := by omega
  rw [e2] at e
  exact e
theorem cell_at {ns : List Int} {j : Nat} (h : j < ns.length) : atI (ns.map V.int) ((j : Nat) : Int) = some (V.int ns[j]) := atI_nat (by
  rw [List.getElem?_map, List.getElem?_eq_getElem h]
  rfl)
/-! #### the cell at a place, nought behind the last one -/
def spCellAt (K : PySem.W.Frag) : Sp := fun vs H Q _ => ∃ (l : Addr) (ns : List Int) (k : Nat), vs = [.ref l, .int (k : Int)] ∧ SqL K H l (ns.map V.int) ∧ ∀ z : Int, Q (.int z) H
section
variable {P : Program} {w : World} {K : PySem.W.Frag} {mg : Str → Option Value} {base : Heap}
theorem ok_cell {f : Addr} {fd : FuncData} {k : Nat} (F : Fun K "_law_cell_at" "_law_cell_at" sCell f fd) (ml : mg "len" = none) : FnOk P w K mg base CX0 (k + 1) f fd ["script", "k"] (spCellAt K) := by
  refine F.ok scCell (fun vs H Q E h => ?_) (fun cdv A outer s H vs Q E hr h => ?_)
  · obtain ⟨l, ns, j, rfl, _⟩ := h
    rfl
  · obtain ⟨l, ns, j, rfl, hS, q⟩ := h
    refine ⟨_, pss_cons (ps_if (pt_cmpR op_lt (pv 1) (pe_callB call_len_seq (by rfl) ml PySem.boot_len (pa_cons (pv 0) pa_nil)) (nomark _)) (pss_one (ps_ret (pe_ix ix_list (pv 0) (pv 1) (fun _ _ => rfl)))) pss_nil)
      (pss_one (ps_ret pe_int)), ?_⟩
    refine ⟨_, rfl, _, rfl, l, _, rfl, .inl hS, _, _, rfl, rfl, _, rfl, ite2 (fun e => ?_) (fun e => ?_)⟩
    · have hj : j < ns.length := by
        have := of_decide_eq_true e
        rw [List.length_map] at this
        omega
      exact ⟨_, rfl, _, rfl, l, _, _, _, rfl, rfl, hS, cell_at hj, q _⟩
    · exact q 0

/-! #### a small number of two numbers -/
def primesOf : List Int := [1000003, 1000033, 1000037, 1000039, 1000081, 1000099, 1000117, 1000121, 1000133, 1000151, 1000159, 1000171, 1000183, 1000187, 1000193, 1000199]
theorem primes_at {j : Int} (h0 : 0 ≤ j) (h1 : j < 16) : ∃ p : Int, 0 < p ∧ atI (primesOf.map V.int) j = some (.int p) := by
  have key : j = 0 ∨ j = 1 ∨ j = 2 ∨ j = 3 ∨ j = 4 ∨ j = 5 ∨ j = 6 ∨ j = 7 ∨ j = 8 ∨ j = 9 ∨ j = 10 ∨ j = 11 ∨ j = 12 ∨ j = 13 ∨ j = 14 ∨ j = 15 := by omega
  rcases key with rfl | rfl | rfl | rfl | rfl | rfl | rfl | rfl | rfl | rfl | rfl | rfl | rfl | rfl | rfl | rfl <;> exact ⟨_, by decide, rfl⟩
def spDraw (K : PySem.W.Frag) : Sp := fun vs H Q _ => ∃ (c k b : Int), vs = [.int c, .int k, .int b] ∧ 0 < b ∧ (-(2 ^ 64) < k ∧ k < 2 ^ 64) ∧ ∀ (r : Int) H', 0 ≤ r → r < b → Same H H' → Q (.int r) H'
theorem ok_draw {f : Addr} {fd : FuncData} {k : Nat} (F : Fun K "_law_draw" "_law_draw" sDraw f fd) (mi : mg "int" = none) : FnOk P w K mg base CX0 (k + 1) f fd ["cell", "k", "bound"] (spDraw K) := by
  refine F.ok scDraw (fun vs H Q E h => ?_) (fun cdv A outer s H vs Q E hr h => ?_)
  · obtain ⟨c, j, b, rfl, _⟩ := h
    rfl
  · obtain ⟨c, j, b, rfl, hb, hj, q⟩ := h
    refine ⟨_, pss_cons (ps_set (i := 3) scDraw.nd rfl (.inl rfl) (pe_tup (pa_cons pe_int (pa_cons pe_int (pa_cons pe_int (pa_cons pe_int (pa_cons pe_int (pa_cons pe_int (pa_cons pe_int (pa_cons pe_int
        (pa_cons pe_int (pa_cons pe_int (pa_cons pe_int (pa_cons pe_int (pa_cons pe_int (pa_cons pe_int (pa_cons pe_int (pa_cons pe_int pa_nil))))))))))))))))))
      (pss_one (ps_ret (pe_op op_mod (pe_op op_mod (pe_callTy call_int1 (by rfl) mi (by decide +kernel) (pa_cons (pe_op op_add (pe_op op_mul (pv 0) pe_int) (pe_op op_mul (pv 1) pe_int)) pa_nil))
        (pe_ix ix_tup (pv 3) (pe_op op_mod (pe_callTy call_int1 (by rfl) mi (by decide +kernel) (pa_cons (pv 1) pa_nil)) pe_int) (fun _ _ => rfl))) (pv 2)))), ?_⟩
    refine ⟨len63 (by show (16 : Nat) ≤ 100000; decide), fun p np => ?_⟩
    have hp : SqT K (upd H p (.tup (primesOf.map V.int))) p (primesOf.map V.int) := .inl (.inl upd_same)
    obtain ⟨m, hm, he⟩ := primes_at (j := j % 16) (Int.emod_nonneg _ (by decide)) (Int.emod_lt_of_pos _ (by decide))
    refine ⟨_, rfl, _, _, rfl, rfl, .inr ⟨by decide, by decide⟩, _, rfl, _, _, rfl, rfl, .inr ⟨by decide, by decide⟩, _, _, rfl, rfl, .inl ⟨_, rfl, ?_⟩⟩
    refine ⟨_, rfl, _, rfl, .inl ⟨_, rfl, ?_⟩⟩
    refine ⟨_, _, rfl, rfl, (by show (0 : Int) < 16; decide), p, _, _, _, rfl, rfl, hp, he, _, _, rfl, rfl, hm, _, rfl, _, _, rfl, rfl, hb, ?_⟩
    exact q _ _ (Int.emod_nonneg _ (by omega)) (Int.emod_lt_of_pos _ hb) (same_upd np)

/-! #### a number below a bound, of one cell -/
def spNumber (K : PySem.W.Frag) : Sp := fun vs H Q _ => ∃ (c k b : Int), vs = [.int c, .int k, .int b] ∧ 0 < b ∧ (0 ≤ k ∧ k < 1000) ∧ ∀ (r : Int) H', 0 ≤ r → r < b → Same H H' → Q (.int r) H'
theorem pow1009 {i : Nat} (h : i ≤ 24) : ((1009 : Int) ^ i).natAbs < 2 ^ 300 := by
  have e : ((1009 : Int) ^ i).natAbs = 1009 ^ i := by
    rw [Int.natAbs_pow]
    rfl
  rw [e]
  exact Nat.lt_of_le_of_lt (Nat.pow_le_pow_right (by decide) h) (by decide +kernel)
theorem pow1009_pos (i : Nat) : (0 : Int) < (1009 : Int) ^ i := Int.pow_pos (by decide)
theorem ok_number {f fD : Addr} {fd fdD : FuncData} {k : Nat} (F : Fun K "_law_number" "_law_number" sNumber f fd) (FD : Fun K "_law_draw" "_law_draw" sDraw fD fdD) (bD : Binds K fdD ["cell", "k", "bound"] []) (gD : mg "_law_draw" = some (.ref fD))
    (mi : mg "int" = none) (mr : mg "range" = none) : FnOk P w K mg base CX0 (k + 2) f fd ["cell", "k", "bound"] (spNumber K) := by
  have GD : FnOk P w K mg base CX0 (k + 1) fD fdD ["cell", "k", "bound"] (spDraw K) := ok_draw FD mi
  refine F.ok scNumber (fun vs H Q E h => ?_) (fun cdv A outer s H vs Q E hr h => ?_)
  · obtain ⟨c, j, b, rfl, _⟩ := h
    rfl
  · obtain ⟨c, j, b, rfl, hb, hj, q⟩ := h
    refine ⟨_, pss_cons (ps_set (i := 3) scNumber.nd rfl (.inl rfl) pe_int)
      (pss_cons (ps_for PassesOwn.never rfl (pi_range1 (by rfl) mr (pa_cons (pe_op op_mod (pe_callTy call_int1 (by rfl) mi (by decide +kernel) (pa_cons (pv 1) pa_nil)) pe_int) pa_nil)) (pg_name (i := 4) scNumber.nd rfl (.inl rfl))
        (pss_one (ps_set (i := 3) scNumber.nd rfl (.inl rfl) (pe_op op_mul (pv 3) pe_int))))
      (pss_cons (ps_set (i := 5) scNumber.nd rfl (.inl rfl) (pe_op op_fdivW (pe_op op_sub (pv 0) (pe_op op_pow pe_int pe_int)) (pv 3)))
      (pss_cons (ps_if (pt_cmpR op_gt (pv 5) pe_int (nomark _)) (pss_one (ps_ret (pe_op op_mod (pe_op op_mod (pe_callTy call_int1 (by rfl) mi (by decide +kernel) (pa_cons (pv 5) pa_nil)) pe_int) (pv 2)))) pss_nil)
      (pss_cons (ps_set (i := 6) scNumber.nd rfl (.inl rfl) (pe_op op_mod (pe_callTy call_int1 (by rfl) mi (by decide +kernel) (pa_cons (pv 0) pa_nil)) pe_int))
      (pss_one (ps_ret (pe_op op_mod (pe_call GD hr (by rfl) gD FD.kp bD .nil pass0
        (pa_cons (pe_op op_mul (pe_op op_add (pv 6) (pe_op op_mul pe_int (pv 1))) (pe_op op_add (pe_op op_add (pv 6) (pe_op op_mul pe_int (pv 1))) pe_int))
        (pa_cons (pe_op op_add (pe_op op_mod (pe_callTy call_int1 (by rfl) mi (by decide +kernel) (pa_cons (pv 1) pa_nil)) pe_int) pe_int) (pa_cons pe_int pa_nil)))) (pv 2)))))))), ?_⟩
    have h24 : (0 : Int) ≤ j % 24 ∧ j % 24 < 24 := ⟨Int.emod_nonneg _ (by decide), Int.emod_lt_of_pos _ (by decide)⟩
    refine ⟨_, rfl, .inl ⟨_, rfl, _, _, rfl, rfl, (by show (0 : Int) < 24; decide), _, rfl, by omega, by omega, ?_⟩⟩
    refine for_range (lo := 0) (n := (j % 24).toNat) (fun i σ H' => H' = H ∧ ∃ y, σ = [some (.int c), some (.int j), some (.int b), some (.int ((1009 : Int) ^ i)), y, none, none]) ⟨rfl, none, rfl⟩ (fun i σ H' hi hp => ?_) (fun σ H' hp => ?_)
    · obtain ⟨rfl, y, rfl⟩ := hp
      refine ⟨_, rfl, _, _, rfl, rfl, .inr ⟨by decide, by decide⟩, rfl, some (.int ((0 : Int) + (i : Int))), ?_⟩
      rw [Int.pow_succ]
      rfl
    · obtain ⟨rfl, y, rfl⟩ := hp
      refine ⟨_, rfl, _, _, rfl, rfl, ⟨by decide, by decide, by decide⟩, _, _, rfl, rfl, _, rfl, _, _, rfl, rfl, wide_div (pow1009_pos _) (pow1009 (by omega)) (by decide) (by decide), ?_⟩
      refine ⟨_, rfl, _, _, rfl, rfl, _, rfl, ite2 (fun e => ?_) (fun e => ?_)⟩
      · refine ⟨_, rfl, .inl ⟨_, rfl, _, _, rfl, rfl, (by show (0 : Int) < 1009; decide), _, rfl, _, _, rfl, rfl, hb, ?_⟩⟩
        exact q _ _ (Int.emod_nonneg _ (by omega)) (Int.emod_lt_of_pos _ hb) (Same.refl _)
      · have hs : (0 : Int) ≤ c % 1000003 ∧ c % 1000003 < 1000003 := ⟨Int.emod_nonneg _ (by decide), Int.emod_lt_of_pos _ (by decide)⟩
        refine ⟨_, rfl, .inl ⟨_, rfl, _, _, rfl, rfl, (by show (0 : Int) < 1000003; decide), ?_⟩⟩
        refine ⟨_, rfl, _, rfl, _, _, rfl, rfl, .inl ⟨by decide, by decide⟩, _, _, rfl, rfl, ?_⟩
        refine ⟨_, rfl, _, rfl, _, _, rfl, rfl, .inl ⟨by decide, by decide⟩, _, _, rfl, rfl, _, _, rfl, rfl, ?_⟩
        refine ⟨_, _, rfl, rfl, .inl ⟨by omega, by omega⟩, ?_⟩
        refine ⟨_, rfl, .inl ⟨_, rfl, _, _, rfl, rfl, (by show (0 : Int) < 9; decide), _, _, rfl, rfl, ?_⟩⟩
        refine ⟨_, _, _, rfl, by decide, ⟨by omega, by omega⟩, fun r H2 h0 h1 sm => ?_⟩
        refine ⟨_, rfl, _, _, rfl, rfl, hb, ?_⟩
        exact q _ _ (Int.emod_nonneg _ (by omega)) (Int.emod_lt_of_pos _ hb) sm
/-! #### the next draw -/
def spNext (K : PySem.W.Frag) : Sp := fun vs H Q _ => ∃ (d : Addr) (n : Nat) (b : Int), vs = [.ref d, .int b] ∧ Dr d n H ∧ n < 1000000 ∧ 0 < b ∧ ∀ (r : Int) H', 0 ≤ r → r < b → But d H H' → Dr d (n + 1) H' → Q (.int r) H'
theorem ok_next {f fC fN fD : Addr} {fd fdC fdN fdD : FuncData} {k : Nat} (F : Fun K "_law_next" "_law_next" sNext f fd)
    (FC : Fun K "_law_cell_at" "_law_cell_at" sCell fC fdC) (bC : Binds K fdC ["script", "k"] []) (gC : mg "_law_cell_at" = some (.ref fC)) (ml : mg "len" = none)
    (FN : Fun K "_law_number" "_law_number" sNumber fN fdN) (bN : Binds K fdN ["cell", "k", "bound"] []) (gN : mg "_law_number" = some (.ref fN))
    (FD : Fun K "_law_draw" "_law_draw" sDraw fD fdD) (bD : Binds K fdD ["cell", "k", "bound"] []) (gD : mg "_law_draw" = some (.ref fD)) (mi : mg "int" = none) (mr : mg "range" = none) :
    FnOk P w K mg base CX0 (k + 3) f fd ["draw", "bound"] (spNext K) := by
  have GC : FnOk P w K mg base CX0 (k + 2) fC fdC ["script", "k"] (spCellAt K) := ok_cell FC ml
  have GN : FnOk P w K mg base CX0 (k + 2) fN fdN ["cell", "k", "bound"] (spNumber K) := ok_number FN FD bD gD mi mr
  refine F.ok scNext (fun vs H Q E h => ?_) (fun cdv A outer s H vs Q E hr h => ?_)
  · obtain ⟨d, n, b, rfl, _⟩ := h
    rfl
  · obtain ⟨d, n, b, rfl, hd, hn, hb, q⟩ := h
    obtain ⟨l, ns, hld, hD, hL, hns⟩ := hd
    refine ⟨_, pss_cons (ps_asg (pe_op op_add (pe_ix ix_list (pv 0) pe_int (fun _ _ => rfl)) pe_int) (pg_sub (pv 0) pe_int set_list))
      (pss_cons (ps_set (i := 2) scNext.nd rfl (.inl rfl) (pe_op op_fdiv (pe_ix ix_list (pv 0) pe_int (fun _ _ => rfl)) pe_int))
      (pss_cons (ps_set (i := 3) scNext.nd rfl (.inl rfl) (pe_op op_add (pe_call GC hr (by rfl) gC FC.kp bC .nil pass0 (pa_cons (pe_ix ix_list (pv 0) pe_int (fun _ _ => rfl)) (pa_cons (pe_op op_add (pe_ix ix_list (pv 0) pe_int (fun _ _ => rfl)) (pv 2)) pa_nil)))
        (pe_op op_mul pe_int (pv 2))))
      (pss_one (ps_ret (pe_call GN hr (by rfl) gN FN.kp bN .nil pass0 (pa_cons (pv 3) (pa_cons (pe_op op_add (pe_op op_mod (pe_callTy call_int1 (by rfl) mi (by decide +kernel) (pa_cons (pe_ix ix_list (pv 0) pe_int (fun _ _ => rfl)) pa_nil)) pe_int) pe_int) (pa_cons (pv 1) pa_nil)))))))), ?_⟩
    -- draw[2] = draw[2] + 1
    refine ⟨_, rfl, d, _, _, _, rfl, rfl, .inl (.inl hD), atI_nat (j := 2) rfl, _, _, rfl, rfl, ?_⟩
    refine ⟨_, rfl, d, _, _, 2, rfl, rfl, hD, rfl, ?_⟩
    have hL1 : (upd H d (.lst [.ref l, .int 0, .int ((n : Int) + 1)])) l = some (.lst (ns.map V.int)) := by
      rw [upd_ne hld]
      exact hL
    have hD1 : SqL K (upd H d (.lst [.ref l, .int 0, .int ((n : Int) + 1)])) d [.ref l, .int 0, .int ((n : Int) + 1)] := .inl (.inl upd_same)
    show tSeq _ _ _ _ (upd H d (.lst [.ref l, .int 0, .int ((n : Int) + 1)]))
    -- at = draw[2] // 12
    refine ⟨_, rfl, d, _, _, _, rfl, rfl, hD1, atI_nat (j := 2) rfl, _, _, rfl, rfl, ⟨by decide, by decide⟩, ?_⟩
    -- cell = ..
    refine ⟨_, rfl, d, _, _, _, rfl, rfl, hD1, atI_nat (j := 0) rfl, _, rfl, d, _, _, _, rfl, rfl, hD1, atI_nat (j := 1) rfl, _, rfl, _, _, rfl, rfl, ?_⟩
    refine ⟨l, ns, ((n + 1) / 12), ?_, .inl (.inl hL1), fun z => ?_⟩
    · have e : (0 : Int) + ((n : Int) + 1) / 12 = (((n + 1) / 12 : Nat) : Int) := by omega
      show [V.ref l, V.int (0 + ((n : Int) + 1) / 12)] ++ [] = _
      rw [e]
      rfl
    refine ⟨_, rfl, _, _, rfl, rfl, .inl ⟨by decide, by decide⟩, _, _, rfl, rfl, ?_⟩
    -- return
    refine ⟨_, rfl, _, rfl, d, _, _, _, rfl, rfl, hD1, atI_nat (j := 2) rfl, .inl ⟨_, rfl, _, _, rfl, rfl, (by show (0 : Int) < 12; decide), _, _, rfl, rfl, _, rfl, ?_⟩⟩
    have h12 : (0 : Int) ≤ ((n : Int) + 1) % 12 ∧ ((n : Int) + 1) % 12 < 12 := ⟨Int.emod_nonneg _ (by decide), Int.emod_lt_of_pos _ (by decide)⟩
    refine ⟨_, _, _, rfl, hb, ⟨by omega, by omega⟩, fun r H2 h0 h1 sm => ?_⟩
    refine q r H2 h0 h1 (fun a o ne e => sm a o ?_) ⟨l, ns, hld, ?_, sm _ _ hL1, hns⟩
    · rw [upd_ne ne]
      exact e
    · have e1 : (((n + 1 : Nat) : Nat) : Int) = (n : Int) + 1 := by omega
      rw [e1]
      exact sm _ _ upd_same
/-! #### one of some things -/
def spPick (K : PySem.W.Frag) : Sp := fun vs H Q _ => ∃ (d t : Addr) (n : Nat) (xs : List V), vs = [.ref d, .ref t] ∧ Dr d n H ∧ n < 1000000 ∧ (SqL K H t xs ∨ SqT K H t xs) ∧ t ≠ d ∧ 0 < xs.length ∧
  ∀ (i : Nat) (x : V) H', xs[i]? = some x → But d H H' → Dr d (n + 1) H' → Q x H'
theorem But.sql {d t : Addr} {H H' : Hp} {xs : List V} (a : But d H H') (n : t ≠ d) (h : SqL K H t xs) : SqL K H' t xs := by
  rcases h with (h | ⟨o, h⟩) | h
  · exact .inl (.inl (a _ _ n h))
  · exact .inl (.inr ⟨o, a _ _ n h⟩)
  · exact .inr h
theorem But.sqt {d t : Addr} {H H' : Hp} {xs : List V} (a : But d H H') (n : t ≠ d) (h : SqT K H t xs) : SqT K H' t xs := by
  rcases h with (h | ⟨o, h⟩) | h
  · exact .inl (.inl (a _ _ n h))
  · exact .inl (.inr ⟨o, a _ _ n h⟩)
  · exact .inr h
theorem ok_pick {f fT : Addr} {fd fdT : FuncData} {k : Nat} (F : Fun K "_law_pick" "_law_pick" sPick f fd) (FT : Fun K "_law_next" "_law_next" sNext fT fdT) (bT : Binds K fdT ["draw", "bound"] []) (gT : mg "_law_next" = some (.ref fT))
    (GT : FnOk P w K mg base CX0 (k + 3) fT fdT ["draw", "bound"] (spNext K)) (ml : mg "len" = none) :
    FnOk P w K mg base CX0 (k + 4) f fd ["draw", "things"] (spPick K) := by
  refine F.ok scPick (fun vs H Q E h => ?_) (fun cdv A outer s H vs Q E hr h => ?_)
  · obtain ⟨d, t, n, xs, rfl, _⟩ := h
    rfl
  · obtain ⟨d, t, n, xs, rfl, hd, hn, hx, htd, h0, q⟩ := h
    refine ⟨_, pss_one (ps_ret (pe_ix ix_seq (pv 1) (pe_call GT hr (by rfl) gT FT.kp bT .nil pass0 (pa_cons (pv 0) (pa_cons (pe_callB call_len_seq (by rfl) ml PySem.boot_len (pa_cons (pv 1) pa_nil)) pa_nil))) (fun _ _ => rfl))), ?_⟩
    refine ⟨_, rfl, _, rfl, _, rfl, t, xs, rfl, hx, d, n, _, rfl, hd, hn, by omega, fun r H2 r0 r1 bu dr => ?_⟩
    obtain ⟨hr, ha⟩ := at_int r0 r1
    rcases hx with hx | hx
    · exact .inl ⟨t, xs, r, _, rfl, rfl, bu.sql htd hx, ha, q r.toNat _ H2 (List.getElem?_eq_getElem hr) bu dr⟩
    · exact .inr (.inl ⟨t, xs, r, _, rfl, rfl, bu.sqt htd hx, ha, q r.toNat _ H2 (List.getElem?_eq_getElem hr) bu dr⟩)
end
section
open PySem.W PySem.Builtin PySem.Builtin.Str PySem.Builtin.Int
def digs (n : Nat) : List Nat := (Nat.toDigits 16 n).map fun c => c.toUpper.toNat
def hex4 (n : Nat) : List Nat := List.replicate (4 - (digs n).length) 48 ++ digs n
theorem parse04X : Float.parseFormatSpec (PySem.Str.ofString "04X").cps.toList "int" 62 = .ok { fill := 48, align := 61, width := some 4, type := some 88 } := by with_unfolding_all rfl
theorem digs_ne (n : Nat) : Nat.toDigits 16 n ≠ [] := by
  intro e
  have h := Nat.length_toDigits_pos (b := 16) (n := n)
  rw [e] at h
  exact absurd h (by decide)
theorem retStr_ok {M : Model} {A : Around} {E : Value → Shared → Prop} {s : Shared} {X T : PySem.Str} {Q : PySem.Fin → Shared → Prop} (e : X = T) (hL : T.length ≤ sizeLine) (h : Q (.done (.ret (.str T s.toks))) { s with toks := s.toks + 1 }) : wpAny M A (retStr X) Q E s := by
  subst e
  exact wpAny_bind (wpAny_mkStr (wpAny_pure h) hL)
theorem gives_04X (n : Nat) (t u : Tok) : Gives (Builtin.«int.__format__» ⟨[.int (n : Int) t, .str "04X" u], []⟩) (.str ⟨(hex4 n).toArray⟩) :=
  by
    intro prog w A R s hq
    unfold Builtin.«int.__format__»
    refine wpAny_bind (wpAny_of_eq (a := (_, _)) rfl ?_)
    refine wpAny_bind (wpAny_of_eq (a := _) rfl ?_)
    kxf_if
    refine wpAny_bind (wpAny_typeNameOf (T := "str") (typeIs_str _ _ _) (by decide) fun _ => ?_)
    refine wpAny_bind (wpAny_of_eq (a := some _) rfl ?_)
    kxf_if
    kxf_if
    refine wpAny_bind (wpAny_typeNameOfCut_int ?_)
    rw [parse04X]
    repeat kxf_if
    refine retStr_ok (T := ⟨(hex4 n).toArray⟩) ?e hq.1 hq.2
    case e =>
      have hd : decide ((n : Int) < 0) = false := decide_eq_false (by omega)
      rw [hd]
      have hn : ((n : Int)).natAbs = n := by omega
      rw [hn]
      unfold hex4 digs
      have hne := digs_ne n
      revert hne
      generalize Nat.toDigits 16 n = D
      intro hne
      cases D with
      | nil => exact absurd rfl hne
      | cons c D =>
        change (⟨(List.replicate 0 48 ++ [] ++ [] ++ List.replicate ((4 : Int) - ((([] : List Nat).length + ([] : List Nat).length + ([] : List Nat).length : Nat) : Int) - ((List.replicate (((4 : Int) - ((([] : List Nat).length + ([] : List Nat).length + ([] : List Nat).length : Nat) : Int)).toNat - (List.map (fun c : Char => c.toUpper.toNat) (c :: D)).length) 48 ++ (List.map (fun c : Char => c.toUpper.toNat) (c :: D))).length : Nat)).toNat 48 ++ (List.replicate (((4 : Int) - ((([] : List Nat).length + ([] : List Nat).length + ([] : List Nat).length : Nat) : Int)).toNat - (List.map (fun c : Char => c.toUpper.toNat) (c :: D)).length) 48 ++ (List.map (fun c : Char => c.toUpper.toNat) (c :: D))) ++ [] ++ List.replicate 0 48).toArray⟩ : PySem.Str) = _
        generalize (List.map (fun c : Char => c.toUpper.toNat) (c :: D)) = L
        have e0 : ((4 : Int) - ((([] : List Nat).length + ([] : List Nat).length + ([] : List Nat).length : Nat) : Int)) = 4 := by simp
        rw [e0]
        have e1 : ((4 : Int) - ((List.replicate ((4 : Int).toNat - L.length) 48 ++ L).length : Nat)).toNat = 0 := by
          rw [List.length_append, List.length_replicate]
          omega
        rw [e1]
        simp
end
--MATH
def sgn (d : Nat) : Nat := if d < 10 then 48 + d else 55 + d
def hx : Nat → Nat → List Nat
  | 0, _ => []
  | i + 1, p => sgn (p / 16 ^ i % 16) :: hx i p
theorem hx_len : ∀ i p, (hx i p).length = i
  | 0, _ => rfl
  | i + 1, p => by
    show (hx i p).length + 1 = i + 1
    rw [hx_len i p]
theorem hx_snoc : ∀ i p, hx (i + 1) p = hx i (p / 16) ++ [sgn (p % 16)]
  | 0, p => by
    show [sgn (p / 16 ^ 0 % 16)] = [sgn (p % 16)]
    rw [Nat.pow_zero, Nat.div_one]
  | i + 1, p => by
    show sgn (p / 16 ^ (i + 1) % 16) :: hx (i + 1) p = (sgn (p / 16 / 16 ^ i % 16) :: hx i (p / 16)) ++ [sgn (p % 16)]
    rw [hx_snoc i p, Nat.div_div_eq_div_mul, Nat.pow_succ, Nat.mul_comm 16]
    rfl
theorem hx_zero : ∀ i, hx i 0 = List.replicate i 48
  | 0 => rfl
  | i + 1 => by
    show sgn (0 / 16 ^ i % 16) :: hx i 0 = List.replicate (i + 1) 48
    rw [hx_zero i, Nat.zero_div, List.replicate_succ]
    rfl
theorem sgn_digit : ∀ d, d < 16 → (Nat.digitChar d).toUpper.toNat = sgn d := by decide
theorem digs_lt {n : Nat} (h : n < 16) : digs n = [sgn n] := by
  unfold digs
  rw [Nat.toDigits_of_lt_base h]
  show [(Nat.digitChar n).toUpper.toNat] = _
  rw [sgn_digit n h]
theorem digs_ge {n : Nat} (h : 16 ≤ n) : digs n = digs (n / 16) ++ [sgn (n % 16)] := by
  unfold digs
  rw [Nat.toDigits_of_base_le (by decide) h, List.map_append]
  show _ ++ [(Nat.digitChar (n % 16)).toUpper.toNat] = _
  rw [sgn_digit _ (Nat.mod_lt _ (by decide))]
theorem digs_pad : ∀ k n, n < 16 ^ (k + 1) → List.replicate (k + 1 - (digs n).length) 48 ++ digs n = hx (k + 1) n
  | k, n, h => by
    by_cases hn : n < 16
    · rw [digs_lt hn, hx_snoc, Nat.div_eq_of_lt hn, hx_zero, Nat.mod_eq_of_lt hn]
      rfl
    · cases k with
      | zero => exact absurd h (by rw [Nat.zero_add, Nat.pow_one]; omega)
      | succ k =>
        have h2 : n / 16 < 16 ^ (k + 1) := by
          rw [Nat.div_lt_iff_lt_mul (by decide)]
          rw [Nat.pow_succ] at h
          exact h
        have ih := digs_pad k (n / 16) h2
        rw [digs_ge (by omega), hx_snoc, ← ih, List.length_append]
        show List.replicate (k + 1 + 1 - ((digs (n / 16)).length + 1)) 48 ++ _ = _
        rw [Nat.add_sub_add_right, List.append_assoc]
theorem digs_many : ∀ k n, 16 ^ k ≤ n → k < (digs n).length
  | 0, n, h => by
    by_cases hn : n < 16
    · rw [digs_lt hn]
      exact Nat.zero_lt_one
    · rw [digs_ge (by omega), List.length_append]
      exact Nat.succ_pos _
  | k + 1, n, h => by
    have h16 : 16 ≤ n := Nat.le_trans (by rw [Nat.pow_succ]; exact Nat.le_mul_of_pos_left _ (Nat.pow_pos (by decide))) h
    have h2 : 16 ^ k ≤ n / 16 := by
      rw [Nat.le_div_iff_mul_le (by decide)]
      rw [Nat.pow_succ] at h
      exact h
    have ih := digs_many k (n / 16) h2
    rw [digs_ge h16, List.length_append]
    exact Nat.succ_lt_succ ih
theorem hex4_4 {n : Nat} (h : n < 65536) : hex4 n = hx 4 n := digs_pad 3 n (Nat.lt_of_lt_of_le h (by decide))
theorem hex4_up {k n : Nat} (hk : 4 ≤ k) (h : n < 16 ^ (k + 1)) (h0 : 16 ^ k ≤ n) : hex4 n = hx (k + 1) n := by
  have e := digs_pad k n h
  have m := digs_many k n h0
  unfold hex4
  rw [← e, show 4 - (digs n).length = 0 by omega, show k + 1 - (digs n).length = 0 by omega]
theorem hex4_5 {n : Nat} (h : n < 1048576) (h0 : 65536 ≤ n) : hex4 n = hx 5 n := hex4_up (k := 4) (by decide) (Nat.lt_of_lt_of_le h (by decide)) (Nat.le_trans (by decide) h0)
theorem hex4_6 {n : Nat} (h : n < 16777216) (h0 : 1048576 ≤ n) : hex4 n = hx 6 n := hex4_up (k := 5) (by decide) (Nat.lt_of_lt_of_le h (by decide)) (Nat.le_trans (by decide) h0)
theorem sgn_hex : ∀ d, d < 16 → Hx.IsHex (sgn d) ∧ Hx.hv (sgn d) = d ∧ (sgn d = 48 ↔ d = 0) := by
  intro d h
  have hd : d = 0 ∨ d = 1 ∨ d = 2 ∨ d = 3 ∨ d = 4 ∨ d = 5 ∨ d = 6 ∨ d = 7 ∨ d = 8 ∨ d = 9 ∨ d = 10 ∨ d = 11 ∨ d = 12 ∨ d = 13 ∨ d = 14 ∨ d = 15 := by omega
  unfold Hx.IsHex
  rcases hd with rfl | rfl | rfl | rfl | rfl | rfl | rfl | rfl | rfl | rfl | rfl | rfl | rfl | rfl | rfl | rfl <;> decide
theorem hx_mem : ∀ i p, ∀ c ∈ hx i p, ∃ d, d < 16 ∧ c = sgn d
  | 0, _, c, h => by cases h
  | i + 1, p, c, h => by
    rcases List.mem_cons.mp h with e | h
    · exact ⟨_, Nat.mod_lt _ (by decide), e⟩
    · exact hx_mem i p c h
theorem hexNum_snoc (l : List Nat) (c : Nat) : Hx.hexNum (l ++ [c]) = Hx.hexNum l * 16 + Hx.hv c := by
  unfold Hx.hexNum
  rw [List.foldl_append]
  rfl
theorem hx_num : ∀ k n, n < 16 ^ k → Hx.hexNum (hx k n) = n
  | 0, n, h => by
    have : n = 0 := by
      rw [Nat.pow_zero] at h
      omega
    subst this
    rfl
  | k + 1, n, h => by
    have h2 : n / 16 < 16 ^ k := by
      rw [Nat.div_lt_iff_lt_mul (by decide)]
      rw [Nat.pow_succ] at h
      exact h
    rw [hx_snoc, hexNum_snoc, hx_num k (n / 16) h2, (sgn_hex _ (Nat.mod_lt _ (by decide))).2.1]
    omega
/-- the shortest of the last four, five, six figures whose figures ahead are nought -/
theorem hx6 (n : Nat) : hx 6 n = sgn (n / 1048576 % 16) :: sgn (n / 65536 % 16) :: hx 4 n := rfl
--END
/-! ### code points -/
def isPt (i : Int) : Bool := (decide (0 ≤ i) && decide (i < 55296)) || (decide (57343 < i) && decide (i ≤ 1114111))
/-- x is no integer -/
def NotInt (K : PySem.W.Frag) (H : Hp) (x : V) : Prop := ∃ (t : Value) (b1 b2 : Bool), TyX K H x t ∧ PySem.W.kitOne K t (.type "int") = some b1 ∧ PySem.W.kitOne K t (.type "bool") = some b2 ∧ (b1 && !b2) = false
theorem notInt_bl {K : PySem.W.Frag} {H : Hp} {b : Bool} : NotInt K H (.bl b) := ⟨_, true, true, .base (.bl b), kit_ty (by decide +kernel), kit_ty (by decide +kernel), rfl⟩
theorem notInt_str {K : PySem.W.Frag} {H : Hp} {b : Str} : NotInt K H (.str b) := ⟨_, false, false, .base (.str b), kit_ty (by decide +kernel), kit_ty (by decide +kernel), rfl⟩
theorem notInt_non {K : PySem.W.Frag} {H : Hp} : NotInt K H .non := ⟨_, false, false, .base .non, kit_ty (by decide +kernel), kit_ty (by decide +kernel), rfl⟩
theorem notInt_lst {K : PySem.W.Frag} {H : Hp} {a : Addr} {xs : List V} (h : H a = some (.lst xs)) : NotInt K H (.ref a) := ⟨_, false, false, .base (.lst h), kit_ty (by decide +kernel), kit_ty (by decide +kernel), rfl⟩
theorem notInt_tup {K : PySem.W.Frag} {H : Hp} {a : Addr} {xs : List V} (h : H a = some (.tup xs)) : NotInt K H (.ref a) := ⟨_, false, false, .base (.tup h), kit_ty (by decide +kernel), kit_ty (by decide +kernel), rfl⟩
def spIsInt (K : PySem.W.Frag) : Sp := fun vs H Q _ => ∃ x : V, vs = [x] ∧ ((∃ i, x = .int i ∧ Q (.bl true) H) ∨ (NotInt K H x ∧ Q (.bl false) H))
def spIsPoint (K : PySem.W.Frag) : Sp := fun vs H Q _ => ∃ x : V, vs = [x] ∧ ((∃ i, x = .int i ∧ Q (.bl (isPt i)) H) ∨ (NotInt K H x ∧ Q (.bl false) H))
theorem dT {p : Prop} [Decidable p] (h : p) : decide p = true := decide_eq_true h
theorem dF {p : Prop} [Decidable p] (h : ¬ p) : decide p = false := decide_eq_false h
section
variable {P : Program} {w : World} {K : PySem.W.Frag} {mg : Str → Option Value} {base : Heap}
theorem ok_isint {f : Addr} {fd : FuncData} {k : Nat} (F : Fun K "is_integer" "is_integer" sIsInteger f fd) (mi : mg "int" = none) (mb : mg "bool" = none) (ms : mg "isinstance" = none) : FnOk P w K mg base CX0 (k + 1) f fd ["thing"] (spIsInt K) := by
  refine F.ok scIsInteger (fun vs H Q E h => ?_) (fun cdv A outer s H vs Q E hr h => ?_)
  · obtain ⟨x, rfl, _⟩ := h
    rfl
  · obtain ⟨x, rfl, h⟩ := h
    refine ⟨_, pss_one (ps_ret (pe_and (pe_callB call_isi (by rfl) ms (by decide +kernel) (pa_cons (pv 0) (pa_cons (pe_bltn (v := .ty "int") (by rfl) mi (by decide +kernel) rfl) pa_nil)))
      (pe_one (pe_not (pe_callB call_isi (by rfl) ms (by decide +kernel) (pa_cons (pv 0) (pa_cons (pe_bltn (v := .ty "bool") (by rfl) mb (by decide +kernel) rfl) pa_nil))))))), ?_⟩
    rcases h with ⟨i, rfl, q⟩ | ⟨⟨t, b1, b2, ht, h1, h2, h3⟩, q⟩
    · refine ⟨_, rfl, _, _, _, _, true, rfl, .ty "int", .base (.int i), kit_ty (by decide +kernel), true, rfl, iteT ?_⟩
      exact ⟨_, rfl, _, _, _, _, false, rfl, .ty "bool", .base (.int i), kit_ty (by decide +kernel), false, rfl, q⟩
    · refine ⟨_, rfl, _, _, _, _, b1, rfl, .ty "int", ht, h1, b1, rfl, ?_⟩
      cases b1 with
      | false => exact iteF q
      | true =>
        refine iteT ⟨_, rfl, _, _, _, _, b2, rfl, .ty "bool", ht, h2, b2, rfl, ?_⟩
        cases b2 with
        | true => exact q
        | false => cases h3
theorem ok_ispoint {f fI : Addr} {fd fdI : FuncData} {k : Nat} {t1 t2 t3 : Tok} (F : Fun K "is_point" "is_point" sIsPoint f fd) (FI : Fun K "is_integer" "is_integer" sIsInteger fI fdI) (bI : Binds K fdI ["thing"] []) (gI : mg "is_integer" = some (.ref fI))
    (mi : mg "int" = none) (mb : mg "bool" = none) (ms : mg "isinstance" = none) (m1 : mg "GAP_FIRST" = some (.int 55296 t1)) (m2 : mg "GAP_LAST" = some (.int 57343 t2)) (m3 : mg "LAST_POINT" = some (.int 1114111 t3)) :
    FnOk P w K mg base CX0 (k + 2) f fd ["thing"] (spIsPoint K) := by
  have GI : FnOk P w K mg base CX0 (k + 1) fI fdI ["thing"] (spIsInt K) := ok_isint FI mi mb ms
  refine F.ok scIsPoint (fun vs H Q E h => ?_) (fun cdv A outer s H vs Q E hr h => ?_)
  · obtain ⟨x, rfl, _⟩ := h
    rfl
  · obtain ⟨x, rfl, h⟩ := h
    refine ⟨_, pss_cons (ps_if (pt_not (pt_val (pe_call GI hr (by rfl) gI FI.kp bI .nil pass0 (pa_cons (pv 0) pa_nil)))) (pss_one (ps_ret pe_bl)) pss_nil)
      (pss_one (ps_ret (pe_or (pe_chain op_le op_lt pe_int (pv 0) (pe_glob (v := .int 55296) (by rfl) m1 ⟨_, rfl⟩)) (pe_one (pe_chain op_lt op_le (pe_glob (v := .int 57343) (by rfl) m2 ⟨_, rfl⟩) (pv 0) (pe_glob (v := .int 1114111) (by rfl) m3 ⟨_, rfl⟩)))))), ?_⟩
    rcases h with ⟨i, rfl, q⟩ | ⟨hn, q⟩
    · refine ⟨_, rfl, _, rfl, .inl ⟨i, rfl, true, rfl, iteF ?_⟩⟩
      unfold isPt at q
      refine ⟨_, rfl, _, _, rfl, rfl, _, rfl, ?_⟩
      have second : ∀ Qz : VK, Qz (.bl (decide (57343 < i) && decide (i ≤ 1114111))) H → tChain (rI0 fun i j => .bl (decide (i < j))) (rI0 fun i j => .bl (decide (i ≤ j))) (tC (.int 57343)) (tVar 0) (tC (.int 1114111)) (start ["thing"] [V.int i]) H Qz := by
        intro Qz qz
        refine ⟨_, rfl, _, _, rfl, rfl, _, rfl, ?_⟩
        by_cases h1 : 57343 < i
        · rw [dT h1] at qz ⊢
          exact iteT ⟨_, _, rfl, rfl, qz⟩
        · rw [dF h1] at qz ⊢
          exact iteF qz
      by_cases h1 : 0 ≤ i
      · rw [dT h1] at q ⊢
        refine iteT ⟨_, _, rfl, rfl, _, rfl, ?_⟩
        by_cases h2 : i < 55296
        · rw [dT h2] at q ⊢
          exact iteT q
        · rw [dF h2] at q ⊢
          exact iteF (second _ q)
      · rw [dF h1] at q ⊢
        exact iteF ⟨_, rfl, iteF (second _ q)⟩
    · exact ⟨_, rfl, _, rfl, .inr ⟨hn, false, rfl, iteT q⟩⟩
end
/-! ### k02 -/
section
variable {X : Cx}
theorem pe_fmt04X {e : Expr} {te : TE} {pos p1 p2 : Pos} {j : Nat} (he : PE X e te) :
    PE X (.FormattedValue e (-1) (some (.JoinedStr [.Constant (.str "04X") j p1] p2)) pos) (fun σ H Q => te σ H fun x H1 => ∃ n : Nat, x = .int (n : Int) ∧ n < 16777216 ∧ Q (.str ⟨(hex4 n).toArray⟩) H1) := by
  refine ⟨fun pins s σ H Q I h => ?_⟩
  refine wpAny_FormattedValue_spec (thn (he.run pins s σ H _ I h) fun v s1 hv => ?_)
  obtain ⟨x, H1, I1, r1, n, rfl, hn, q⟩ := hv
  obtain ⟨t, rfl⟩ := r1
  refine wpAny_JoinedStr_one (Calls.Constant_str ⟨_, _, rfl, ?_⟩)
  have hs : (⟨(hex4 n).toArray⟩ : Str).length ≤ sizeLine := by
    have e : (⟨(hex4 n).toArray⟩ : Str).length = (hex4 n).length := by simp [Str.length]
    rw [e]
    refine len63 ?_
    by_cases h1 : n < 65536
    · rw [hex4_4 h1, hx_len]; decide
    · by_cases h2 : n < 1048576
      · rw [hex4_5 h2 (by omega), hx_len]; decide
      · rw [hex4_6 hn (by omega), hx_len]; decide
  exact wpAny_formatField_spec (by decide) (fun s' => typeIs_int s' n t) F.slot_int_format F.entry_int_format F.args_int_format_2 (fun u => gives_04X n t u) ⟨.str _, H1, I1.tok _, ⟨_, rfl⟩, q⟩ (by decide) hs
end
def spPointText (K : PySem.W.Frag) : Sp := fun vs H Q _ => ∃ n : Nat, vs = [.int (n : Int)] ∧ n < 16777216 ∧ Q (.str ⟨(85 :: 43 :: hex4 n).toArray⟩) H
/-- what point_by hands back for figures of this worth -/
def ptV (n : Nat) : V := if isPt n then .int n else .non
def UpHex (l : List Nat) : Prop := ∀ c ∈ l, ∃ d, d < 16 ∧ c = sgn d
def spPointBy (K : PySem.W.Frag) : Sp := fun vs H Q _ => ∃ l : List Nat, vs = [.str ⟨l.toArray⟩] ∧ 1 ≤ l.length ∧ l.length ≤ 6 ∧ UpHex l ∧ Q (ptV (Hx.hexNum l)) H
theorem strLen (l : List Nat) : (⟨l.toArray⟩ : Str).length = l.length := by simp [Str.length]
def figsT : List Nat := [48, 49, 50, 51, 52, 53, 54, 55, 56, 57, 65, 66, 67, 68, 69, 70]
theorem figs_S : (("0123456789ABCDEF" : Str)) = ⟨figsT.toArray⟩ := by decide +kernel
theorem sgn_in {d : Nat} (h : d < 16) : sgn d ∈ figsT := by
  have hd : d = 0 ∨ d = 1 ∨ d = 2 ∨ d = 3 ∨ d = 4 ∨ d = 5 ∨ d = 6 ∨ d = 7 ∨ d = 8 ∨ d = 9 ∨ d = 10 ∨ d = 11 ∨ d = 12 ∨ d = 13 ∨ d = 14 ∨ d = 15 := by omega
  rcases hd with rfl | rfl | rfl | rfl | rfl | rfl | rfl | rfl | rfl | rfl | rfl | rfl | rfl | rfl | rfl | rfl <;> decide
theorem figs_at {d : Int} (h0 : 0 ≤ d) (h1 : d < 16) : atI figsT d = some (sgn d.toNat) := by
  have hd : d = 0 ∨ d = 1 ∨ d = 2 ∨ d = 3 ∨ d = 4 ∨ d = 5 ∨ d = 6 ∨ d = 7 ∨ d = 8 ∨ d = 9 ∨ d = 10 ∨ d = 11 ∨ d = 12 ∨ d = 13 ∨ d = 14 ∨ d = 15 := by omega
  rcases hd with rfl | rfl | rfl | rfl | rfl | rfl | rfl | rfl | rfl | rfl | rfl | rfl | rfl | rfl | rfl | rfl <;> rfl
theorem for_str {x : Str} {g : TG} {tb : TS} {D : Ends} {σ : L2.St} {H : Hp} (Pv : Nat → L2.St → Hp → Prop) (h0 : Pv 0 σ H)
    (hs : ∀ (i : Nat) (c : Nat) σ H, x.cps[i]? = some c → Pv i σ H → g (.str ⟨#[c]⟩) σ H fun σ2 H2 => tb { D with nx := Pv (i + 1), ct := Pv (i + 1), bk := D.nx } σ2 H2) (hd : ∀ σ H, Pv x.cps.size σ H → D.nx σ H) :
    ∃ W : Nat → Nat → L2.St → Hp → Prop, (∃ m, W 0 m σ H) ∧ ∀ i m σ H, W i m σ H →
      ((Its x).stop i H ∧ D.nx σ H) ∨ ((Its x).go i H ∧ ∃ N : L2.St → Hp → Prop, (∀ σ' H', N σ' H' → ∃ m', m' < m ∧ W (i + 1) m' σ' H') ∧ ∀ y H', (Its x).yld i H y H' → g y σ H' fun σ2 H2 => tb { D with nx := N, ct := N, bk := D.nx } σ2 H2) := by
  refine ⟨fun i m σ H => m = x.cps.size - i ∧ i ≤ x.cps.size ∧ Pv i σ H, ⟨x.cps.size, by simp, Nat.zero_le _, h0⟩, ?_⟩
  rintro i m σ H ⟨rfl, hi, p⟩
  by_cases hlt : i < x.cps.size
  · refine .inr ⟨hlt, Pv (i + 1), fun σ' H' p' => ⟨x.cps.size - (i + 1), by omega, rfl, hlt, p'⟩, fun y H' hy => ?_⟩
    obtain ⟨rfl, c, hc, rfl⟩ := hy
    exact hs i c σ _ hc p
  · have e : i = x.cps.size := by omega
    subst e
    exact .inl ⟨Nat.le_refl _, hd σ H p⟩
section
variable {P : Program} {w : World} {K : PySem.W.Frag} {mg : Str → Option Value} {base : Heap}
theorem ok_ptext {f : Addr} {fd : FuncData} {k : Nat} (F : Fun K "point_text" "point_text" sPointText f fd) : FnOk P w K mg base CX0 (k + 1) f fd ["point"] (spPointText K) := by
  refine F.ok scPointText (fun vs H Q E h => ?_) (fun cdv A outer s H vs Q E hr h => ?_)
  · obtain ⟨n, rfl, _⟩ := h
    rfl
  · obtain ⟨n, rfl, hn, q⟩ := h
    refine ⟨_, pss_one (ps_ret (pe_joined (.cons pe_str (.cons (pe_fmt04X (pv 0)) .nil)))), ?_⟩
    have hl : (hex4 n).length ≤ 6 := by
      by_cases h1 : n < 65536
      · rw [hex4_4 h1, hx_len]; decide
      · by_cases h2 : n < 1048576
        · rw [hex4_5 h2 (by omega), hx_len]; decide
        · rw [hex4_6 hn (by omega), hx_len]; decide
    have e : (Str.empty ++ ("U+" : Str)) ++ (⟨(hex4 n).toArray⟩ : Str) = ⟨(85 :: 43 :: hex4 n).toArray⟩ := by
      have e0 : (Str.empty ++ ("U+" : Str)) = SX.S [85, 43] := by decide +kernel
      rw [e0]
      exact SX.S_cat [85, 43] (hex4 n)
    refine ⟨_, rfl, len63 (by decide +kernel), _, rfl, n, rfl, hn, _, rfl, ?_, ?_⟩
    · rw [e, strLen]
      exact len63 (by show (hex4 n).length + 1 + 1 ≤ 100000; omega)
    · rw [e]
      exact q
theorem ok_pby {f fP : Addr} {fd fdP : FuncData} {k : Nat} {t1 : Tok} (F : Fun K "point_by" "point_by" sPointBy f fd) (FP : Fun K "is_point" "is_point" sIsPoint fP fdP) (bP : Binds K fdP ["thing"] []) (gP : mg "is_point" = some (.ref fP)) (GP : FnOk P w K mg base CX0 (k + 2) fP fdP ["thing"] (spIsPoint K))
    (mi : mg "int" = none) (ml : mg "len" = none) (mF : mg "FIGURES" = some (.str "0123456789ABCDEF" t1)) :
    FnOk P w K mg base CX0 (k + 3) f fd ["figures"] (spPointBy K) := by
  refine F.ok scPointBy (fun vs H Q E h => ?_) (fun cdv A outer s H vs Q E hr h => ?_)
  · obtain ⟨n, rfl, _⟩ := h
    rfl
  · obtain ⟨l, rfl, l1, l6, hu, q⟩ := h
    refine ⟨_, pss_cons (ps_if (pt_not (pt_chain op_le op_le pe_int (pe_callB call_len_str (by rfl) ml PySem.boot_len (pa_cons (pv 0) pa_nil)) pe_int)) (pss_one (ps_ret pe_non)) pss_nil)
      (pss_cons (ps_for PassesOwn.never rfl (pi_str (pv 0)) (pg_name (i := 1) scPointBy.nd rfl (.inl rfl)) (pss_one (ps_if (pt_cmpR op_notIn_sign (pv 1) (pe_glob (v := .str "0123456789ABCDEF") (by rfl) mF ⟨_, rfl⟩) rfl) (pss_one (ps_ret pe_non)) pss_nil)))
      (pss_cons (ps_set (i := 2) scPointBy.nd rfl (.inl rfl) (pe_callTy call_int_hex (by rfl) mi (by decide +kernel) (pa_cons (pv 0) (pa_cons pe_int pa_nil))))
      (pss_one (ps_ret (pe_ifExp (pt_val (pe_call GP hr (by rfl) gP FP.kp bP .nil pass0 (pa_cons (pv 2) pa_nil))) (pv 2) pe_non))))), ?_⟩
    have hl := strLen l
    refine ⟨_, rfl, _, rfl, by rw [hl]; exact len63 (by omega), _, _, rfl, rfl, _, rfl, ?_⟩
    rw [dT (show (1 : Int) ≤ ((⟨l.toArray⟩ : Str).length : Nat) by rw [hl]; omega)]
    refine iteT ⟨_, _, rfl, rfl, true, ?_, iteF ?_⟩
    · exact congrArg V.bl (dT (show (((⟨l.toArray⟩ : Str).length : Nat) : Int) ≤ 6 by rw [hl]; omega))
    refine ⟨_, rfl, _, rfl, ?_⟩
    refine for_str (fun i σ H' => H' = H ∧ ∃ y, σ = [some (.str ⟨l.toArray⟩), y, none]) ⟨rfl, none, rfl⟩ (fun i c σ H' hc hp => ?_) (fun σ H' hp => ?_)
    · obtain ⟨rfl, y, rfl⟩ := hp
      have hm : c ∈ l := by
        rw [← Array.getElem?_toList] at hc
        exact List.mem_of_getElem? hc
      obtain ⟨d, hd, rfl⟩ := hu c hm
      refine ⟨_, rfl, _, _, rfl, rfl, false, ?_, iteF ⟨rfl, _, rfl⟩⟩
      rw [figs_S, dT (show sgn d ∈ (⟨figsT.toArray⟩ : Str).cps.toList from sgn_in hd)]
      rfl
    · obtain ⟨rfl, y, rfl⟩ := hp
      have hne : l ≠ [] := fun z => by
        rw [z] at l1
        exact absurd l1 (by decide)
      refine ⟨_, rfl, l, rfl, hne, by omega, fun c hc => ?_, ?_⟩
      · obtain ⟨d, hd, rfl⟩ := hu c hc
        exact (sgn_hex d hd).1
      · refine ⟨_, rfl, _, rfl, .inl ⟨_, rfl, _, rfl, ?_⟩⟩
        unfold ptV at q
        cases hp : isPt (Hx.hexNum l : Nat) with
        | true =>
          rw [hp] at q
          exact iteT ⟨_, rfl, q⟩
        | false =>
          rw [hp] at q
          exact iteF q
def spFigures : Sp := fun vs H Q _ => ∃ n : Nat, vs = [.int (n : Int)] ∧ n < 16777216 ∧ Q (.str ⟨(hx 6 n).toArray⟩) H
theorem ok_figures {f : Addr} {fd : FuncData} {k : Nat} (F : Fun K "_law_figures" "_law_figures" sLFigures f fd) (mr : mg "range" = none) : FnOk P w K mg base CX0 (k + 1) f fd ["point"] spFigures := by
  refine F.ok scLFigures (fun vs H Q E h => ?_) (fun cdv A outer s H vs Q E hr h => ?_)
  · obtain ⟨n, rfl, _⟩ := h
    rfl
  · obtain ⟨n, rfl, hn, q⟩ := h
    refine ⟨_, pss_cons (ps_par (i := 1) (j := 2) (by rfl) scLFigures.nd rfl rfl (by decide) rfl rfl (pa_cons pe_str (pa_cons (pv 0) pa_nil)) (by rfl))
      (pss_cons (ps_for PassesOwn.never rfl (pi_range1 (by rfl) mr (pa_cons pe_int pa_nil)) (pg_name (i := 3) scLFigures.nd rfl (.inl rfl))
        (pss_cons (ps_set (i := 1) scLFigures.nd rfl (.inl rfl) (pe_op op_add_str (pe_ix ix_str pe_str (pe_op op_sub (pv 2) (pe_op op_mul pe_int (pe_op op_fdiv (pv 2) pe_int))) (fun _ _ => rfl)) (pv 1)))
          (pss_one (ps_set (i := 2) scLFigures.nd rfl (.inl rfl) (pe_op op_fdiv (pv 2) pe_int)))))
      (pss_one (ps_ret (pv 1)))), ?_⟩
    refine ⟨_, rfl, _, _, rfl, ?_⟩
    refine ⟨6, rfl, by decide, by decide, ?_⟩
    refine for_range (lo := 0) (n := 6) (fun i σ H' => H' = H ∧ ∃ y, σ = [some (.int (n : Int)), some (.str ⟨(hx i n).toArray⟩), some (.int ((n / 16 ^ i : Nat) : Int)), y]) ⟨rfl, none, ?_⟩ (fun i σ H' hi hp => ?_) (fun σ H' hp => ?_)
    · rw [Nat.pow_zero, Nat.div_one]
      rfl
    · obtain ⟨rfl, y, rfl⟩ := hp
      have h16 : (0 : Int) ≤ ((n / 16 ^ i : Nat) : Int) - 16 * (((n / 16 ^ i : Nat) : Int) / 16) ∧ ((n / 16 ^ i : Nat) : Int) - 16 * (((n / 16 ^ i : Nat) : Int) / 16) < 16 := by omega
      refine ⟨_, rfl, _, rfl, _, _, rfl, rfl, ⟨by decide, by decide⟩, _, _, rfl, rfl, .inl ⟨by decide, by decide⟩, _, _, rfl, rfl, _, _, _, rfl, rfl, len63 (by decide +kernel), figs_at h16.1 h16.2, _, rfl, _, _, rfl, rfl, ?_, ?_⟩
      · rw [strLen (hx i n), hx_len]
        exact len63 (by show 1 + i ≤ 100000; omega)
      · refine ⟨_, rfl, _, _, rfl, rfl, ⟨by decide, by decide⟩, rfl, some (.int ((0 : Int) + (i : Int))), ?_⟩
        have e1 : (((n / 16 ^ i : Nat) : Int) - 16 * (((n / 16 ^ i : Nat) : Int) / 16)).toNat = n / 16 ^ i % 16 := by omega
        have e2 : ((n / 16 ^ i : Nat) : Int) / 16 = ((n / 16 ^ (i + 1) : Nat) : Int) := by
          rw [Nat.pow_succ, ← Nat.div_div_eq_div_mul]
          omega
        show [some (V.int (n : Int)), some (V.str ((⟨#[sgn (((n / 16 ^ i : Nat) : Int) - 16 * (((n / 16 ^ i : Nat) : Int) / 16)).toNat]⟩ : Str) ++ (⟨(hx i n).toArray⟩ : Str))), some (V.int (((n / 16 ^ i : Nat) : Int) / 16)), some (V.int (0 + (i : Int)))] = _
        rw [e1, e2]
        have e3 : (⟨#[sgn (n / 16 ^ i % 16)]⟩ : Str) ++ (⟨(hx i n).toArray⟩ : Str) = ⟨(hx (i + 1) n).toArray⟩ := SX.S_cat [sgn (n / 16 ^ i % 16)] (hx i n)
        rw [e3]
    · obtain ⟨rfl, y, rfl⟩ := hp
      exact ⟨_, rfl, q⟩
def spLIsPoint : Sp := fun vs H Q _ => ∃ i : Int, vs = [.int i] ∧ Q (.bl (isPt i)) H
theorem ok_lispoint {f : Addr} {fd : FuncData} {k : Nat} (F : Fun K "_law_is_point" "_law_is_point" sLIsPoint f fd) : FnOk P w K mg base CX0 (k + 1) f fd ["number"] spLIsPoint := by
  refine F.ok scLIsPoint (fun vs H Q E h => ?_) (fun cdv A outer s H vs Q E hr h => ?_)
  · obtain ⟨n, rfl, _⟩ := h
    rfl
  · obtain ⟨i, rfl, q⟩ := h
    refine ⟨_, pss_one (ps_ret (pe_or (pe_chain op_le op_le pe_int (pv 0) pe_int) (pe_one (pe_chain op_le op_le pe_int (pv 0) pe_int)))), ?_⟩
    have e : isPt i = ((decide (0 ≤ i) && decide (i ≤ 55295)) || (decide (57344 ≤ i) && decide (i ≤ 1114111))) := by
      unfold isPt
      rw [show decide (i < 55296) = decide (i ≤ 55295) from decide_eq_decide.mpr (by omega), show decide (57343 < i) = decide (57344 ≤ i) from decide_eq_decide.mpr (by omega)]
    rw [e] at q
    refine ⟨_, rfl, _, _, rfl, rfl, _, rfl, ?_⟩
    have second : ∀ Qz : VK, Qz (.bl (decide (57344 ≤ i) && decide (i ≤ 1114111))) H → tChain (rI0 fun i j => .bl (decide (i ≤ j))) (rI0 fun i j => .bl (decide (i ≤ j))) (tC (.int 57344)) (tVar 0) (tC (.int 1114111)) (start ["number"] [V.int i]) H Qz := by
      intro Qz qz
      refine ⟨_, rfl, _, _, rfl, rfl, _, rfl, ?_⟩
      by_cases h1 : 57344 ≤ i
      · rw [dT h1] at qz ⊢
        exact iteT ⟨_, _, rfl, rfl, qz⟩
      · rw [dF h1] at qz ⊢
        exact iteF qz
    by_cases h1 : 0 ≤ i
    · rw [dT h1] at q ⊢
      refine iteT ⟨_, _, rfl, rfl, _, rfl, ?_⟩
      by_cases h2 : i ≤ 55295
      · rw [dT h2] at q ⊢
        exact iteT q
      · rw [dF h2] at q ⊢
        exact iteF (second _ q)
    · rw [dF h1] at q ⊢
      exact iteF ⟨_, rfl, iteF (second _ q)⟩
end

theorem hx_num6 {n : Nat} (h : n < 16777216) : Hx.hexNum (hx 6 n) = n := hx_num 6 n (Nat.lt_of_lt_of_le h (by decide))
theorem neF {x : V} : V.bl (!decide (x = x)) = V.bl false := by rw [decide_eq_true (rfl : x = x)]; rfl
/-! #### the law -/
def spLaw (K : PySem.W.Frag) : Sp := fun vs H Q _ => ∃ (a : Addr) (ns : List Int), vs = [.ref a] ∧ SqL K H a (ns.map V.int) ∧ ns.length ≤ 63 ∧ ∀ H', Q (.bl true) H'
def pickL : List Int := [0, 9, 255, 4095, 55295, 55296, 57343, 57344, 65535, 65536, 1048575, 1114111, 1114112, 16777215]
theorem pick_ok : ∀ m ∈ pickL, ∃ n : Nat, m = (n : Int) ∧ n < 16777216 := by
  intro m hm
  have h : 0 ≤ m ∧ m < 16777216 := by
    have all : ∀ z ∈ pickL, 0 ≤ z ∧ z < 16777216 := by decide
    exact all m hm
  exact ⟨m.toNat, by omega, by omega⟩
theorem cut63 (ns : List Int) (h : ns.length ≤ 63) : cutV (ns.map V.int) none (some 63) = ns.map V.int := by
  unfold cutV
  rw [HT.sIx_none]
  have e : HT.sIx (ns.map V.int).length (ns.map V.int).length (some 63) = min 63 (ns.map V.int).length := HT.sIx_nat _ _ 63
  rw [e, List.length_map, List.drop_zero, Nat.sub_zero, Nat.min_eq_right h]
  exact List.take_of_length_le (by rw [List.length_map]; exact Nat.le_refl _)
/-- how the shortest figures come about -/
def shortOf (n : Nat) : List Nat := (hx 6 n).drop (if n < 65536 then 2 else if n < 1048576 then 1 else 0)
theorem shortOf_eq {n : Nat} (h : n < 16777216) : shortOf n = hex4 n := by
  unfold shortOf
  by_cases h1 : n < 65536
  · rw [if_pos h1, hex4_4 h1]
    rfl
  · rw [if_neg h1]
    by_cases h2 : n < 1048576
    · rw [if_pos h2, hex4_5 h2 (by omega)]
      rfl
    · rw [if_neg h2, hex4_6 h (by omega)]
      rfl
theorem hex4_is {n : Nat} (h : n < 16777216) : ∃ k, 4 ≤ k ∧ k ≤ 6 ∧ n < 16 ^ k ∧ hex4 n = hx k n := by
  by_cases h1 : n < 65536
  · exact ⟨4, by decide, by decide, Nat.lt_of_lt_of_le h1 (by decide), hex4_4 h1⟩
  · by_cases h2 : n < 1048576
    · exact ⟨5, by decide, by decide, Nat.lt_of_lt_of_le h2 (by decide), hex4_5 h2 (by omega)⟩
    · exact ⟨6, by decide, by decide, Nat.lt_of_lt_of_le h (by decide), hex4_6 h (by omega)⟩
/-- the figures ahead of the place are nought -/
def isNo (n : Nat) (i : Nat) : Bool := decide ((hx 6 n).take i = List.replicate i 48)
theorem isNo0 (n : Nat) : isNo n 0 = true := rfl
theorem isNo1 {n : Nat} (h : n < 16777216) : isNo n 1 = decide (n < 1048576) := by
  refine decide_eq_decide.mpr ?_
  rw [hx6]
  show [sgn (n / 1048576 % 16)] = [48] ↔ _
  have s := (sgn_hex (n / 1048576 % 16) (Nat.mod_lt _ (by decide))).2.2
  constructor
  · intro e
    have e1 := s.mp (List.cons.inj e).1
    omega
  · intro e
    rw [s.mpr (by omega)]
theorem isNo2 {n : Nat} (h : n < 16777216) : isNo n 2 = decide (n < 65536) := by
  refine decide_eq_decide.mpr ?_
  rw [hx6]
  show [sgn (n / 1048576 % 16), sgn (n / 65536 % 16)] = [48, 48] ↔ _
  have s := (sgn_hex (n / 1048576 % 16) (Nat.mod_lt _ (by decide))).2.2
  have s2 := (sgn_hex (n / 65536 % 16) (Nat.mod_lt _ (by decide))).2.2
  constructor
  · intro e
    have e1 := s.mp (List.cons.inj e).1
    have e2 := s2.mp (List.cons.inj (List.cons.inj e).2).1
    omega
  · intro e
    rw [s.mpr (by omega), s2.mpr (by omega)]
/-- the list of the comprehension, so far -/
def shorts (n : Nat) : Nat → List V
  | 0 => []
  | i + 1 => if isNo n i then shorts n i ++ [.str ⟨((hx 6 n).drop i).toArray⟩] else shorts n i
theorem shorts_len (n : Nat) : ∀ i, (shorts n i).length ≤ i
  | 0 => Nat.le_refl _
  | i + 1 => by
    have ih := shorts_len n i
    show (if isNo n i then shorts n i ++ [V.str ⟨((hx 6 n).drop i).toArray⟩] else shorts n i).length ≤ i + 1
    split
    · rw [List.length_append]
      exact Nat.succ_le_succ ih
    · exact Nat.le_succ_of_le ih
theorem shorts_last {n : Nat} (h : n < 16777216) : atI (shorts n 3) (-1) = some (.str ⟨(shortOf n).toArray⟩) := by
  have e : ∃ xs, shorts n 3 = xs ++ [.str ⟨(shortOf n).toArray⟩] := by
    show ∃ xs, (if isNo n 2 then (if isNo n 1 then (if isNo n 0 then [] ++ [V.str ⟨((hx 6 n).drop 0).toArray⟩] else []) ++ [V.str ⟨((hx 6 n).drop 1).toArray⟩] else (if isNo n 0 then [] ++ [V.str ⟨((hx 6 n).drop 0).toArray⟩] else [])) ++ [V.str ⟨((hx 6 n).drop 2).toArray⟩]
      else (if isNo n 1 then (if isNo n 0 then [] ++ [V.str ⟨((hx 6 n).drop 0).toArray⟩] else []) ++ [V.str ⟨((hx 6 n).drop 1).toArray⟩] else (if isNo n 0 then [] ++ [V.str ⟨((hx 6 n).drop 0).toArray⟩] else []))) = _
    rw [isNo0, isNo1 h, isNo2 h]
    unfold shortOf
    by_cases h1 : n < 65536
    · rw [if_pos h1, if_pos (dT h1)]
      exact ⟨_, rfl⟩
    · rw [if_neg h1, if_neg (by rw [dF h1]; decide)]
      by_cases h2 : n < 1048576
      · rw [if_pos h2, if_pos (dT h2)]
        exact ⟨_, rfl⟩
      · rw [if_neg h2, if_neg (by rw [dF h2]; decide), if_pos rfl]
        exact ⟨_, rfl⟩
  obtain ⟨xs, e⟩ := e
  rw [e]
  exact atI_last _ _
theorem cutS_to {l : List Nat} {i : Nat} (h : i ≤ l.length) : cutS ⟨l.toArray⟩ none (some (i : Int)) = ⟨(l.take i).toArray⟩ := by
  unfold cutS
  rw [HT.sIx_none, strLen]
  have e : HT.sIx l.length l.length (some (i : Int)) = min i l.length := HT.sIx_nat _ _ i
  rw [e, Nat.min_eq_left h, Nat.sub_zero]
  rfl
theorem cutS_from {l : List Nat} {i : Nat} (h : i ≤ l.length) : cutS ⟨l.toArray⟩ (some (i : Int)) none = ⟨(l.drop i).toArray⟩ := by
  unfold cutS
  rw [HT.sIx_none, strLen]
  have e : HT.sIx l.length 0 (some (i : Int)) = min i l.length := HT.sIx_nat _ _ i
  rw [e, Nat.min_eq_left h]
  show (⟨((l.drop i).take (l.length - i)).toArray⟩ : Str) = _
  rw [List.take_of_length_le (by rw [List.length_drop]; exact Nat.le_refl _)]
theorem six_S : (("000000" : Str)) = ⟨(List.replicate 6 48).toArray⟩ := by decide +kernel
theorem str_ne {a b : List Nat} : decide (V.str ⟨a.toArray⟩ = V.str ⟨b.toArray⟩) = decide (a = b) := decide_eq_decide.mpr ⟨fun e => SX.S_inj (V.str.inj e), fun e => by rw [e]⟩

section
variable {P : Program} {w : World} {K : PySem.W.Frag} {mg : Str → Option Value} {base : Heap}
theorem ok_law {f fK fT fG fI fL fB fX : Addr} {fd fdK fdT fdG fdI fdL fdB fdX : FuncData} (F : Fun K "law" "law" sLaw f fd)
    (FK : Fun K "_law_pick" "_law_pick" sPick fK fdK) (bK : Binds K fdK ["draw", "things"] []) (gK : mg "_law_pick" = some (.ref fK)) (GK : FnOk P w K mg base CX0 4 fK fdK ["draw", "things"] (spPick K))
    (FT : Fun K "_law_next" "_law_next" sNext fT fdT) (bT : Binds K fdT ["draw", "bound"] []) (gT : mg "_law_next" = some (.ref fT)) (GT : FnOk P w K mg base CX0 4 fT fdT ["draw", "bound"] (spNext K))
    (FG : Fun K "_law_figures" "_law_figures" sLFigures fG fdG) (bG : Binds K fdG ["point"] []) (gG : mg "_law_figures" = some (.ref fG)) (GG : FnOk P w K mg base CX0 4 fG fdG ["point"] spFigures)
    (FI : Fun K "is_point" "is_point" sIsPoint fI fdI) (bI : Binds K fdI ["thing"] []) (gI : mg "is_point" = some (.ref fI)) (GI : FnOk P w K mg base CX0 4 fI fdI ["thing"] (spIsPoint K))
    (FL : Fun K "_law_is_point" "_law_is_point" sLIsPoint fL fdL) (bL : Binds K fdL ["number"] []) (gL : mg "_law_is_point" = some (.ref fL)) (GL : FnOk P w K mg base CX0 4 fL fdL ["number"] spLIsPoint)
    (FB : Fun K "point_by" "point_by" sPointBy fB fdB) (bB : Binds K fdB ["figures"] []) (gB : mg "point_by" = some (.ref fB)) (GB : FnOk P w K mg base CX0 4 fB fdB ["figures"] (spPointBy K))
    (FX : Fun K "point_text" "point_text" sPointText fX fdX) (bX : Binds K fdX ["point"] []) (gX : mg "point_text" = some (.ref fX)) (GX : FnOk P w K mg base CX0 4 fX fdX ["point"] (spPointText K))
    (mr : mg "range" = none) : FnOk P w K mg base CX0 5 f fd ["script"] (spLaw K) := by
  refine F.ok scLaw (fun vs H Q E h => ?_) (fun cdv A outer s H vs Q E hr h => ?_)
  · obtain ⟨a, ns, rfl, _⟩ := h
    rfl
  · obtain ⟨a, ns, rfl, hS, hlen, q⟩ := h
    refine ⟨_, pss_cons (ps_set (i := 1) scLaw.nd rfl (.inl rfl) (pe_lst (pa_cons (pe_slice sl_list (pv 0) po_none (po_some pe_int)) (pa_cons pe_int (pa_cons pe_int pa_nil)))))
      (pss_cons (ps_for PassesOwn.never rfl (pi_range1 (by rfl) mr (pa_cons pe_int pa_nil)) (pg_name (i := 2) scLaw.nd rfl (.inl rfl))
        (pss_cons (ps_set (i := 3) scLaw.nd rfl (.inl rfl) (pe_call GK hr (by rfl) gK FK.kp bK .nil pass0 (pa_cons (pv 1) (pa_cons (pe_lst (pa_cons pe_int (pa_cons pe_int (pa_cons pe_int (pa_cons pe_int (pa_cons pe_int (pa_cons pe_int (pa_cons pe_int
            (pa_cons pe_int (pa_cons pe_int (pa_cons pe_int (pa_cons pe_int (pa_cons pe_int (pa_cons pe_int (pa_cons pe_int pa_nil))))))))))))))) pa_nil))))
        (C8.pss_cut (ps_if (pt_cmpR op_gt (pe_call GT hr (by rfl) gT FT.kp bT .nil pass0 (pa_cons (pv 1) (pa_cons pe_int pa_nil))) pe_int (nomark _))
            (pss_one (ps_set (i := 3) scLaw.nd rfl (.inl rfl) (pe_op op_add (pe_op op_mul (pe_call GT hr (by rfl) gT FT.kp bT .nil pass0 (pa_cons (pv 1) (pa_cons pe_int pa_nil))) pe_int) (pe_call GT hr (by rfl) gT FT.kp bT .nil pass0 (pa_cons (pv 1) (pa_cons pe_int pa_nil)))))) pss_nil)
        (pss_cons (ps_set (i := 4) scLaw.nd rfl (.inr rfl) (pe_call GG hr (by rfl) gG FG.kp bG .nil pass0 (pa_cons (pv 3) pa_nil)))
        (pss_cons (ps_if (PW.pt (pw_or (pt_cmpR op_ne (pe_call GI hr (by rfl) gI FI.kp bI .nil pass0 (pa_cons (pv 3) pa_nil)) (pe_call GL hr (by rfl) gL FL.kp bL .nil pass0 (pa_cons (pv 3) pa_nil)) (nomark _))
            (pw_or1 (pt_cmpR op_ne (pe_call GB hr (by rfl) gB FB.kp bB .nil pass0 (pa_cons (pv 4) pa_nil)) (pe_ifExp (pt_val (pe_call GL hr (by rfl) gL FL.kp bL .nil pass0 (pa_cons (pv 3) pa_nil))) (pv 3) pe_non) (nomark _))))) (pss_one (ps_ret pe_bl)) pss_nil)
        (pss_one (ps_if (pt_val (pe_call GL hr (by rfl) gL FL.kp bL .nil pass0 (pa_cons (pv 3) pa_nil)))
          (pss_cons (ps_set (i := 5) scLaw.nd rfl (.inl rfl) (pe_ix ix_list (pe_lc (own := [("at", 6)]) (g := gName 6) (by rfl) scLaw.nd (pi_range1 (by rfl) mr (pa_cons pe_int pa_nil)) (blkOk_by (N := ["script", "draw", "turn", "number", "figures", "short", "at"]) (sc := defScope sLaw) (by decide +kernel)) (fun _ _ _ _ _ => pg_name (i := 6) scLaw.nd rfl (.inl rfl))
              (fun _ _ _ _ _ => pts_one (pt_cmpR op_eq (pe_slice sl_str (pv 4) po_none (po_some (pv 6))) (pe_slice sl_str pe_str po_none (po_some (pv 6))) (nomark _)))
              (fun _ _ _ _ _ => pe_slice sl_str (pv 4) (po_some (pv 6)) po_none)) (pe_un un_neg pe_int) (fun _ _ => rfl)))
          (pss_one (ps_if (PW.pt (pw_or (pt_cmpR op_ne (pe_call GX hr (by rfl) gX FX.kp bX .nil pass0 (pa_cons (pv 3) pa_nil)) (pe_op op_add_str pe_str (pv 5)) (nomark _))
            (pw_or1 (pt_cmpR op_ne (pe_call GB hr (by rfl) gB FB.kp bB .nil pass0 (pa_cons (pv 5) pa_nil)) (pv 3) (nomark _))))) (pss_one (ps_ret pe_bl)) pss_nil))) pss_nil)))))))
      (pss_one (ps_ret (pe_and (pe_not (pe_call GI hr (by rfl) gI FI.kp bI .nil pass0 (pa_cons pe_bl pa_nil))) (pe_and (pe_not (pe_call GI hr (by rfl) gI FI.kp bI .nil pass0 (pa_cons pe_str pa_nil)))
        (pe_and (pe_not (pe_call GI hr (by rfl) gI FI.kp bI .nil pass0 (pa_cons pe_non pa_nil))) (pe_and (pe_not (pe_call GI hr (by rfl) gI FI.kp bI .nil pass0 (pa_cons (pe_un un_neg pe_int) pa_nil)))
        (pe_one (pe_not (pe_call GI hr (by rfl) gI FI.kp bI .nil pass0 (pa_cons (pe_op op_pow pe_int pe_int) pa_nil))))))))))), ?_⟩
    -- draw
    refine ⟨_, rfl, 63, rfl, a, _, rfl, hS, fun l nl => ⟨len63 (by show (3 : Nat) ≤ 100000; decide), fun d nd => ?_⟩⟩
    rw [cut63 ns hlen] at nd ⊢
    have hld : l ≠ d := fun e => by
      rw [← e, upd_same] at nd
      cases nd
    have hD0 : Dr d 0 (upd (upd H l (.lst (ns.map V.int))) d (.lst [.ref l, .int 0, .int 0])) := ⟨l, ns, hld, upd_same, by rw [upd_ne hld, upd_same], hlen⟩
    generalize (upd (upd H l (.lst (ns.map V.int))) d (.lst [.ref l, .int 0, .int 0])) = H0 at hD0 ⊢
    refine ⟨8, rfl, by decide, by decide, ?_⟩
    refine for_range (lo := 0) (n := 8) (fun i σ H' => (∃ n, n ≤ 10 * i ∧ Dr d n H') ∧ ∃ y2 y3 y4 y5 y6, σ = [some (.ref a), some (.ref d), y2, y3, y4, y5, y6]) ⟨⟨0, Nat.le_refl _, hD0⟩, none, none, none, none, none, rfl⟩ (fun i σ H1 hi hp => ?_) (fun σ H1 hp => ?_)
    · obtain ⟨⟨n0, hn0, hD⟩, y2, y3, y4, y5, y6, rfl⟩ := hp
      -- number
      refine ⟨_, rfl, len63 (by decide), fun t nt => ?_⟩
      have htd : t ≠ d := fun e => by
        obtain ⟨o, ho⟩ := hD.at
        rw [e, ho] at nt
        cases nt
      refine ⟨d, t, n0, pickL.map V.int, rfl, hD.same (same_upd nt), by omega, .inl (.inl (.inl upd_same)), htd, by decide, fun j x H2 hx bu hD2 => ?_⟩
      have hm : ∃ m : Nat, x = .int (m : Int) ∧ m < 16777216 := by
        have hmem := List.mem_of_getElem? hx
        obtain ⟨z, hz, rfl⟩ := List.mem_map.mp hmem
        obtain ⟨m, rfl, hm⟩ := pick_ok z hz
        exact ⟨m, rfl, hm⟩
      obtain ⟨m, rfl, hm⟩ := hm
      -- if _law_next(draw, 3) > 0
      refine ⟨fun σ' H' => ∃ (n' m' : Nat), n' ≤ n0 + 4 ∧ m' < 16777216 ∧ Dr d n' H' ∧ σ' = [some (.ref a), some (.ref d), some (.int (0 + (i : Int))), some (.int (m' : Int)), y4, y5, y6], ?_, ?_⟩
      · refine ⟨_, rfl, d, n0 + 1, 3, rfl, hD2, by omega, by decide, fun r H3 r0 r1 bu3 hD3 => ⟨_, _, rfl, rfl, _, rfl, ite2 (fun e => ?_) (fun e => ?_)⟩⟩
        · refine ⟨_, rfl, d, n0 + 2, 983, rfl, hD3, by omega, by decide, fun r4 H4 r40 r41 bu4 hD4 => ?_⟩
          refine ⟨_, _, rfl, rfl, .inr ⟨by decide, by decide⟩, ?_⟩
          refine ⟨_, rfl, d, n0 + 3, 983, rfl, hD4, by omega, by decide, fun r5 H5 r50 r51 bu5 hD5 => ⟨_, _, rfl, rfl, n0 + 4, (r4 * 17066 + r5).toNat, Nat.le_refl _, by omega, hD5, ?_⟩⟩
          have e2 : (((r4 * 17066 + r5).toNat : Nat) : Int) = r4 * 17066 + r5 := by omega
          rw [e2]
          rfl
        · exact ⟨n0 + 2, m, by omega, hm, hD3, rfl⟩
      · clear hm hD2 bu hx hD htd nt
        rintro σ' H3 ⟨n', m, hn', hm, hD3, rfl⟩
        -- figures
        refine ⟨_, rfl, m, rfl, hm, ?_⟩
        have hnum : Hx.hexNum (hx 6 m) = m := hx_num6 hm
        -- if is_point(number) != _law_is_point(number) or ..
        refine ⟨_, rfl, _, rfl, .inl ⟨_, rfl, _, rfl, _, rfl, rfl, false, neF, iteF ?_⟩⟩
        refine ⟨_, rfl, hx 6 m, rfl, by rw [hx_len]; decide, by rw [hx_len]; decide, hx_mem 6 m, _, rfl, _, rfl, _, rfl, ?_⟩
        have hfin : ∀ (y5' y6' : Option V) (H4 : Hp), Dr d n' H4 → (∃ n, n ≤ 10 * (i + 1) ∧ Dr d n H4) ∧ ∃ y2 y3 y4 y5 y6, [some (V.ref a), some (V.ref d), some (V.int (0 + (i : Int))), some (V.int (m : Int)), some (V.str ⟨(hx 6 m).toArray⟩), y5', y6'] = [some (V.ref a), some (V.ref d), y2, y3, y4, y5, y6] :=
          fun y5' y6' H4 h4 => ⟨⟨n', by omega, h4⟩, _, _, _, _, _, rfl⟩
        rw [hnum]
        cases hP : isPt (m : Int) with
        | false =>
          have ep : ptV m = .non := by
            unfold ptV
            rw [hP]
            rfl
          rw [ep]
          refine iteF ⟨rfl, false, neF, iteF ?_⟩
          · refine ⟨_, rfl, _, rfl, _, rfl, ?_⟩
            rw [hP]
            exact iteF (hfin _ _ _ hD3)
        | true =>
          have ep : ptV m = .int (m : Int) := by
            unfold ptV
            rw [hP]
            rfl
          rw [ep]
          refine iteT ⟨_, rfl, rfl, false, neF, iteF ?_⟩
          · refine ⟨_, rfl, _, rfl, _, rfl, ?_⟩
            rw [hP]
            refine iteT ?_
            -- short
            refine ⟨3, rfl, by decide, by decide, fun D nD => ?_⟩
            have hDd : D ≠ d := fun e => by
              obtain ⟨o, ho⟩ := hD3.at
              rw [e, ho] at nD
              cases nD
            obtain ⟨l', ns', g1, g2, g3, g4⟩ := hD3
            have hlD : l' ≠ D := ne_of_none g3 nD
            refine lc_range (lo := 0) (n := 3) (fun j H' => H' d = some (.lst [.ref l', .int 0, .int (n' : Int)]) ∧ H' l' = some (.lst (ns'.map V.int)) ∧ H' D = some (.lst (shorts m j))) ⟨by rw [upd_ne hDd.symm]; exact g2, by rw [upd_ne hlD]; exact g3, upd_same⟩ (fun j H4 hj hp => ?_) (fun H4 hp => ?_)
            · obtain ⟨hA, hB, hL⟩ := hp
              have ej : (0 : Int) + (j : Int) = (j : Int) := Int.zero_add _
              rw [ej]
              refine ⟨rfl, _, rfl, _, rfl, _, rfl, _, rfl, by rw [strLen, hx_len]; exact len63 (by decide), _, rfl, _, rfl, _, rfl, len63 (by decide +kernel), rfl, _, rfl, ?_⟩
              have ec : decide (V.str (cutS ⟨(hx 6 m).toArray⟩ none (some (j : Int))) = V.str (cutS "000000" none (some (j : Int)))) = isNo m j := by
                rw [six_S, cutS_to (by rw [hx_len]; omega), cutS_to (by rw [List.length_replicate]; omega), str_ne]
                unfold isNo
                rw [List.take_replicate, Nat.min_eq_left (by omega)]
              rw [ec]
              have hS' : shorts m (j + 1) = if isNo m j then shorts m j ++ [.str ⟨((hx 6 m).drop j).toArray⟩] else shorts m j := rfl
              cases hN : isNo m j with
              | false =>
                rw [hN] at hS'
                refine iteF ⟨hA, hB, ?_⟩
                rw [hS', hL]
                rfl
              | true =>
                rw [hN] at hS'
                refine iteT ⟨_, rfl, _, rfl, _, rfl, _, rfl, by rw [strLen, hx_len]; exact len63 (by decide), shorts m j, hL, Nat.lt_of_le_of_lt (shorts_len m j) (Nat.lt_of_lt_of_le (show j < 100 by omega) (len63 (by decide))), ?_, ?_⟩
                · rw [upd_ne hDd.symm]
                  exact hA
                · refine ⟨by rw [upd_ne hlD]; exact hB, ?_⟩
                  rw [upd_same, hS', cutS_from (by rw [hx_len]; omega)]
                  rfl
            · obtain ⟨hA, hB, hL⟩ := hp
              have hD4 : Dr d n' H4 := ⟨l', ns', g1, hA, hB, g4⟩
              refine ⟨1, rfl, D, _, -1, _, rfl, rfl, .inl (.inl hL), shorts_last hm, ?_⟩
              have hsh := shortOf_eq hm
              obtain ⟨k, k4, k6, hk, hkx⟩ := hex4_is hm
              -- if point_text(number) != ..
              have eU : (("U+" : Str)) ++ (⟨(shortOf m).toArray⟩ : Str) = ⟨(85 :: 43 :: hex4 m).toArray⟩ := by
                rw [hsh]
                have e0 : (("U+" : Str)) = SX.S [85, 43] := by decide +kernel
                rw [e0]
                exact SX.S_cat [85, 43] (hex4 m)
              refine ⟨_, rfl, m, rfl, hm, _, rfl, _, _, rfl, rfl, ?_, rfl, false, by rw [eU]; exact neF, iteF ?_⟩
              · rw [strLen (shortOf m), hsh, hkx, hx_len]
                exact Nat.le_trans (Nat.add_le_add_left k6 _) (by decide +kernel)
              · refine ⟨_, rfl, shortOf m, rfl, by rw [hsh, hkx, hx_len]; omega, by rw [hsh, hkx, hx_len]; omega, by rw [hsh, hkx]; exact hx_mem k m, _, rfl, ?_⟩
                rw [hsh, hkx, hx_num k m hk, ep]
                refine ⟨rfl, false, neF, iteF ?_⟩
                exact hfin _ _ _ hD4
    · obtain ⟨⟨n0, hn0, hD⟩, y2, y3, y4, y5, y6, rfl⟩ := hp
      refine ⟨_, rfl, .inr ⟨notInt_bl, false, rfl, true, rfl, iteT ?_⟩⟩
      refine ⟨_, rfl, .inr ⟨notInt_str, false, rfl, true, rfl, iteT ?_⟩⟩
      refine ⟨_, rfl, .inr ⟨notInt_non, false, rfl, true, rfl, iteT ?_⟩⟩
      refine ⟨_, rfl, _, rfl, .inl ⟨-1, rfl, false, rfl, true, rfl, iteT ?_⟩⟩
      refine ⟨_, _, rfl, rfl, ⟨by decide, by decide, by decide⟩, _, rfl, .inl ⟨_, rfl, false, ?_, ?_⟩⟩
      · exact congrArg V.bl (by decide +kernel)
      · exact q _
end
/-! ### what the top has written; the end -/
theorem all_mk {l : PySem.W.OpenLaw} {w : World} {K : PySem.W.Frag} {h : Heap} {mg : Str → Option Value} {fa f1 f2 f3 f4 f5 f6 f7 f8 f9 f10 f11 f12 : Addr} (X : K.In h) (G : h.Ns mainGlobals mg) (hfa : mg "law" = some (.ref fa))
    {od1 an1 od2 an2 od3 an3 od4 an4 od5 an5 od6 an6 od7 an7 od8 an8 od9 an9 od10 an10 od11 an11 od12 an12 : Option Addr} {sl1 sl2 sl3 sl4 sl5 sl6 sl7 sl8 sl9 sl10 sl11 sl12 : Array (Option Value)} {oc1 kV1 dc1 pm1 cd1 ct1 oc2 kV2 dc2 pm2 cd2 ct2 oc3 kV3 dc3 pm3 cd3 ct3 oc4 kV4 dc4 pm4 cd4 ct4 oc5 kV5 dc5 pm5 cd5 ct5 oc6 kV6 dc6 pm6 cd6 ct6 oc7 kV7 dc7 pm7 cd7 ct7 oc8 kV8 dc8 pm8 cd8 ct8 oc9 kV9 dc9 pm9 cd9 ct9 oc10 kV10 dc10 pm10 cd10 ct10 oc11 kV11 dc11 pm11 cd11 ct11 oc12 kV12 dc12 pm12 cd12 ct12 : Value} {t1 t2 t3 t4 : Tok}
    (a1 : PySem.W.nsIn K mainGlobals "law" = some (some (.ref f1))) (l1 : K.lookup f1 = some ⟨oc1, od1, .func (PySem.W.fnOf "law" "law" (defArgs sLaw) (defBody sLaw) (defScope sLaw) .none kV1 dc1 pm1 an1 cd1 ct1), sl1⟩) (c1 : PySem.W.codeIn K cd1 "law" = true) (k1 : PySem.W.keepIn K (.ref f1) = true)
    (a2 : PySem.W.nsIn K mainGlobals "_law_pick" = some (some (.ref f2))) (l2 : K.lookup f2 = some ⟨oc2, od2, .func (PySem.W.fnOf "_law_pick" "_law_pick" (defArgs sPick) (defBody sPick) (defScope sPick) .none kV2 dc2 pm2 an2 cd2 ct2), sl2⟩) (c2 : PySem.W.codeIn K cd2 "_law_pick" = true) (k2 : PySem.W.keepIn K (.ref f2) = true)
    (a3 : PySem.W.nsIn K mainGlobals "_law_next" = some (some (.ref f3))) (l3 : K.lookup f3 = some ⟨oc3, od3, .func (PySem.W.fnOf "_law_next" "_law_next" (defArgs sNext) (defBody sNext) (defScope sNext) .none kV3 dc3 pm3 an3 cd3 ct3), sl3⟩) (c3 : PySem.W.codeIn K cd3 "_law_next" = true) (k3 : PySem.W.keepIn K (.ref f3) = true)
    (a4 : PySem.W.nsIn K mainGlobals "_law_number" = some (some (.ref f4))) (l4 : K.lookup f4 = some ⟨oc4, od4, .func (PySem.W.fnOf "_law_number" "_law_number" (defArgs sNumber) (defBody sNumber) (defScope sNumber) .none kV4 dc4 pm4 an4 cd4 ct4), sl4⟩) (c4 : PySem.W.codeIn K cd4 "_law_number" = true) (k4 : PySem.W.keepIn K (.ref f4) = true)
    (a5 : PySem.W.nsIn K mainGlobals "_law_draw" = some (some (.ref f5))) (l5 : K.lookup f5 = some ⟨oc5, od5, .func (PySem.W.fnOf "_law_draw" "_law_draw" (defArgs sDraw) (defBody sDraw) (defScope sDraw) .none kV5 dc5 pm5 an5 cd5 ct5), sl5⟩) (c5 : PySem.W.codeIn K cd5 "_law_draw" = true) (k5 : PySem.W.keepIn K (.ref f5) = true)
    (a6 : PySem.W.nsIn K mainGlobals "_law_cell_at" = some (some (.ref f6))) (l6 : K.lookup f6 = some ⟨oc6, od6, .func (PySem.W.fnOf "_law_cell_at" "_law_cell_at" (defArgs sCell) (defBody sCell) (defScope sCell) .none kV6 dc6 pm6 an6 cd6 ct6), sl6⟩) (c6 : PySem.W.codeIn K cd6 "_law_cell_at" = true) (k6 : PySem.W.keepIn K (.ref f6) = true)
    (a7 : PySem.W.nsIn K mainGlobals "_law_figures" = some (some (.ref f7))) (l7 : K.lookup f7 = some ⟨oc7, od7, .func (PySem.W.fnOf "_law_figures" "_law_figures" (defArgs sLFigures) (defBody sLFigures) (defScope sLFigures) .none kV7 dc7 pm7 an7 cd7 ct7), sl7⟩) (c7 : PySem.W.codeIn K cd7 "_law_figures" = true) (k7 : PySem.W.keepIn K (.ref f7) = true)
    (a8 : PySem.W.nsIn K mainGlobals "is_point" = some (some (.ref f8))) (l8 : K.lookup f8 = some ⟨oc8, od8, .func (PySem.W.fnOf "is_point" "is_point" (defArgs sIsPoint) (defBody sIsPoint) (defScope sIsPoint) .none kV8 dc8 pm8 an8 cd8 ct8), sl8⟩) (c8 : PySem.W.codeIn K cd8 "is_point" = true) (k8 : PySem.W.keepIn K (.ref f8) = true)
    (a9 : PySem.W.nsIn K mainGlobals "is_integer" = some (some (.ref f9))) (l9 : K.lookup f9 = some ⟨oc9, od9, .func (PySem.W.fnOf "is_integer" "is_integer" (defArgs sIsInteger) (defBody sIsInteger) (defScope sIsInteger) .none kV9 dc9 pm9 an9 cd9 ct9), sl9⟩) (c9 : PySem.W.codeIn K cd9 "is_integer" = true) (k9 : PySem.W.keepIn K (.ref f9) = true)
    (a10 : PySem.W.nsIn K mainGlobals "_law_is_point" = some (some (.ref f10))) (l10 : K.lookup f10 = some ⟨oc10, od10, .func (PySem.W.fnOf "_law_is_point" "_law_is_point" (defArgs sLIsPoint) (defBody sLIsPoint) (defScope sLIsPoint) .none kV10 dc10 pm10 an10 cd10 ct10), sl10⟩) (c10 : PySem.W.codeIn K cd10 "_law_is_point" = true) (k10 : PySem.W.keepIn K (.ref f10) = true)
    (a11 : PySem.W.nsIn K mainGlobals "point_by" = some (some (.ref f11))) (l11 : K.lookup f11 = some ⟨oc11, od11, .func (PySem.W.fnOf "point_by" "point_by" (defArgs sPointBy) (defBody sPointBy) (defScope sPointBy) .none kV11 dc11 pm11 an11 cd11 ct11), sl11⟩) (c11 : PySem.W.codeIn K cd11 "point_by" = true) (k11 : PySem.W.keepIn K (.ref f11) = true)
    (a12 : PySem.W.nsIn K mainGlobals "point_text" = some (some (.ref f12))) (l12 : K.lookup f12 = some ⟨oc12, od12, .func (PySem.W.fnOf "point_text" "point_text" (defArgs sPointText) (defBody sPointText) (defScope sPointText) .none kV12 dc12 pm12 an12 cd12 ct12), sl12⟩) (c12 : PySem.W.codeIn K cd12 "point_text" = true) (k12 : PySem.W.keepIn K (.ref f12) = true)
    (g1 : PySem.W.nsIn K mainGlobals "GAP_FIRST" = some (some (.int 55296 t1)))
    (g2 : PySem.W.nsIn K mainGlobals "GAP_LAST" = some (some (.int 57343 t2)))
    (g3 : PySem.W.nsIn K mainGlobals "LAST_POINT" = some (some (.int 1114111 t3)))
    (g4 : PySem.W.nsIn K mainGlobals "FIGURES" = some (some (.str "0123456789ABCDEF" t4)))
    (z1 : PySem.W.nsIn K mainGlobals "len" = some none)
    (z2 : PySem.W.nsIn K mainGlobals "int" = some none)
    (z3 : PySem.W.nsIn K mainGlobals "bool" = some none)
    (z4 : PySem.W.nsIn K mainGlobals "isinstance" = some none)
    (z5 : PySem.W.nsIn K mainGlobals "range" = some none)
    : ∃ fd : FuncData, (∀ (s : Shared) (v : Value), BindsTo s fd ⟨[v], []⟩ [("script", v)]) ∧ ∀ base : Heap, K.In base → base.Ns mainGlobals mg → FnOk l.prog w K mg base CX0 5 fa fd ["script"] (spLaw K) := by
  have e := hfa.symm.trans (PySem.W.mg_of X G a1)
  cases e
  have F1 := fun_mk (st := sLaw) l1 c1 k1
  have F2 := fun_mk (st := sPick) l2 c2 k2
  have b2 := F2.binds (ps := ["draw", "things"]) fun _ _ _ _ _ _ us hl => match us, hl with | [_, _], _ => rfl
  have e2 := PySem.W.mg_of X G a2
  have F3 := fun_mk (st := sNext) l3 c3 k3
  have b3 := F3.binds (ps := ["draw", "bound"]) fun _ _ _ _ _ _ us hl => match us, hl with | [_, _], _ => rfl
  have e3 := PySem.W.mg_of X G a3
  have F4 := fun_mk (st := sNumber) l4 c4 k4
  have b4 := F4.binds (ps := ["cell", "k", "bound"]) fun _ _ _ _ _ _ us hl => match us, hl with | [_, _, _], _ => rfl
  have e4 := PySem.W.mg_of X G a4
  have F5 := fun_mk (st := sDraw) l5 c5 k5
  have b5 := F5.binds (ps := ["cell", "k", "bound"]) fun _ _ _ _ _ _ us hl => match us, hl with | [_, _, _], _ => rfl
  have e5 := PySem.W.mg_of X G a5
  have F6 := fun_mk (st := sCell) l6 c6 k6
  have b6 := F6.binds (ps := ["script", "k"]) fun _ _ _ _ _ _ us hl => match us, hl with | [_, _], _ => rfl
  have e6 := PySem.W.mg_of X G a6
  have F7 := fun_mk (st := sLFigures) l7 c7 k7
  have b7 := F7.binds (ps := ["point"]) fun _ _ _ _ _ _ us hl => match us, hl with | [_], _ => rfl
  have e7 := PySem.W.mg_of X G a7
  have F8 := fun_mk (st := sIsPoint) l8 c8 k8
  have b8 := F8.binds (ps := ["thing"]) fun _ _ _ _ _ _ us hl => match us, hl with | [_], _ => rfl
  have e8 := PySem.W.mg_of X G a8
  have F9 := fun_mk (st := sIsInteger) l9 c9 k9
  have b9 := F9.binds (ps := ["thing"]) fun _ _ _ _ _ _ us hl => match us, hl with | [_], _ => rfl
  have e9 := PySem.W.mg_of X G a9
  have F10 := fun_mk (st := sLIsPoint) l10 c10 k10
  have b10 := F10.binds (ps := ["number"]) fun _ _ _ _ _ _ us hl => match us, hl with | [_], _ => rfl
  have e10 := PySem.W.mg_of X G a10
  have F11 := fun_mk (st := sPointBy) l11 c11 k11
  have b11 := F11.binds (ps := ["figures"]) fun _ _ _ _ _ _ us hl => match us, hl with | [_], _ => rfl
  have e11 := PySem.W.mg_of X G a11
  have F12 := fun_mk (st := sPointText) l12 c12 k12
  have b12 := F12.binds (ps := ["point"]) fun _ _ _ _ _ _ us hl => match us, hl with | [_], _ => rfl
  have e12 := PySem.W.mg_of X G a12
  have G1 := PySem.W.mg_of X G g1
  have G2 := PySem.W.mg_of X G g2
  have G3 := PySem.W.mg_of X G g3
  have G4 := PySem.W.mg_of X G g4
  have Z1 := PySem.W.mg_none_of X G z1
  have Z2 := PySem.W.mg_none_of X G z2
  have Z3 := PySem.W.mg_none_of X G z3
  have Z4 := PySem.W.mg_none_of X G z4
  have Z5 := PySem.W.mg_none_of X G z5
  refine ⟨PySem.W.fnOf "law" "law" (defArgs sLaw) (defBody sLaw) (defScope sLaw) .none kV1 dc1 pm1 an1 cd1 ct1, fun s v => .of_eq rfl, fun base _ _ => ?_⟩
  have GT : ∀ k, FnOk l.prog w K mg base CX0 (k + 3) _ _ ["draw", "bound"] (spNext K) := fun k => ok_next F3 F6 b6 e6 Z1 F4 b4 e4 F5 b5 e5 Z2 Z5
  have GI : ∀ k, FnOk l.prog w K mg base CX0 (k + 2) _ _ ["thing"] (spIsPoint K) := fun k => ok_ispoint F8 F9 b9 e9 Z2 Z3 Z4 G1 G2 G3
  exact ok_law F1 F2 b2 e2 (ok_pick (k := 0) F2 F3 b3 e3 (GT 0) Z1) F3 b3 e3 (GT 1) F7 b7 e7 (ok_figures (k := 3) F7 Z5) F8 b8 e8 (GI 2) F10 b10 e10 (ok_lispoint (k := 3) F10) F11 b11 e11 (ok_pby (k := 1) F11 F8 b8 e8 (GI 1) Z2 Z1 G4) F12 b12 e12 (ok_ptext (k := 3) F12) Z5
end CA
open PySem PySem.W PyProof.Rows
set_option maxRecDepth 100000 in
set_option maxHeartbeats 0 in
theorem PySem.Challenge.cw_cutsanywhere_k02_points_in_words_holds : PySem.Challenge.rw_cutsanywhere_k02_points_in_words.Holds := by
  w_on; o_law; k_head; (case hw => w_witness2)
  k_fill
  refine L2.walk_of (l := PySem.Challenge.rw_cutsanywhere_k02_points_in_words) (n := 63) (k := 5) (x := "script") (CX := fun _ => L2.CX0) (sp := fun w => CA.spLaw _) rfl (by decide) rfl ⟨rfl, by decide, by decide⟩ (fun w h Y => PySem.W.kIn_of Y) ?F (fun _ _ a ns hl _ hS => ⟨a, ns, rfl, hS, hl, fun _ => rfl⟩) (fun _ _ _ _ _ h => h)
  case F =>
    intro w mg fa h KX G hmg
    refine' CA.all_mk KX G hmg ?a1 ?l1 ?c1 ?k1 ?a2 ?l2 ?c2 ?k2 ?a3 ?l3 ?c3 ?k3 ?a4 ?l4 ?c4 ?k4 ?a5 ?l5 ?c5 ?k5 ?a6 ?l6 ?c6 ?k6 ?a7 ?l7 ?c7 ?k7 ?a8 ?l8 ?c8 ?k8 ?a9 ?l9 ?c9 ?k9 ?a10 ?l10 ?c10 ?k10 ?a11 ?l11 ?c11 ?k11 ?a12 ?l12 ?c12 ?k12 ?g1 ?g2 ?g3 ?g4 ?z1 ?z2 ?z3 ?z4 ?z5
    (case a1 => k_is)
    (case l1 => k_is)
    (case c1 => k_is)
    (case k1 => k_is)
    (case a2 => k_is)
    (case l2 => k_is)
    (case c2 => k_is)
    (case k2 => k_is)
    (case a3 => k_is)
    (case l3 => k_is)
    (case c3 => k_is)
    (case k3 => k_is)
    (case a4 => k_is)
    (case l4 => k_is)
    (case c4 => k_is)
    (case k4 => k_is)
    (case a5 => k_is)
    (case l5 => k_is)
    (case c5 => k_is)
    (case k5 => k_is)
    (case a6 => k_is)
    (case l6 => k_is)
    (case c6 => k_is)
    (case k6 => k_is)
    (case a7 => k_is)
    (case l7 => k_is)
    (case c7 => k_is)
    (case k7 => k_is)
    (case a8 => k_is)
    (case l8 => k_is)
    (case c8 => k_is)
    (case k8 => k_is)
    (case a9 => k_is)
    (case l9 => k_is)
    (case c9 => k_is)
    (case k9 => k_is)
    (case a10 => k_is)
    (case l10 => k_is)
    (case c10 => k_is)
    (case k10 => k_is)
    (case a11 => k_is)
    (case l11 => k_is)
    (case c11 => k_is)
    (case k11 => k_is)
    (case a12 => k_is)
    (case l12 => k_is)
    (case c12 => k_is)
    (case k12 => k_is)
    (case g1 => k_is)
    (case g2 => k_is)
    (case g3 => k_is)
    (case g4 => k_is)
    (case z1 => k_is)
    (case z2 => k_is)
    (case z3 => k_is)
    (case z4 => k_is)
    (case z5 => k_is)

import PyProof.Rows.All
import Wide.All
import OpenK.AllK
import Wide.FinOn
import PySem.Challenge.RW_cutsanywhere_k09_patterns_or_not
import HandS.ForMost
import HandS.Wide
import HandS.Codes
import HandS.IsInst
import HandS.Evl
set_option Elab.async false
set_option linter.all false
set_option maxRecDepth 100000
set_option maxHeartbeats 4000000
namespace CA
open PySem PySem.Spec PyProof.Rows L2
def topS (i : Nat) : Stmt := PySem.Challenge.pw_cutsanywhere_k09_patterns_or_not.main.body.getD i (.Pass ⟨0, 0, 0, 0⟩)
abbrev sIsName : Stmt := topS 6
theorem scIsName : FnScope ["thing"] ["thing"] (defScope sIsName) := ⟨rfl, rfl, rfl, by decide +kernel, rfl, by decide +kernel, by decide +kernel⟩
abbrev sIsWord : Stmt := topS 7
theorem scIsWord : FnScope ["thing"] ["thing"] (defScope sIsWord) := ⟨rfl, rfl, rfl, by decide +kernel, rfl, by decide +kernel, by decide +kernel⟩
abbrev sWordEnd : Stmt := topS 8
theorem scWordEnd : FnScope ["text", "at"] ["text", "at"] (defScope sWordEnd) := ⟨rfl, rfl, rfl, by decide +kernel, rfl, by decide +kernel, by decide +kernel⟩
abbrev sIsPattern : Stmt := topS 13
theorem scIsPattern : FnScope ["thing"] ["thing"] (defScope sIsPattern) := ⟨rfl, rfl, rfl, by decide +kernel, rfl, by decide +kernel, by decide +kernel⟩
abbrev sUIsPattern : Stmt := topS 14
theorem scUIsPattern : FnScope ["thing", "depth", "kind", "told"] ["thing", "depth"] (defScope sUIsPattern) := ⟨rfl, rfl, rfl, by decide +kernel, rfl, by decide +kernel, by decide +kernel⟩
abbrev sUAreParts : Stmt := topS 15
theorem scUAreParts : FnScope ["thing", "least", "depth", "part"] ["thing", "least", "depth"] (defScope sUAreParts) := ⟨rfl, rfl, rfl, by decide +kernel, rfl, by decide +kernel, by decide +kernel⟩
abbrev sCell : Stmt := topS 17
theorem scCell : FnScope ["script", "k"] ["script", "k"] (defScope sCell) := ⟨rfl, rfl, rfl, by decide +kernel, rfl, by decide +kernel, by decide +kernel⟩
abbrev sDraw : Stmt := topS 18
theorem scDraw : FnScope ["cell", "k", "bound", "primes"] ["cell", "k", "bound"] (defScope sDraw) := ⟨rfl, rfl, rfl, by decide +kernel, rfl, by decide +kernel, by decide +kernel⟩
abbrev sNumber : Stmt := topS 19
theorem scNumber : FnScope ["cell", "k", "bound", "power", "lap", "remains", "small"] ["cell", "k", "bound"] (defScope sNumber) := ⟨rfl, rfl, rfl, by decide +kernel, rfl, by decide +kernel, by decide +kernel⟩
abbrev sNext : Stmt := topS 20
theorem scNext : FnScope ["draw", "bound", "at", "cell"] ["draw", "bound"] (defScope sNext) := ⟨rfl, rfl, rfl, by decide +kernel, rfl, by decide +kernel, by decide +kernel⟩
abbrev sPick : Stmt := topS 21
theorem scPick : FnScope ["draw", "things"] ["draw", "things"] (defScope sPick) := ⟨rfl, rfl, rfl, by decide +kernel, rfl, by decide +kernel, by decide +kernel⟩
abbrev sLItem : Stmt := topS 22
theorem scLItem : FnScope ["draw", "names", "kind"] ["draw", "names"] (defScope sLItem) := ⟨rfl, rfl, rfl, by decide +kernel, rfl, by decide +kernel, by decide +kernel⟩
abbrev sLPattern : Stmt := topS 23
theorem scLPattern : FnScope ["draw", "names", "room", "deep", "kind", "one", "other"] ["draw", "names", "room", "deep"] (defScope sLPattern) := ⟨rfl, rfl, rfl, by decide +kernel, rfl, by decide +kernel, by decide +kernel⟩
abbrev sLBent : Stmt := topS 24
theorem scLBent : FnScope ["draw", "pattern", "kind", "wrong"] ["draw", "pattern"] (defScope sLBent) := ⟨rfl, rfl, rfl, by decide +kernel, rfl, by decide +kernel, by decide +kernel⟩
abbrev sLaw : Stmt := topS 25
theorem scLaw : FnScope ["script", "draw", "pattern", "many", "deep", "turn"] ["script"] (defScope sLaw) := ⟨rfl, rfl, rfl, by decide +kernel, rfl, by decide +kernel, by decide +kernel⟩
/-! ### drawing: the helpers that all statements share -/
/-- all that was tracked is as it was, but for the object at d -/
def But (d : Addr) (H H' : Hp) : Prop := ∀ b o, b ≠ d → H b = some o → H' b = some o
theorem But.refl (d : Addr) (H : Hp) : But d H H := fun _ _ _ h => h
theorem But.trans {d : Addr} {H H1 H2 : Hp} (a : But d H H1) (b : But d H1 H2) : But d H H2 := fun c o n h => b c o n (a c o n h)
theorem But.same {d : Addr} {H H1 H2 : Hp} (a : But d H H1) (b : Same H1 H2) : But d H H2 := fun c o n h => b c o (a c o n h)
theorem Same.but {d : Addr} {H H1 H2 : Hp} (a : Same H H1) (b : But d H1 H2) : But d H H2 := fun c o n h => b c o n (a c o h)
theorem same_upd {H : Hp} {p : Addr} {o : HO} (h : H p = none) : Same H (upd H p o) := fun b x e => by
  rw [upd_ne (ne_of_none e h)]
  exact e
/-- the state of drawing at d: the script's part at l, nought, how often one has drawn -/
def Dr (d l : Addr) (n : Nat) (H : Hp) : Prop := l ≠ d ∧ H d = some (.lst [.ref l, .int 0, .int (n : Int)]) ∧ ∃ ns : List Int, H l = some (.lst (ns.map V.int)) ∧ ns.length ≤ 63
theorem Dr.same {d l : Addr} {n : Nat} {H H' : Hp} (a : Dr d l n H) (b : Same H H') : Dr d l n H' := by
  obtain ⟨h1, h2, ns, h3, h4⟩ := a
  exact ⟨h1, b _ _ h2, ns, b _ _ h3, h4⟩
theorem Dr.at {d l : Addr} {n : Nat} {H : Hp} (a : Dr d l n H) : ∃ o, H d = some o := by
  obtain ⟨h1, h2, ns, h3, h4⟩ := a
  exact ⟨_, h2⟩
theorem Dr.lat {d l : Addr} {n : Nat} {H : Hp} (a : Dr d l n H) : ∃ o, H l = some o := by
  obtain ⟨h1, h2, ns, h3, h4⟩ := a
  exact ⟨_, h3⟩
theorem Dr.newD {d l : Addr} {n : Nat} {H : Hp} (a : Dr d l n H) {p : Addr} (h : H p = none) : p ≠ d := fun e => by
  obtain ⟨o, ho⟩ := a.at
  rw [e, ho] at h
  cases h
theorem Dr.newL {d l : Addr} {n : Nat} {H : Hp} (a : Dr d l n H) {p : Addr} (h : H p = none) : p ≠ l := fun e => by
  obtain ⟨o, ho⟩ := a.lat
  rw [e, ho] at h
  cases h
theorem Dr.upd {d l : Addr} {n : Nat} {H : Hp} (a : Dr d l n H) {r : Addr} {o : HO} (h1 : r ≠ d) (h2 : r ≠ l) : Dr d l n (upd H r o) := by
  obtain ⟨g1, g2, ns, g3, g4⟩ := a
  exact ⟨g1, by rw [upd_ne h1.symm]; exact g2, ns, by rw [upd_ne h2.symm]; exact g3, g4⟩
theorem len63 {n : Nat} (h : n ≤ 100000) : n ≤ sizeLine := Nat.le_trans h (by decide)

theorem at_int {α : Type} {xs : List α} {i : Int} (h0 : 0 ≤ i) (h1 : i < (xs.length : Int)) : ∃ (h : i.toNat < xs.length), atI xs i = some (xs[i.toNat]'h) := by
  refine ⟨by omega, ?_⟩
  have e : atI xs ((i.toNat : Nat) : Int) = some (xs[i.toNat]'(by omega)) := atI_nat (List.getElem?_eq_getElem (by omega))
  have e2 : ((i.toNat : Nat) : Int) = i := by omega
  rw [e2] at e
  exact e
theorem cell_at {ns : List Int} {j : Nat} (h : j < ns.length) : atI (ns.map V.int) ((j : Nat) : Int) = some (V.int ns[j]) := atI_nat (by
  rw [List.getElem?_map, List.getElem?_eq_getElem h]
  rfl)
/-! #### the cell at a place, nought behind the last one -/
def spCellAt (K : PySem.W.Frag) : Sp := fun vs H Q _ => ∃ (l : Addr) (ns : List Int) (k : Nat), vs = [.ref l, .int (k : Int)] ∧ SqL K H l (ns.map V.int) ∧ ∀ z : Int, Q (.int z) H
section
variable {P : Program} {w : World} {K : PySem.W.Frag} {mg : Str → Option Value} {base : Heap}
theorem ok_cell {f : Addr} {fd : FuncData} {k : Nat} (F : Fun K "_law_cell_at" "_law_cell_at" sCell f fd) (ml : mg "len" = none) : FnOk P w K mg base CX0 (k + 1) f fd ["script", "k"] (spCellAt K) := by
  refine F.ok scCell (fun vs H Q E h => ?_) (fun cdv A outer s H vs Q E hr h => ?_)
  · obtain ⟨l, ns, j, rfl, _⟩ := h
    rfl
  · obtain ⟨l, ns, j, rfl, hS, q⟩ := h
    refine ⟨_, pss_cons (ps_if (pt_cmpR op_lt (pv 1) (pe_callB call_len_seq (by rfl) ml PySem.boot_len (pa_cons (pv 0) pa_nil)) (nomark _)) (pss_one (ps_ret (pe_ix ix_list (pv 0) (pv 1) (fun _ _ => rfl)))) pss_nil)
      (pss_one (ps_ret pe_int)), ?_⟩
    refine ⟨_, rfl, _, rfl, l, _, rfl, .inl hS, _, _, rfl, rfl, _, rfl, ite2 (fun e => ?_) (fun e => ?_)⟩
    · have hj : j < ns.length := by
        have := of_decide_eq_true e
        rw [List.length_map] at this
        omega
      exact ⟨_, rfl, _, rfl, l, _, _, _, rfl, rfl, hS, cell_at hj, q _⟩
    · exact q 0

/-! #### a small number of two numbers -/
def primesOf : List Int := [1000003, 1000033, 1000037, 1000039, 1000081, 1000099, 1000117, 1000121, 1000133, 1000151, 1000159, 1000171, 1000183, 1000187, 1000193, 1000199]
theorem primes_at {j : Int} (h0 : 0 ≤ j) (h1 : j < 16) : ∃ p : Int, 0 < p ∧ atI (primesOf.map V.int) j = some (.int p) := by
  have key : j = 0 ∨ j = 1 ∨ j = 2 ∨ j = 3 ∨ j = 4 ∨ j = 5 ∨ j = 6 ∨ j = 7 ∨ j = 8 ∨ j = 9 ∨ j = 10 ∨ j = 11 ∨ j = 12 ∨ j = 13 ∨ j = 14 ∨ j = 15 := by omega
  rcases key with rfl | rfl | rfl | rfl | rfl | rfl | rfl | rfl | rfl | rfl | rfl | rfl | rfl | rfl | rfl | rfl <;> exact ⟨_, by decide, rfl⟩
def spDraw (K : PySem.W.Frag) : Sp := fun vs H Q _ => ∃ (c k b : Int), vs = [.int c, .int k, .int b] ∧ 0 < b ∧ (-(2 ^ 64) < k ∧ k < 2 ^ 64) ∧ ∀ (r : Int) H', 0 ≤ r → r < b → Same H H' → Q (.int r) H'
theorem ok_draw {f : Addr} {fd : FuncData} {k : Nat} (F : Fun K "_law_draw" "_law_draw" sDraw f fd) (mi : mg "int" = none) : FnOk P w K mg base CX0 (k + 1) f fd ["cell", "k", "bound"] (spDraw K) := by
  refine F.ok scDraw (fun vs H Q E h => ?_) (fun cdv A outer s H vs Q E hr h => ?_)
  · obtain ⟨c, j, b, rfl, _⟩ := h
    rfl
  · obtain ⟨c, j, b, rfl, hb, hj, q⟩ := h
    refine ⟨_, pss_cons (ps_set (i := 3) scDraw.nd rfl (.inl rfl) (pe_tup (pa_cons pe_int (pa_cons pe_int (pa_cons pe_int (pa_cons pe_int (pa_cons pe_int (pa_cons pe_int (pa_cons pe_int (pa_cons pe_int
        (pa_cons pe_int (pa_cons pe_int (pa_cons pe_int (pa_cons pe_int (pa_cons pe_int (pa_cons pe_int (pa_cons pe_int (pa_cons pe_int pa_nil))))))))))))))))))
      (pss_one (ps_ret (pe_op op_mod (pe_op op_mod (pe_callTy call_int1 (by rfl) mi (by decide +kernel) (pa_cons (pe_op op_add (pe_op op_mul (pv 0) pe_int) (pe_op op_mul (pv 1) pe_int)) pa_nil))
        (pe_ix ix_tup (pv 3) (pe_op op_mod (pe_callTy call_int1 (by rfl) mi (by decide +kernel) (pa_cons (pv 1) pa_nil)) pe_int) (fun _ _ => rfl))) (pv 2)))), ?_⟩
    refine ⟨len63 (by show (16 : Nat) ≤ 100000; decide), fun p np => ?_⟩
    have hp : SqT K (upd H p (.tup (primesOf.map V.int))) p (primesOf.map V.int) := .inl (.inl upd_same)
    obtain ⟨m, hm, he⟩ := primes_at (j := j % 16) (Int.emod_nonneg _ (by decide)) (Int.emod_lt_of_pos _ (by decide))
    refine ⟨_, rfl, _, _, rfl, rfl, .inr ⟨by decide, by decide⟩, _, rfl, _, _, rfl, rfl, .inr ⟨by decide, by decide⟩, _, _, rfl, rfl, .inl ⟨_, rfl, ?_⟩⟩
    refine ⟨_, rfl, _, rfl, .inl ⟨_, rfl, ?_⟩⟩
    refine ⟨_, _, rfl, rfl, (by show (0 : Int) < 16; decide), p, _, _, _, rfl, rfl, hp, he, _, _, rfl, rfl, hm, _, rfl, _, _, rfl, rfl, hb, ?_⟩
    exact q _ _ (Int.emod_nonneg _ (by omega)) (Int.emod_lt_of_pos _ hb) (same_upd np)

/-! #### a number below a bound, of one cell -/
def spNumber (K : PySem.W.Frag) : Sp := fun vs H Q _ => ∃ (c k b : Int), vs = [.int c, .int k, .int b] ∧ 0 < b ∧ (0 ≤ k ∧ k < 1000) ∧ ∀ (r : Int) H', 0 ≤ r → r < b → Same H H' → Q (.int r) H'
theorem pow1009 {i : Nat} (h : i ≤ 24) : ((1009 : Int) ^ i).natAbs < 2 ^ 300 := by
  have e : ((1009 : Int) ^ i).natAbs = 1009 ^ i := by
    rw [Int.natAbs_pow]
    rfl
  rw [e]
  exact Nat.lt_of_le_of_lt (Nat.pow_le_pow_right (by decide) h) (by decide +kernel)
theorem pow1009_pos (i : Nat) : (0 : Int) < (1009 : Int) ^ i := Int.pow_pos (by decide)
theorem ok_number {f fD : Addr} {fd fdD : FuncData} {k : Nat} (F : Fun K "_law_number" "_law_number" sNumber f fd) (FD : Fun K "_law_draw" "_law_draw" sDraw fD fdD) (bD : Binds K fdD ["cell", "k", "bound"] []) (gD : mg "_law_draw" = some (.ref fD))
    (mi : mg "int" = none) (mr : mg "range" = none) : FnOk P w K mg base CX0 (k + 2) f fd ["cell", "k", "bound"] (spNumber K) := by
  have GD : FnOk P w K mg base CX0 (k + 1) fD fdD ["cell", "k", "bound"] (spDraw K) := ok_draw FD mi
  refine F.ok scNumber (fun vs H Q E h => ?_) (fun cdv A outer s H vs Q E hr h => ?_)
  · obtain ⟨c, j, b, rfl, _⟩ := h
    rfl
  · obtain ⟨c, j, b, rfl, hb, hj, q⟩ := h
    refine ⟨_, pss_cons (ps_set (i := 3) scNumber.nd rfl (.inl rfl) pe_int)
      (pss_cons (ps_for PassesOwn.never rfl (pi_range1 (by rfl) mr (pa_cons (pe_op op_mod (pe_callTy call_int1 (by rfl) mi (by decide +kernel) (pa_cons (pv 1) pa_nil)) pe_int) pa_nil)) (pg_name (i := 4) scNumber.nd rfl (.inl rfl))
        (pss_one (ps_set (i := 3) scNumber.nd rfl (.inl rfl) (pe_op op_mul (pv 3) pe_int))))
      (pss_cons (ps_set (i := 5) scNumber.nd rfl (.inl rfl) (pe_op op_fdivW (pe_op op_sub (pv 0) (pe_op op_pow pe_int pe_int)) (pv 3)))
      (pss_cons (ps_if (pt_cmpR op_gt (pv 5) pe_int (nomark _)) (pss_one (ps_ret (pe_op op_mod (pe_op op_mod (pe_callTy call_int1 (by rfl) mi (by decide +kernel) (pa_cons (pv 5) pa_nil)) pe_int) (pv 2)))) pss_nil)
      (pss_cons (ps_set (i := 6) scNumber.nd rfl (.inl rfl) (pe_op op_mod (pe_callTy call_int1 (by rfl) mi (by decide +kernel) (pa_cons (pv 0) pa_nil)) pe_int))
      (pss_one (ps_ret (pe_op op_mod (pe_call GD hr (by rfl) gD FD.kp bD .nil pass0
        (pa_cons (pe_op op_mul (pe_op op_add (pv 6) (pe_op op_mul pe_int (pv 1))) (pe_op op_add (pe_op op_add (pv 6) (pe_op op_mul pe_int (pv 1))) pe_int))
        (pa_cons (pe_op op_add (pe_op op_mod (pe_callTy call_int1 (by rfl) mi (by decide +kernel) (pa_cons (pv 1) pa_nil)) pe_int) pe_int) (pa_cons pe_int pa_nil)))) (pv 2)))))))), ?_⟩
    have h24 : (0 : Int) ≤ j % 24 ∧ j % 24 < 24 := ⟨Int.emod_nonneg _ (by decide), Int.emod_lt_of_pos _ (by decide)⟩
    refine ⟨_, rfl, .inl ⟨_, rfl, _, _, rfl, rfl, (by show (0 : Int) < 24; decide), _, rfl, by omega, by omega, ?_⟩⟩
    refine for_range (lo := 0) (n := (j % 24).toNat) (fun i σ H' => H' = H ∧ ∃ y, σ = [some (.int c), some (.int j), some (.int b), some (.int ((1009 : Int) ^ i)), y, none, none]) ⟨rfl, none, rfl⟩ (fun i σ H' hi hp => ?_) (fun σ H' hp => ?_)
    · obtain ⟨rfl, y, rfl⟩ := hp
      refine ⟨_, rfl, _, _, rfl, rfl, .inr ⟨by decide, by decide⟩, rfl, some (.int ((0 : Int) + (i : Int))), ?_⟩
      rw [Int.pow_succ]
      rfl
    · obtain ⟨rfl, y, rfl⟩ := hp
      refine ⟨_, rfl, _, _, rfl, rfl, ⟨by decide, by decide, by decide⟩, _, _, rfl, rfl, _, rfl, _, _, rfl, rfl, wide_div (pow1009_pos _) (pow1009 (by omega)) (by decide) (by decide), ?_⟩
      refine ⟨_, rfl, _, _, rfl, rfl, _, rfl, ite2 (fun e => ?_) (fun e => ?_)⟩
      · refine ⟨_, rfl, .inl ⟨_, rfl, _, _, rfl, rfl, (by show (0 : Int) < 1009; decide), _, rfl, _, _, rfl, rfl, hb, ?_⟩⟩
        exact q _ _ (Int.emod_nonneg _ (by omega)) (Int.emod_lt_of_pos _ hb) (Same.refl _)
      · have hs : (0 : Int) ≤ c % 1000003 ∧ c % 1000003 < 1000003 := ⟨Int.emod_nonneg _ (by decide), Int.emod_lt_of_pos _ (by decide)⟩
        refine ⟨_, rfl, .inl ⟨_, rfl, _, _, rfl, rfl, (by show (0 : Int) < 1000003; decide), ?_⟩⟩
        refine ⟨_, rfl, _, rfl, _, _, rfl, rfl, .inl ⟨by decide, by decide⟩, _, _, rfl, rfl, ?_⟩
        refine ⟨_, rfl, _, rfl, _, _, rfl, rfl, .inl ⟨by decide, by decide⟩, _, _, rfl, rfl, _, _, rfl, rfl, ?_⟩
        refine ⟨_, _, rfl, rfl, .inl ⟨by omega, by omega⟩, ?_⟩
        refine ⟨_, rfl, .inl ⟨_, rfl, _, _, rfl, rfl, (by show (0 : Int) < 9; decide), _, _, rfl, rfl, ?_⟩⟩
        refine ⟨_, _, _, rfl, by decide, ⟨by omega, by omega⟩, fun r H2 h0 h1 sm => ?_⟩
        refine ⟨_, rfl, _, _, rfl, rfl, hb, ?_⟩
        exact q _ _ (Int.emod_nonneg _ (by omega)) (Int.emod_lt_of_pos _ hb) sm
/-! #### the next draw -/
def spNext (K : PySem.W.Frag) : Sp := fun vs H Q _ => ∃ (d l : Addr) (n : Nat) (b : Int), vs = [.ref d, .int b] ∧ Dr d l n H ∧ n < 1000000 ∧ 0 < b ∧ ∀ (r : Int) H', 0 ≤ r → r < b → But d H H' → Dr d l (n + 1) H' → Q (.int r) H'
theorem ok_next {f fC fN fD : Addr} {fd fdC fdN fdD : FuncData} {k : Nat} (F : Fun K "_law_next" "_law_next" sNext f fd)
    (FC : Fun K "_law_cell_at" "_law_cell_at" sCell fC fdC) (bC : Binds K fdC ["script", "k"] []) (gC : mg "_law_cell_at" = some (.ref fC)) (ml : mg "len" = none)
    (FN : Fun K "_law_number" "_law_number" sNumber fN fdN) (bN : Binds K fdN ["cell", "k", "bound"] []) (gN : mg "_law_number" = some (.ref fN))
    (FD : Fun K "_law_draw" "_law_draw" sDraw fD fdD) (bD : Binds K fdD ["cell", "k", "bound"] []) (gD : mg "_law_draw" = some (.ref fD)) (mi : mg "int" = none) (mr : mg "range" = none) :
    FnOk P w K mg base CX0 (k + 3) f fd ["draw", "bound"] (spNext K) := by
  have GC : FnOk P w K mg base CX0 (k + 2) fC fdC ["script", "k"] (spCellAt K) := ok_cell FC ml
  have GN : FnOk P w K mg base CX0 (k + 2) fN fdN ["cell", "k", "bound"] (spNumber K) := ok_number FN FD bD gD mi mr
  refine F.ok scNext (fun vs H Q E h => ?_) (fun cdv A outer s H vs Q E hr h => ?_)
  · obtain ⟨d, l, n, b, rfl, _⟩ := h
    rfl
  · obtain ⟨d, l, n, b, rfl, hd, hn, hb, q⟩ := h
    obtain ⟨hld, hD, ns, hL, hns⟩ := hd
    refine ⟨_, pss_cons (ps_asg (pe_op op_add (pe_ix ix_list (pv 0) pe_int (fun _ _ => rfl)) pe_int) (pg_sub (pv 0) pe_int set_list))
      (pss_cons (ps_set (i := 2) scNext.nd rfl (.inl rfl) (pe_op op_fdiv (pe_ix ix_list (pv 0) pe_int (fun _ _ => rfl)) pe_int))
      (pss_cons (ps_set (i := 3) scNext.nd rfl (.inl rfl) (pe_op op_add (pe_call GC hr (by rfl) gC FC.kp bC .nil pass0 (pa_cons (pe_ix ix_list (pv 0) pe_int (fun _ _ => rfl)) (pa_cons (pe_op op_add (pe_ix ix_list (pv 0) pe_int (fun _ _ => rfl)) (pv 2)) pa_nil)))
        (pe_op op_mul pe_int (pv 2))))
      (pss_one (ps_ret (pe_call GN hr (by rfl) gN FN.kp bN .nil pass0 (pa_cons (pv 3) (pa_cons (pe_op op_add (pe_op op_mod (pe_callTy call_int1 (by rfl) mi (by decide +kernel) (pa_cons (pe_ix ix_list (pv 0) pe_int (fun _ _ => rfl)) pa_nil)) pe_int) pe_int) (pa_cons (pv 1) pa_nil)))))))), ?_⟩
    -- draw[2] = draw[2] + 1
    refine ⟨_, rfl, d, _, _, _, rfl, rfl, .inl (.inl hD), atI_nat (j := 2) rfl, _, _, rfl, rfl, ?_⟩
    refine ⟨_, rfl, d, _, _, 2, rfl, rfl, hD, rfl, ?_⟩
    have hL1 : (upd H d (.lst [.ref l, .int 0, .int ((n : Int) + 1)])) l = some (.lst (ns.map V.int)) := by
      rw [upd_ne hld]
      exact hL
    have hD1 : SqL K (upd H d (.lst [.ref l, .int 0, .int ((n : Int) + 1)])) d [.ref l, .int 0, .int ((n : Int) + 1)] := .inl (.inl upd_same)
    show tSeq _ _ _ _ (upd H d (.lst [.ref l, .int 0, .int ((n : Int) + 1)]))
    -- at = draw[2] // 12
    refine ⟨_, rfl, d, _, _, _, rfl, rfl, hD1, atI_nat (j := 2) rfl, _, _, rfl, rfl, ⟨by decide, by decide⟩, ?_⟩
    -- cell = ..
    refine ⟨_, rfl, d, _, _, _, rfl, rfl, hD1, atI_nat (j := 0) rfl, _, rfl, d, _, _, _, rfl, rfl, hD1, atI_nat (j := 1) rfl, _, rfl, _, _, rfl, rfl, ?_⟩
    refine ⟨l, ns, ((n + 1) / 12), ?_, .inl (.inl hL1), fun z => ?_⟩
    · have e : (0 : Int) + ((n : Int) + 1) / 12 = (((n + 1) / 12 : Nat) : Int) := by omega
      show [V.ref l, V.int (0 + ((n : Int) + 1) / 12)] ++ [] = _
      rw [e]
      rfl
    refine ⟨_, rfl, _, _, rfl, rfl, .inl ⟨by decide, by decide⟩, _, _, rfl, rfl, ?_⟩
    -- return
    refine ⟨_, rfl, _, rfl, d, _, _, _, rfl, rfl, hD1, atI_nat (j := 2) rfl, .inl ⟨_, rfl, _, _, rfl, rfl, (by show (0 : Int) < 12; decide), _, _, rfl, rfl, _, rfl, ?_⟩⟩
    have h12 : (0 : Int) ≤ ((n : Int) + 1) % 12 ∧ ((n : Int) + 1) % 12 < 12 := ⟨Int.emod_nonneg _ (by decide), Int.emod_lt_of_pos _ (by decide)⟩
    refine ⟨_, _, _, rfl, hb, ⟨by omega, by omega⟩, fun r H2 h0 h1 sm => ?_⟩
    refine q r H2 h0 h1 (fun a o ne e => sm a o ?_) ⟨hld, ?_, ns, sm _ _ hL1, hns⟩
    · rw [upd_ne ne]
      exact e
    · have e1 : (((n + 1 : Nat) : Nat) : Int) = (n : Int) + 1 := by omega
      rw [e1]
      exact sm _ _ upd_same
/-! #### one of some things -/
def spPick (K : PySem.W.Frag) : Sp := fun vs H Q _ => ∃ (d l t : Addr) (n : Nat) (xs : List V), vs = [.ref d, .ref t] ∧ Dr d l n H ∧ n < 1000000 ∧ (SqL K H t xs ∨ SqT K H t xs) ∧ t ≠ d ∧ 0 < xs.length ∧
  ∀ (i : Nat) (x : V) H', xs[i]? = some x → But d H H' → Dr d l (n + 1) H' → Q x H'
theorem But.sql {d t : Addr} {H H' : Hp} {xs : List V} (a : But d H H') (n : t ≠ d) (h : SqL K H t xs) : SqL K H' t xs := by
  rcases h with (h | ⟨o, h⟩) | h
  · exact .inl (.inl (a _ _ n h))
  · exact .inl (.inr ⟨o, a _ _ n h⟩)
  · exact .inr h
theorem But.sqt {d t : Addr} {H H' : Hp} {xs : List V} (a : But d H H') (n : t ≠ d) (h : SqT K H t xs) : SqT K H' t xs := by
  rcases h with (h | ⟨o, h⟩) | h
  · exact .inl (.inl (a _ _ n h))
  · exact .inl (.inr ⟨o, a _ _ n h⟩)
  · exact .inr h
theorem ok_pick {f fT : Addr} {fd fdT : FuncData} {k : Nat} (F : Fun K "_law_pick" "_law_pick" sPick f fd) (FT : Fun K "_law_next" "_law_next" sNext fT fdT) (bT : Binds K fdT ["draw", "bound"] []) (gT : mg "_law_next" = some (.ref fT))
    (GT : FnOk P w K mg base CX0 (k + 3) fT fdT ["draw", "bound"] (spNext K)) (ml : mg "len" = none) :
    FnOk P w K mg base CX0 (k + 4) f fd ["draw", "things"] (spPick K) := by
  refine F.ok scPick (fun vs H Q E h => ?_) (fun cdv A outer s H vs Q E hr h => ?_)
  · obtain ⟨d, l, t, n, xs, rfl, _⟩ := h
    rfl
  · obtain ⟨d, l, t, n, xs, rfl, hd, hn, hx, htd, h0, q⟩ := h
    refine ⟨_, pss_one (ps_ret (pe_ix ix_seq (pv 1) (pe_call GT hr (by rfl) gT FT.kp bT .nil pass0 (pa_cons (pv 0) (pa_cons (pe_callB call_len_seq (by rfl) ml PySem.boot_len (pa_cons (pv 1) pa_nil)) pa_nil))) (fun _ _ => rfl))), ?_⟩
    refine ⟨_, rfl, _, rfl, _, rfl, t, xs, rfl, hx, d, l, n, _, rfl, hd, hn, by omega, fun r H2 r0 r1 bu dr => ?_⟩
    obtain ⟨hr, ha⟩ := at_int r0 r1
    rcases hx with hx | hx
    · exact .inl ⟨t, xs, r, _, rfl, rfl, bu.sql htd hx, ha, q r.toNat _ H2 (List.getElem?_eq_getElem hr) bu dr⟩
    · exact .inr (.inl ⟨t, xs, r, _, rfl, rfl, bu.sqt htd hx, ha, q r.toNat _ H2 (List.getElem?_eq_getElem hr) bu dr⟩)
end
/-! ### names -/
def wordSigns : Str := "abcdefghijklmnopqrstuvwxyz0123456789_"
def smallL : Str := "abcdefghijklmnopqrstuvwxyz"
def isW (c : Nat) : Bool := decide (c ∈ wordSigns.cps.toList)
def wend (l : List Nat) (i : Nat) : Nat := i + ((l.drop i).takeWhile isW).length
theorem wend_end (l : List Nat) : wend l l.length = l.length := by
  unfold wend
  rw [List.drop_length]
  rfl
theorem wend_yes {l : List Nat} {i : Nat} {c : Nat} (h : l[i]? = some c) (hc : isW c = true) : wend l i = wend l (i + 1) := by
  obtain ⟨hi, e⟩ := List.getElem?_eq_some_iff.mp h
  unfold wend
  rw [List.drop_eq_getElem_cons hi, e, List.takeWhile_cons_of_pos hc, List.length_cons]
  omega
theorem wend_no {l : List Nat} {i : Nat} {c : Nat} (h : l[i]? = some c) (hc : isW c = false) : wend l i = i := by
  obtain ⟨hi, e⟩ := List.getElem?_eq_some_iff.mp h
  unfold wend
  rw [List.drop_eq_getElem_cons hi, e, List.takeWhile_cons_of_neg (by rw [hc]; decide)]
  rfl
def ownW : List Str := ["class", "keep", "may", "must", "hide", "else", "any", "not", "start", "end"]
def nameOk (l : List Nat) : Bool := !inV (.str ⟨l.toArray⟩) (ownW.map V.str) && (decide (0 < l.length) && decide (l.length ≤ 30) && (match l with | [] => false | c :: _ => decide (c ∈ smallL.cps.toList)) && decide (wend l 0 = l.length))
def wordOk (l : List Nat) : Bool := decide (0 < l.length) && decide (l.length ≤ 30) && (match l with | [] => false | c :: _ => decide (c ∈ smallL.cps.toList)) && decide (wend l 0 = l.length)
theorem nameOk_word (l : List Nat) : nameOk l = (wordOk l && !inV (.str ⟨l.toArray⟩) (ownW.map V.str)) := by
  unfold nameOk wordOk
  rw [Bool.and_comm]
/-- x is no text -/
def NotStr (K : PySem.W.Frag) (H : Hp) (x : V) : Prop := ∃ t : Value, TyX K H x t ∧ PySem.W.kitOne K t (.type "str") = some false
theorem notStr_int {K : PySem.W.Frag} {H : Hp} {i : Int} : NotStr K H (.int i) := ⟨_, .base (.int i), kit_ty (by decide +kernel)⟩
def spWend : Sp := fun vs H Q _ => ∃ (l : List Nat) (i : Nat), vs = [.str ⟨l.toArray⟩, .int (i : Int)] ∧ i ≤ l.length ∧ l.length ≤ 100000 ∧ Q (.int (wend l i : Nat)) H
def spName (K : PySem.W.Frag) : Sp := fun vs H Q _ => ∃ x : V, vs = [x] ∧ ((∃ l : List Nat, x = .str ⟨l.toArray⟩ ∧ l.length ≤ 100000 ∧ Q (.bl (nameOk l)) H) ∨ (NotStr K H x ∧ Q (.bl false) H))
def spWord (K : PySem.W.Frag) : Sp := fun vs H Q _ => ∃ x : V, vs = [x] ∧ ((∃ l : List Nat, x = .str ⟨l.toArray⟩ ∧ l.length ≤ 100000 ∧ Q (.bl (wordOk l)) H) ∨ (NotStr K H x ∧ Q (.bl false) H))
theorem strLen' (l : List Nat) : (⟨l.toArray⟩ : Str).length = l.length := by simp [Str.length]
theorem dT' {p : Prop} [Decidable p] (h : p) : decide p = true := decide_eq_true h
theorem dF' {p : Prop} [Decidable p] (h : ¬ p) : decide p = false := decide_eq_false h
section
variable {P : Program} {w : World} {K : PySem.W.Frag} {mg : Str → Option Value} {base : Heap}
theorem ok_wend {f : Addr} {fd : FuncData} {k : Nat} {t1 : Tok} (F : Fun K "word_end" "word_end" sWordEnd f fd) (ml : mg "len" = none) (mW : mg "WORD_SIGNS" = some (.str "abcdefghijklmnopqrstuvwxyz0123456789_" t1)) : FnOk P w K mg base CX0 (k + 1) f fd ["text", "at"] spWend := by
  refine F.ok scWordEnd (fun vs H Q E h => ?_) (fun cdv A outer s H vs Q E hr h => ?_)
  · obtain ⟨l, i, rfl, _⟩ := h
    rfl
  · obtain ⟨l, i, rfl, hi, hl, q⟩ := h
    refine ⟨_, pss_cons (ps_while PassesOwn.never (PW.pt (pw_and (pt_cmpR op_lt (pv 1) (pe_callB call_len_str (by rfl) ml PySem.boot_len (pa_cons (pv 0) pa_nil)) (nomark _)) (pw_and1 (pt_cmpR op_in_sign (pe_ix ix_str (pv 0) (pv 1) (fun _ _ => rfl)) (pe_glob (v := .str "abcdefghijklmnopqrstuvwxyz0123456789_") (by rfl) mW ⟨_, rfl⟩) rfl))))
        (pss_one (ps_aug (i := 1) scWordEnd.nd rfl (.inl rfl) pe_int ip_add)))
      (pss_one (ps_ret (pv 1))), ?_⟩
    have hL := strLen' l
    refine ⟨fun m σ H' => H' = H ∧ ∃ j, j ≤ l.length ∧ m = l.length - j ∧ wend l j = wend l i ∧ σ = [some (.str ⟨l.toArray⟩), some (.int (j : Nat))], ⟨l.length - i, rfl, i, hi, rfl, rfl, rfl⟩, fun m σ H' hw => ?_⟩
    obtain ⟨rfl, j, hj, rfl, he, rfl⟩ := hw
    refine ⟨_, rfl, _, rfl, _, rfl, by rw [hL]; exact len63 hl, _, _, rfl, rfl, _, rfl, ?_⟩
    by_cases hlt : j < l.length
    · rw [dT' (show ((j : Nat) : Int) < (((⟨l.toArray⟩ : Str).length : Nat) : Int) by rw [hL]; omega)]
      refine iteT ⟨_, rfl, _, rfl, _, _, _, rfl, rfl, by rw [hL]; exact len63 hl, atI_nat (List.getElem?_eq_getElem hlt), _, _, rfl, rfl, _, rfl, ?_⟩
      cases hc : isW l[j] with
      | true =>
        have e1 : decide (l[j] ∈ (("abcdefghijklmnopqrstuvwxyz0123456789_" : Str)).cps.toList) = true := hc
        rw [show (l.toArray.toList)[j] = l[j] from rfl, e1]
        refine iteT ⟨fun σ' H2 => H2 = H' ∧ σ' = [some (.str ⟨l.toArray⟩), some (.int ((j + 1 : Nat) : Int))], fun σ' H2 hN => ?_, ?_⟩
        · obtain ⟨rfl, rfl⟩ := hN
          exact ⟨l.length - (j + 1), by omega, rfl, j + 1, hlt, rfl, (wend_yes (List.getElem?_eq_getElem hlt) hc).symm.trans he, rfl⟩
        · exact ⟨_, rfl, _, _, rfl, rfl, rfl, rfl⟩
      | false =>
        have e1 : decide (l[j] ∈ (("abcdefghijklmnopqrstuvwxyz0123456789_" : Str)).cps.toList) = false := hc
        rw [show (l.toArray.toList)[j] = l[j] from rfl, e1]
        refine iteF ⟨_, rfl, ?_⟩
        rw [← he, wend_no (List.getElem?_eq_getElem hlt) hc] at q
        exact q
    · rw [dF' (show ¬ ((j : Nat) : Int) < (((⟨l.toArray⟩ : Str).length : Nat) : Int) by rw [hL]; omega)]
      refine iteF ⟨_, rfl, ?_⟩
      have ej : j = l.length := by omega
      subst ej
      rw [← he, wend_end] at q
      exact q
theorem ok_word {f fW : Addr} {fd fdW : FuncData} {k : Nat} {t1 t2 t3 : Tok} (F : Fun K "is_word" "is_word" sIsWord f fd) (FW : Fun K "word_end" "word_end" sWordEnd fW fdW) (bW : Binds K fdW ["text", "at"] []) (gW : mg "word_end" = some (.ref fW))
    (ml : mg "len" = none) (mis : mg "isinstance" = none) (mst : mg "str" = none) (mW : mg "WORD_SIGNS" = some (.str "abcdefghijklmnopqrstuvwxyz0123456789_" t1)) (mS : mg "SMALL_LETTERS" = some (.str "abcdefghijklmnopqrstuvwxyz" t2)) (mL : mg "LONGEST_WORD" = some (.int 30 t3)) : FnOk P w K mg base CX0 (k + 2) f fd ["thing"] (spWord K) := by
  have GW : FnOk P w K mg base CX0 (k + 1) fW fdW ["text", "at"] spWend := ok_wend FW ml mW
  refine F.ok scIsWord (fun vs H Q E h => ?_) (fun cdv A outer s H vs Q E hr h => ?_)
  · obtain ⟨x, rfl, _⟩ := h
    rfl
  · obtain ⟨x, rfl, h⟩ := h
    refine ⟨_, pss_cons (ps_if (PW.pt (pw_or (pt_not (pt_val (pe_callB call_isi (by rfl) mis (by decide +kernel) (pa_cons (pv 0) (pa_cons (pe_bltn (v := .ty "str") (by rfl) mst (by decide +kernel) rfl) pa_nil)))))
          (pw_or1 (pt_not (pt_chain op_lt op_le pe_int (pe_callB call_len_str (by rfl) ml PySem.boot_len (pa_cons (pv 0) pa_nil)) (pe_glob (v := .int 30) (by rfl) mL ⟨_, rfl⟩)))))) (pss_one (ps_ret pe_bl)) pss_nil)
      (pss_one (ps_ret (pe_and (pe_cmpR op_in_sign (pe_ix ix_str (pv 0) pe_int (fun _ _ => rfl)) (pe_glob (v := .str "abcdefghijklmnopqrstuvwxyz") (by rfl) mS ⟨_, rfl⟩) rfl)
        (pe_one (pe_cmpR op_eq (pe_call GW hr (by rfl) gW FW.kp bW .nil pass0 (pa_cons (pv 0) (pa_cons pe_int pa_nil))) (pe_callB call_len_str (by rfl) ml PySem.boot_len (pa_cons (pv 0) pa_nil)) (nomark _)))))), ?_⟩
    rcases h with ⟨l, rfl, hl, q⟩ | ⟨⟨t, ht, hk⟩, q⟩
    · have hL := strLen' l
      refine ⟨_, rfl, _, _, _, _, true, rfl, .ty "str", .base (.str _), kit_ty (by decide +kernel), true, rfl, iteF ?_⟩
      unfold wordOk at q
      refine ⟨_, rfl, _, rfl, by rw [hL]; exact len63 hl, _, _, rfl, rfl, _, rfl, ?_⟩
      cases l with
      | nil =>
        refine ite2 (fun e => absurd (of_decide_eq_true e) (by rw [hL]; decide)) (fun e => ⟨false, rfl, iteT q⟩)
      | cons c l =>
        rw [dT' (show (0 : Int) < (((⟨(c :: l).toArray⟩ : Str).length : Nat) : Int) by rw [hL, List.length_cons]; omega)]
        refine iteT ⟨_, _, rfl, rfl, _, rfl, ?_⟩
        rw [dT' (show 0 < (c :: l).length by rw [List.length_cons]; omega)] at q
        have e30 : decide ((((⟨(c :: l).toArray⟩ : Str).length : Nat) : Int) ≤ 30) = decide ((c :: l).length ≤ 30) := decide_eq_decide.mpr (by rw [hL]; omega)
        rw [e30]
        cases h30 : decide ((c :: l).length ≤ 30) with
        | false =>
          rw [h30] at q
          exact iteT q
        | true =>
          rw [h30] at q
          refine iteF ⟨_, rfl, _, 0, c, rfl, rfl, by rw [hL]; exact len63 hl, atI_nat (j := 0) rfl, _, _, rfl, rfl, _, rfl, ?_⟩
          have es : decide (c ∈ (("abcdefghijklmnopqrstuvwxyz" : Str)).cps.toList) = decide (c ∈ smallL.cps.toList) := rfl
          rw [es]
          cases hc : decide (c ∈ smallL.cps.toList) with
          | false =>
            simp only [hc] at q
            exact iteF q
          | true =>
            simp only [hc] at q
            refine iteT ⟨_, rfl, c :: l, 0, rfl, Nat.zero_le _, hl, _, rfl, _, rfl, by rw [hL]; exact len63 hl, rfl, ?_⟩
            have ew : decide (V.int ((wend (c :: l) 0 : Nat) : Int) = V.int (((⟨(c :: l).toArray⟩ : Str).length : Nat) : Int)) = decide (wend (c :: l) 0 = (c :: l).length) := decide_eq_decide.mpr (by
              rw [hL]
              constructor
              · intro e
                have := V.int.inj e
                omega
              · intro e
                rw [e])
            rw [ew]
            exact q
    · refine ⟨_, rfl, _, _, _, _, false, rfl, .ty "str", ht, hk, false, rfl, iteT (iteT q)⟩
theorem ok_name {f fO : Addr} {fd fdO : FuncData} {k : Nat} {pO : Addr} (F : Fun K "is_name" "is_name" sIsName f fd) (FO : Fun K "is_word" "is_word" sIsWord fO fdO) (bO : Binds K fdO ["thing"] []) (gO : mg "is_word" = some (.ref fO)) (GO : FnOk P w K mg base CX0 (k + 2) fO fdO ["thing"] (spWord K))
    (mO : mg "OWN_WORDS" = some (.ref pO)) (hO : ∀ H, SqT K H pO (ownW.map V.str)) : FnOk P w K mg base CX0 (k + 3) f fd ["thing"] (spName K) := by
  refine F.ok scIsName (fun vs H Q E h => ?_) (fun cdv A outer s H vs Q E hr h => ?_)
  · obtain ⟨x, rfl, _⟩ := h
    rfl
  · obtain ⟨x, rfl, h⟩ := h
    refine ⟨_, pss_one (ps_ret (pe_and (pe_call GO hr (by rfl) gO FO.kp bO .nil pass0 (pa_cons (pv 0) pa_nil)) (pe_one (pe_cmpR op_notIn_seq (pv 0) (pe_glob (v := .ref pO) (by rfl) mO rfl) rfl)))), ?_⟩
    rcases h with ⟨l, rfl, hl, q⟩ | ⟨hn, q⟩
    · refine ⟨_, rfl, _, rfl, .inl ⟨l, rfl, hl, _, rfl, ?_⟩⟩
      rw [nameOk_word] at q
      cases hw : wordOk l with
      | false =>
        rw [hw] at q
        exact iteF q
      | true =>
        rw [hw] at q
        refine iteT ⟨_, rfl, pO, _, rfl, .inr (hO H), rfl, by decide +kernel, ?_⟩
        exact q
    · exact ⟨_, rfl, _, rfl, .inr ⟨hn, _, rfl, iteF q⟩⟩
end
/-! ### k09: what is a pattern -/
/-- a name that can stand in a pattern -/
def NmOk (x : V) : Prop := ∃ l : List Nat, x = .str ⟨l.toArray⟩ ∧ l.length ≤ 100000 ∧ nameOk l = true
/-- a value that is no such name -/
def NmBad (x : V) : Prop := (∃ l : List Nat, x = .str ⟨l.toArray⟩ ∧ l.length ≤ 100000 ∧ nameOk l = false) ∨ ∃ i, x = .int i
def Naming (k : Str) : Prop := k = "class" ∨ k = "not"
def Repd (k : Str) : Prop := k = "star" ∨ k = "plus" ∨ k = "maybe"
def Sev (k : Str) : Prop := k = "row" ∨ k = "either"
def leastOf (k : Str) : Nat := if k = "either" then 2 else 0
/-- no tuple: nothing, a text, a list that is not the one at d -/
def Leaf (d : Addr) (H : Hp) (x : V) : Prop := x = .non ∨ (∃ z, x = .str z) ∨ ∃ e xs, x = .ref e ∧ e ≠ d ∧ H e = some (.lst xs)
/-- x is a pattern at most n deep -/
inductive Pat (H : Hp) : Nat → V → Prop
  | any {n : Nat} {a : Addr} (h : H a = some (.tup [.str "any"])) : Pat H n (.ref a)
  | nm {n : Nat} {a : Addr} {k : Str} {v : V} (h : H a = some (.tup [.str k, v])) (hk : Naming k) (hv : NmOk v) : Pat H n (.ref a)
  | rep {n : Nat} {a : Addr} {k : Str} {v : V} (h : H a = some (.tup [.str k, v])) (hk : Repd k) (hv : Pat H n v) : Pat H (n + 1) (.ref a)
  | nil {n : Nat} {a b : Addr} (h : H a = some (.tup [.str "row", .ref b])) (hb : H b = some (.tup [])) : Pat H n (.ref a)
  | two {n : Nat} {a b : Addr} {k : Str} {v w : V} (h : H a = some (.tup [.str k, .ref b])) (hk : Sev k) (hb : H b = some (.tup [v, w])) (hv : Pat H n v) (hw : Pat H n w) : Pat H (n + 1) (.ref a)
/-- x is no pattern at most n deep -/
inductive NoPat (d : Addr) (H : Hp) : Nat → V → Prop
  | leaf {n : Nat} {x : V} (h : Leaf d H x) : NoPat d H n x
  | none {n : Nat} {a : Addr} (h : H a = some (.tup [])) : NoPat d H n (.ref a)
  | one {n : Nat} {a : Addr} {k : Str} (h : H a = some (.tup [.str k])) (hk : k ≠ "any") : NoPat d H n (.ref a)
  | nm {n : Nat} {a : Addr} {k : Str} {v : V} (h : H a = some (.tup [.str k, v])) (hk : Naming k) (hv : NmBad v) : NoPat d H n (.ref a)
  | kind {n : Nat} {a : Addr} {k : Str} {v : V} (h : H a = some (.tup [.str k, v])) (h1 : ¬ Naming k) (h2 : ¬ Repd k) (h3 : ¬ Sev k) : NoPat d H n (.ref a)
  | rep0 {a : Addr} {k : Str} {v : V} (h : H a = some (.tup [.str k, v])) (hk : Repd k) : NoPat d H 0 (.ref a)
  | rep {n : Nat} {a : Addr} {k : Str} {v : V} (h : H a = some (.tup [.str k, v])) (hk : Repd k) (hv : NoPat d H n v) : NoPat d H (n + 1) (.ref a)
  | sevL {n : Nat} {a : Addr} {k : Str} {v : V} (h : H a = some (.tup [.str k, v])) (hk : Sev k) (hv : Leaf d H v) : NoPat d H n (.ref a)
  | few {n : Nat} {a b : Addr} {xs : List V} (h : H a = some (.tup [.str "either", .ref b])) (hb : H b = some (.tup xs)) (hx : xs.length < 2) : NoPat d H n (.ref a)
  | sev0 {a b : Addr} {k : Str} {v w : V} (h : H a = some (.tup [.str k, .ref b])) (hk : Sev k) (hb : H b = some (.tup [v, w])) : NoPat d H 0 (.ref a)
  | fst {n : Nat} {a b : Addr} {k : Str} {v w : V} (h : H a = some (.tup [.str k, .ref b])) (hk : Sev k) (hb : H b = some (.tup [v, w])) (hv : NoPat d H n v) : NoPat d H (n + 1) (.ref a)
  | snd {n : Nat} {a b : Addr} {k : Str} {v w : V} (h : H a = some (.tup [.str k, .ref b])) (hk : Sev k) (hb : H b = some (.tup [v, w])) (hv : Pat H n v) (hw : NoPat d H n w) : NoPat d H (n + 1) (.ref a)
/-- tuples stay -/
def Tups (H H' : Hp) : Prop := ∀ a xs, H a = some (.tup xs) → H' a = some (.tup xs)
/-- lists but the one at d stay -/
def Lsts (d : Addr) (H H' : Hp) : Prop := ∀ a xs, a ≠ d → H a = some (.lst xs) → H' a = some (.lst xs)
theorem tupsOf {H H' : Hp} (s : Same H H') : Tups H H' := fun _ _ e => s _ _ e
theorem lstsOf {d : Addr} {H H' : Hp} (s : Same H H') : Lsts d H H' := fun _ _ _ e => s _ _ e
theorem butTups {d l : Addr} {n : Nat} {H H' : Hp} (s : But d H H') (h : Dr d l n H) : Tups H H' := fun a xs e => by
  obtain ⟨h1, h2, ns, h3, h4⟩ := h
  exact s _ _ (ne_of e h2 (fun z => nomatch z)) e
theorem butLsts {d : Addr} {H H' : Hp} (s : But d H H') : Lsts d H H' := fun _ _ n e => s _ _ n e
theorem Pat.mono {H H' : Hp} (s : Tups H H') {n : Nat} {x : V} (h : Pat H n x) : Pat H' n x := by
  induction h with
  | any h => exact .any (s _ _ h)
  | nm h hk hv => exact .nm (s _ _ h) hk hv
  | rep h hk _ ih => exact .rep (s _ _ h) hk ih
  | nil h hb => exact .nil (s _ _ h) (s _ _ hb)
  | two h hk hb _ _ i1 i2 => exact .two (s _ _ h) hk (s _ _ hb) i1 i2
theorem Pat.up {H : Hp} {n : Nat} {x : V} (h : Pat H n x) : ∀ m, n ≤ m → Pat H m x := by
  induction h with
  | any h => exact fun _ _ => .any h
  | nm h hk hv => exact fun _ _ => .nm h hk hv
  | rep h hk _ ih => exact fun m hm => match m, hm with | m + 1, hm => .rep h hk (ih m (by omega))
  | nil h hb => exact fun _ _ => .nil h hb
  | two h hk hb _ _ i1 i2 => exact fun m hm => match m, hm with | m + 1, hm => .two h hk hb (i1 m (by omega)) (i2 m (by omega))
theorem Leaf.mono {d : Addr} {H H' : Hp} (s : Lsts d H H') {x : V} (h : Leaf d H x) : Leaf d H' x := by
  rcases h with h | h | ⟨e, xs, h1, h2, h3⟩
  · exact .inl h
  · exact .inr (.inl h)
  · exact .inr (.inr ⟨e, xs, h1, h2, s _ _ h2 h3⟩)
theorem NoPat.mono {d : Addr} {H H' : Hp} (s : Tups H H') (l : Lsts d H H') {n : Nat} {x : V} (h : NoPat d H n x) : NoPat d H' n x := by
  induction h with
  | leaf h => exact .leaf (h.mono l)
  | none h => exact .none (s _ _ h)
  | one h hk => exact .one (s _ _ h) hk
  | nm h hk hv => exact .nm (s _ _ h) hk hv
  | kind h h1 h2 h3 => exact .kind (s _ _ h) h1 h2 h3
  | rep0 h hk => exact .rep0 (s _ _ h) hk
  | rep h hk _ ih => exact .rep (s _ _ h) hk ih
  | sevL h hk hv => exact .sevL (s _ _ h) hk (hv.mono l)
  | few h hb hx => exact .few (s _ _ h) (s _ _ hb) hx
  | sev0 h hk hb => exact .sev0 (s _ _ h) hk (s _ _ hb)
  | fst h hk hb _ ih => exact .fst (s _ _ h) hk (s _ _ hb) ih
  | snd h hk hb hv _ ih => exact .snd (s _ _ h) hk (s _ _ hb) (hv.mono s) ih
/-- depth is just m -/
def Deep (d : Addr) (H : Hp) (m : Nat) (x : V) : Prop := ∀ n, (m ≤ n → Pat H n x) ∧ (n < m → NoPat d H n x)
theorem Deep.mono {d : Addr} {H H' : Hp} (s : Tups H H') (l : Lsts d H H') {m : Nat} {x : V} (h : Deep d H m x) : Deep d H' m x := fun n => ⟨fun e => ((h n).1 e).mono s, fun e => ((h n).2 e).mono s l⟩
theorem Deep.rep {d : Addr} {H : Hp} {m : Nat} {x : V} {a : Addr} {k : Str} (h : Deep d H m x) (ha : H a = some (.tup [.str k, x])) (hk : Repd k) : Deep d H (m + 1) (.ref a) := fun n =>
  ⟨fun e => match n, e with | n + 1, e => .rep ha hk ((h n).1 (by omega)), fun e => match n, e with | 0, _ => .rep0 ha hk | n + 1, e => .rep ha hk ((h n).2 (by omega))⟩
theorem Deep.fst {d : Addr} {H : Hp} {m : Nat} {x v : V} {a b : Addr} {k : Str} (h : Deep d H m x) (ha : H a = some (.tup [.str k, .ref b])) (hk : Sev k) (hb : H b = some (.tup [x, v])) (hv : ∀ n, Pat H n v) : Deep d H (m + 1) (.ref a) := fun n =>
  ⟨fun e => match n, e with | n + 1, e => .two ha hk hb ((h n).1 (by omega)) (hv n), fun e => match n, e with | 0, _ => .sev0 ha hk hb | n + 1, e => .fst ha hk hb ((h n).2 (by omega))⟩
theorem Deep.snd {d : Addr} {H : Hp} {m : Nat} {x v : V} {a b : Addr} {k : Str} (h : Deep d H m x) (ha : H a = some (.tup [.str k, .ref b])) (hk : Sev k) (hb : H b = some (.tup [v, x])) (hv : ∀ n, Pat H n v) : Deep d H (m + 1) (.ref a) := fun n =>
  ⟨fun e => match n, e with | n + 1, e => .two ha hk hb (hv n) ((h n).1 (by omega)), fun e => match n, e with | 0, _ => .sev0 ha hk hb | n + 1, e => .snd ha hk hb (hv n) ((h n).2 (by omega))⟩
/-! #### the parts of a row, of an either -/
/-- v is a tuple of patterns, m of them at least -/
def Parts (H : Hp) (m n : Nat) (v : V) : Prop := ∃ b, v = .ref b ∧ ((H b = some (.tup []) ∧ m = 0) ∨ ∃ v1 v2 n', n = n' + 1 ∧ H b = some (.tup [v1, v2]) ∧ m ≤ 2 ∧ Pat H n' v1 ∧ Pat H n' v2)
def NoParts (d : Addr) (H : Hp) (m n : Nat) (v : V) : Prop := Leaf d H v ∨ ∃ b xs, v = .ref b ∧ H b = some (.tup xs) ∧
  (xs.length < m ∨ ∃ v1 v2, xs = [v1, v2] ∧ (n = 0 ∨ ∃ n', n = n' + 1 ∧ (NoPat d H n' v1 ∨ (Pat H n' v1 ∧ NoPat d H n' v2))))
def spPat (N : Nat) : Sp := fun vs H Q _ => ∃ (d : Addr) (x : V) (n : Nat), vs = [x, .int (n : Int)] ∧ n ≤ N ∧ ((Pat H n x ∧ ∀ H', Same H H' → Q (.bl true) H') ∨ (NoPat d H n x ∧ ∀ H', Same H H' → Q (.bl false) H'))
def spParts (N : Nat) : Sp := fun vs H Q _ => ∃ (d : Addr) (x : V) (m n : Nat), vs = [x, .int (m : Int), .int (n : Int)] ∧ n ≤ N ∧ ((Parts H m n x ∧ ∀ H', Same H H' → Q (.bl true) H') ∨ (NoParts d H m n x ∧ ∀ H', Same H H' → Q (.bl false) H'))
/-- a promise for calls that do not come -/
def spNever : Sp := fun _ _ _ _ => False
theorem tyx_leaf {K : PySem.W.Frag} {d : Addr} {H : Hp} {x : V} (h : Leaf d H x) : ∃ t, TyX K H x t ∧ PySem.W.kitOne K t (.type "tuple") = some false := by
  rcases h with rfl | ⟨z, rfl⟩ | ⟨e, xs, rfl, _, h⟩
  · exact ⟨_, .base .non, kit_ty (by decide +kernel)⟩
  · exact ⟨_, .base (.str z), kit_ty (by decide +kernel)⟩
  · exact ⟨_, .base (.lst h), kit_ty (by decide +kernel)⟩
/-- the program's tuples of words -/
structure Words (K : PySem.W.Frag) (mg : Str → Option Value) (pN pR pS : Addr) : Prop where
  gN : mg "NAMING" = some (.ref pN)
  hN : ∀ H, SqT K H pN [.str "class", .str "not"]
  gR : mg "REPEATED" = some (.ref pR)
  hR : ∀ H, SqT K H pR [.str "star", .str "plus", .str "maybe"]
  gS : mg "SEVERAL" = some (.ref pS)
  hS : ∀ H, SqT K H pS [.str "row", .str "either"]
  len : mg "len" = none
  isi : mg "isinstance" = none
  tup : mg "tuple" = none
section
variable {P : Program} {w : World} {K : PySem.W.Frag} {mg : Str → Option Value} {base : Heap}
theorem ok_never {x : Str} {st : Stmt} {f : Addr} {fd : FuncData} {N ps : List Str} {k : Nat} (F : Fun K x x st f fd) (S : FnScope N ps (defScope st)) : FnOk P w K mg base CX0 (k + 1) f fd ps spNever :=
  F.ok S (fun _ _ _ _ h => h.elim) (fun _ _ _ _ _ _ _ _ _ h => h.elim)
theorem inV1 {z a b : Str} : inV (.str z) [.str a, .str b] = (a == z || (b == z || false)) := rfl
theorem inV2 {z a b c : Str} : inV (.str z) [.str a, .str b, .str c] = (a == z || (b == z || (c == z || false))) := rfl
theorem inN {z : Str} : inV (.str z) [.str "class", .str "not"] = true ↔ Naming z := by
  rw [inV1, Bool.or_false, Bool.or_eq_true, beq_iff_eq, beq_iff_eq]
  exact ⟨fun h => h.imp Eq.symm Eq.symm, fun h => h.imp Eq.symm Eq.symm⟩
theorem inR {z : Str} : inV (.str z) [.str "star", .str "plus", .str "maybe"] = true ↔ Repd z := by
  rw [inV2, Bool.or_false, Bool.or_eq_true, Bool.or_eq_true, beq_iff_eq, beq_iff_eq, beq_iff_eq]
  exact ⟨fun h => h.imp Eq.symm fun h => h.imp Eq.symm Eq.symm, fun h => h.imp Eq.symm fun h => h.imp Eq.symm Eq.symm⟩
theorem inS {z : Str} : inV (.str z) [.str "row", .str "either"] = true ↔ Sev z := by
  rw [inV1, Bool.or_false, Bool.or_eq_true, beq_iff_eq, beq_iff_eq]
  exact ⟨fun h => h.imp Eq.symm Eq.symm, fun h => h.imp Eq.symm Eq.symm⟩
theorem bT {b : Bool} {p : Prop} (h : b = true ↔ p) (hp : p) : b = true := h.mpr hp
theorem bF {b : Bool} {p : Prop} (h : b = true ↔ p) (hp : ¬ p) : b = false := Bool.eq_false_iff.mpr fun z => hp (h.mp z)
theorem naming_repd {k : Str} (h : Repd k) : ¬ Naming k := by
  rcases h with rfl | rfl | rfl <;> (intro h; rcases h with h | h <;> exact absurd h (by decide +kernel))
theorem naming_sev {k : Str} (h : Sev k) : ¬ Naming k := by
  rcases h with rfl | rfl <;> (intro h; rcases h with h | h <;> exact absurd h (by decide +kernel))
theorem repd_sev {k : Str} (h : Sev k) : ¬ Repd k := by
  rcases h with rfl | rfl <;> (intro h; rcases h with h | h | h <;> exact absurd h (by decide +kernel))
theorem ok_parts {N : Nat} {f fP : Addr} {fd fdP : FuncData} {k : Nat} {pN pR pS : Addr} {spP : Sp} (F : Fun K "_are_parts" "_are_parts" sUAreParts f fd) (T : Words K mg pN pR pS)
    (FP : Fun K "_is_pattern" "_is_pattern" sUIsPattern fP fdP) (bP : Binds K fdP ["thing", "depth"] []) (gP : mg "_is_pattern" = some (.ref fP)) (GP : FnOk P w K mg base CX0 k fP fdP ["thing", "depth"] spP)
    (hP : ∀ n, n + 1 ≤ N → ∀ vs H Q E, spPat n vs H Q E → spP vs H Q E) : FnOk P w K mg base CX0 (k + 1) f fd ["thing", "least", "depth"] (spParts N) := by
  refine F.ok scUAreParts (fun vs H Q E h => ?_) (fun cdv A outer s H vs Q E hr h => ?_)
  · obtain ⟨d, x, m, n, rfl, _⟩ := h
    rfl
  · obtain ⟨d, x, m, n, rfl, hn, h⟩ := h
    refine ⟨_, pss_cons (ps_if (PW.pt (pw_or (pt_not (pt_val (pe_callB call_isi (by rfl) T.isi (by decide +kernel) (pa_cons (pv 0) (pa_cons (pe_bltn (v := .ty "tuple") (by rfl) T.tup (by decide +kernel) rfl) pa_nil)))))
          (pw_or1 (pt_cmpR op_lt (pe_callB call_len_seq (by rfl) T.len PySem.boot_len (pa_cons (pv 0) pa_nil)) (pv 1) (nomark _))))) (pss_one (ps_ret pe_bl)) pss_nil)
      (pss_cons (ps_if (PW.pt (pw_and (pt_truth (pv 0) (by intro _; rfl)) (pw_and1 (pt_cmpR op_eq (pv 2) pe_int (nomark _))))) (pss_one (ps_ret pe_bl)) pss_nil)
      (pss_cons (ps_for PassesOwn.never rfl (pi_tup (pv 0)) (pg_name (i := 3) scUAreParts.nd rfl (.inl rfl)) (pss_one (ps_if (pt_not (pt_val (pe_call GP hr (by rfl) gP FP.kp bP .nil pass0 (pa_cons (pv 3) (pa_cons (pe_op op_sub (pv 2) pe_int) pa_nil))))) (pss_one (ps_ret pe_bl)) pss_nil)))
      (pss_one (ps_ret pe_bl)))), ?_⟩
    -- what is known of a tuple
    have info : (Leaf d H x ∧ ∀ H', Same H H' → Q (.bl false) H') ∨ ∃ b xs, x = .ref b ∧ H b = some (.tup xs) ∧ (xs.length < m → ∀ H', Same H H' → Q (.bl false) H') ∧ (xs = [] → m = 0 → ∀ H', Same H H' → Q (.bl true) H') ∧
        (n = 0 → xs ≠ [] → m ≤ xs.length → ∀ H', Same H H' → Q (.bl false) H') ∧ (∀ n', n = n' + 1 → m ≤ xs.length → ∃ G : Nat → Prop, G 0 ∧ (∀ i y, xs[i]? = some y → G i → (Pat H n' y ∧ G (i + 1)) ∨ (NoPat d H n' y ∧ ∀ H', Same H H' → Q (.bl false) H')) ∧ (G xs.length → ∀ H', Same H H' → Q (.bl true) H')) := by
      rcases h with ⟨⟨b, rfl, ⟨hb, rfl⟩ | ⟨v1, v2, n', rfl, hb, hm, p1, p2⟩⟩, q⟩ | ⟨hL | ⟨b, xs, rfl, hb, hx | ⟨v1, v2, rfl, rfl | ⟨n', rfl, p1 | ⟨p1, p2⟩⟩⟩⟩, q⟩
      · exact .inr ⟨b, [], rfl, hb, fun z => absurd z (Nat.not_lt_zero _), fun _ _ => q, fun _ z => absurd rfl z, fun n' _ _ => ⟨fun _ => True, trivial, fun i y hy => by simp at hy, fun _ => q⟩⟩
      · refine .inr ⟨b, _, rfl, hb, fun z => absurd z (by show ¬ 2 < m; omega), (fun z => by cases z), (fun z => by cases z), fun n2 e _ => ⟨fun _ => True, trivial, fun i y hy _ => ?_, fun _ => q⟩⟩
        have en : n' = n2 := by omega
        subst en
        match i, hy with
        | 0, hy => cases hy; exact .inl ⟨p1, trivial⟩
        | 1, hy => cases hy; exact .inl ⟨p2, trivial⟩
        | i + 2, hy => exact absurd hy (by simp)
      · exact .inl ⟨hL, q⟩
      · exact .inr ⟨b, xs, rfl, hb, fun _ => q, fun e1 e2 => by subst e1; subst e2; exact absurd hx (Nat.not_lt_zero _), fun _ _ z => absurd hx (by omega), fun _ _ z => absurd hx (by omega)⟩
      · exact .inr ⟨b, _, rfl, hb, fun _ => q, (fun z => by cases z), fun _ _ _ => q, (fun n' e => by cases e)⟩
      · refine .inr ⟨b, _, rfl, hb, fun _ => q, (fun z => by cases z), (fun z => by cases z), fun n2 e _ => ⟨fun i => i = 0, rfl, fun i y hy e0 => ?_, fun z => absurd z (by show ¬ 2 = 0; decide)⟩⟩
        have en : n' = n2 := by omega
        subst en
        subst e0
        cases hy
        exact .inr ⟨p1, q⟩
      · refine .inr ⟨b, _, rfl, hb, fun _ => q, (fun z => by cases z), (fun z => by cases z), fun n2 e _ => ⟨fun i => i ≤ 1, Nat.zero_le _, fun i y hy e0 => ?_, fun z => absurd z (by show ¬ 2 ≤ 1; decide)⟩⟩
        have en : n' = n2 := by omega
        subst en
        match i, hy with
        | 0, hy => cases hy; exact .inl ⟨p1, Nat.le_refl _⟩
        | 1, hy => cases hy; exact .inr ⟨p2, q⟩
        | i + 2, hy => exact absurd hy (by simp)
    rcases info with ⟨hL, q⟩ | ⟨b, xs, rfl, hb, q1, q2, q3, q4⟩
    · obtain ⟨t, ht, hk⟩ := tyx_leaf hL
      exact ⟨_, rfl, _, _, _, _, false, rfl, .ty "tuple", ht, hk, false, rfl, iteT (iteT (q H (Same.refl _)))⟩
    · refine ⟨_, rfl, _, _, _, _, true, rfl, .ty "tuple", .base (.tup hb), kit_ty (by decide +kernel), true, rfl, iteF ?_⟩
      refine ⟨_, rfl, b, _, rfl, .inr (.inl (.inl hb)), _, rfl, _, _, rfl, rfl, _, rfl, ?_⟩
      by_cases hlt : xs.length < m
      · rw [dT' (show ((xs.length : Nat) : Int) < ((m : Nat) : Int) by omega)]
        exact iteT (q1 hlt H (Same.refl _))
      · rw [dF' (show ¬ ((xs.length : Nat) : Int) < ((m : Nat) : Int) by omega)]
        refine iteF ⟨_, rfl, !xs.isEmpty, .inr (.inl ⟨xs, .inl (.inl hb), rfl⟩), ?_⟩
        cases xs with
        | nil =>
          refine iteF (iteF ⟨_, rfl, b, rfl, ⟨_, .inl (.inl hb)⟩, ?_⟩)
          have hm0 : m = 0 := by
            have : ¬ 0 < m := hlt
            omega
          exact for_tup (xs := []) (fun i σ H' => H' = H) rfl (fun i σ H' _ hp => by subst hp; exact .inl (.inl hb)) (fun i y σ H' hi hp => by simp at hi) (fun σ H' hp => by subst hp; exact q2 rfl hm0 H' (Same.refl _))
        | cons v vs =>
          refine iteT ⟨_, rfl, rfl, _, rfl, ?_⟩
          cases n with
          | zero =>
            rw [dT' (show V.int ((0 : Nat) : Int) = V.int 0 from rfl)]
            exact iteT (q3 rfl (fun z => by cases z) (by omega) H (Same.refl _))
          | succ n =>
            rw [dF' (show ¬ V.int ((n + 1 : Nat) : Int) = V.int 0 from fun e => absurd (V.int.inj e) (by omega))]
            refine iteF ?_
            obtain ⟨G, g0, gs, ge⟩ := q4 n rfl (by omega)
            refine ⟨_, rfl, b, rfl, ⟨_, .inl (.inl hb)⟩, ?_⟩
            have en : ((n + 1 : Nat) : Int) - 1 = (n : Int) := by omega
            refine for_tup (xs := v :: vs) (fun i σ H' => Same H H' ∧ (∃ y, σ = [some (.ref b), some (.int (m : Int)), some (.int ((n + 1 : Nat) : Int)), y]) ∧ G i) ⟨Same.refl _, ⟨none, rfl⟩, g0⟩ (fun i σ H' _ hp => .inl (.inl (hp.1 _ _ hb))) (fun i y σ H' hi hp => ?_) (fun σ H' hp => ge hp.2.2 H' hp.1)
            obtain ⟨sm, ⟨z, rfl⟩, gi⟩ := hp
            refine ⟨_, rfl, _, rfl, _, _, rfl, rfl, ?_⟩
            refine hP n hn _ _ _ _ ⟨d, y, n, ?_, Nat.le_refl _, ?_⟩
            · show [y, V.int (((n + 1 : Nat) : Int) - 1)] ++ [] = _
              rw [en]
              rfl
            · rcases gs i y hi gi with ⟨h1, g2⟩ | ⟨h1, q⟩
              · exact .inl ⟨h1.mono (tupsOf sm), fun H2 s2 => ⟨true, rfl, iteF ⟨sm.trans s2, ⟨_, rfl⟩, g2⟩⟩⟩
              · exact .inr ⟨h1.mono (tupsOf sm) (lstsOf sm), fun H2 s2 => ⟨false, rfl, iteT (q _ (sm.trans s2))⟩⟩
end
section
variable {P : Program} {w : World} {K : PySem.W.Frag} {mg : Str → Option Value} {base : Heap}
theorem ok_pat1 {N : Nat} {f fP fA fI : Addr} {fd fdP fdA fdI : FuncData} {k : Nat} {pN pR pS : Addr} {spP : Sp} (F : Fun K "_is_pattern" "_is_pattern" sUIsPattern f fd) (T : Words K mg pN pR pS)
    (FP : Fun K "_is_pattern" "_is_pattern" sUIsPattern fP fdP) (bP : Binds K fdP ["thing", "depth"] []) (gP : mg "_is_pattern" = some (.ref fP)) (GP : FnOk P w K mg base CX0 k fP fdP ["thing", "depth"] spP)
    (hP : ∀ n, n + 1 ≤ N → ∀ vs H Q E, spPat n vs H Q E → spP vs H Q E)
    (FA : Fun K "_are_parts" "_are_parts" sUAreParts fA fdA) (bA : Binds K fdA ["thing", "least", "depth"] []) (gA : mg "_are_parts" = some (.ref fA)) (GA : FnOk P w K mg base CX0 k fA fdA ["thing", "least", "depth"] (spParts N))
    (FI : Fun K "is_name" "is_name" sIsName fI fdI) (bI : Binds K fdI ["thing"] []) (gI : mg "is_name" = some (.ref fI)) (GI : FnOk P w K mg base CX0 k fI fdI ["thing"] (spName K)) :
    FnOk P w K mg base CX0 (k + 1) f fd ["thing", "depth"] (spPat N) := by
  refine F.ok scUIsPattern (fun vs H Q E h => ?_) (fun cdv A outer s H vs Q E hr h => ?_)
  · obtain ⟨d, x, n, rfl, _⟩ := h
    rfl
  · obtain ⟨d, x, n, rfl, hn, h⟩ := h
    have info : (Leaf d H x ∧ ∀ H', Same H H' → Q (.bl false) H') ∨ ∃ a xs, x = .ref a ∧ H a = some (.tup xs) ∧ ((xs = [] ∧ ∀ H', Same H H' → Q (.bl false) H') ∨
        (∃ k : Str, xs = [.str k] ∧ (k = "any" → ∀ H', Same H H' → Q (.bl true) H') ∧ (k ≠ "any" → ∀ H', Same H H' → Q (.bl false) H')) ∨
        ∃ (k : Str) (v : V), xs = [.str k, v] ∧ (Naming k → (NmOk v ∧ ∀ H', Same H H' → Q (.bl true) H') ∨ (NmBad v ∧ ∀ H', Same H H' → Q (.bl false) H')) ∧
          (Repd k → (n = 0 ∧ ∀ H', Same H H' → Q (.bl false) H') ∨ ∃ n', n = n' + 1 ∧ ((Pat H n' v ∧ ∀ H', Same H H' → Q (.bl true) H') ∨ (NoPat d H n' v ∧ ∀ H', Same H H' → Q (.bl false) H'))) ∧
          (Sev k → (Parts H (leastOf k) n v ∧ ∀ H', Same H H' → Q (.bl true) H') ∨ (NoParts d H (leastOf k) n v ∧ ∀ H', Same H H' → Q (.bl false) H')) ∧ (¬ Naming k → ¬ Repd k → ¬ Sev k → ∀ H', Same H H' → Q (.bl false) H')) := by
      have least2 : ∀ {k : Str}, leastOf k ≤ 2 := by
        intro k
        unfold leastOf
        split <;> decide
      rcases h with ⟨h, q⟩ | ⟨h, q⟩
      · cases h with
        | any h => exact .inr ⟨_, _, rfl, h, .inr (.inl ⟨_, rfl, fun _ => q, fun z => absurd rfl z⟩)⟩
        | nm h hk hv => exact .inr ⟨_, _, rfl, h, .inr (.inr ⟨_, _, rfl, fun _ => .inl ⟨hv, q⟩, fun z => absurd hk (naming_repd z), fun z => absurd hk (naming_sev z), fun z => absurd hk z⟩)⟩
        | rep h hk hv => exact .inr ⟨_, _, rfl, h, .inr (.inr ⟨_, _, rfl, fun z => absurd z (naming_repd hk), fun _ => .inr ⟨_, rfl, .inl ⟨hv, q⟩⟩, fun z => absurd hk (repd_sev z), fun _ z => absurd hk z⟩)⟩
        | nil h hb => exact .inr ⟨_, _, rfl, h, .inr (.inr ⟨_, _, rfl, fun z => absurd z (naming_sev (.inl rfl)), fun z => absurd z (repd_sev (.inl rfl)), fun _ => .inl ⟨⟨_, rfl, .inl ⟨hb, by decide +kernel⟩⟩, q⟩, fun _ _ z => absurd (.inl rfl) z⟩)⟩
        | two h hk hb hv hw => exact .inr ⟨_, _, rfl, h, .inr (.inr ⟨_, _, rfl, fun z => absurd z (naming_sev hk), fun z => absurd z (repd_sev hk), fun _ => .inl ⟨⟨_, rfl, .inr ⟨_, _, _, rfl, hb, least2, hv, hw⟩⟩, q⟩, fun _ _ z => absurd hk z⟩)⟩
      · cases h with
        | leaf h => exact .inl ⟨h, q⟩
        | none h => exact .inr ⟨_, _, rfl, h, .inl ⟨rfl, q⟩⟩
        | one h hk => exact .inr ⟨_, _, rfl, h, .inr (.inl ⟨_, rfl, fun z => absurd z hk, fun _ => q⟩)⟩
        | nm h hk hv => exact .inr ⟨_, _, rfl, h, .inr (.inr ⟨_, _, rfl, fun _ => .inr ⟨hv, q⟩, fun z => absurd hk (naming_repd z), fun z => absurd hk (naming_sev z), fun z => absurd hk z⟩)⟩
        | kind h h1 h2 h3 => exact .inr ⟨_, _, rfl, h, .inr (.inr ⟨_, _, rfl, fun z => absurd z h1, fun z => absurd z h2, fun z => absurd z h3, fun _ _ _ => q⟩)⟩
        | rep0 h hk => exact .inr ⟨_, _, rfl, h, .inr (.inr ⟨_, _, rfl, fun z => absurd z (naming_repd hk), fun _ => .inl ⟨rfl, q⟩, fun z => absurd hk (repd_sev z), fun _ z => absurd hk z⟩)⟩
        | rep h hk hv => exact .inr ⟨_, _, rfl, h, .inr (.inr ⟨_, _, rfl, fun z => absurd z (naming_repd hk), fun _ => .inr ⟨_, rfl, .inr ⟨hv, q⟩⟩, fun z => absurd hk (repd_sev z), fun _ z => absurd hk z⟩)⟩
        | sevL h hk hv => exact .inr ⟨_, _, rfl, h, .inr (.inr ⟨_, _, rfl, fun z => absurd z (naming_sev hk), fun z => absurd z (repd_sev hk), fun _ => .inr ⟨.inl hv, q⟩, fun _ _ z => absurd hk z⟩)⟩
        | few h hb hx => exact .inr ⟨_, _, rfl, h, .inr (.inr ⟨_, _, rfl, fun z => absurd z (naming_sev (.inr rfl)), fun z => absurd z (repd_sev (.inr rfl)), fun _ => .inr ⟨.inr ⟨_, _, rfl, hb, .inl hx⟩, q⟩, fun _ _ z => absurd (.inr rfl) z⟩)⟩
        | sev0 h hk hb => exact .inr ⟨_, _, rfl, h, .inr (.inr ⟨_, _, rfl, fun z => absurd z (naming_sev hk), fun z => absurd z (repd_sev hk), fun _ => .inr ⟨.inr ⟨_, _, rfl, hb, .inr ⟨_, _, rfl, .inl rfl⟩⟩, q⟩, fun _ _ z => absurd hk z⟩)⟩
        | fst h hk hb hv => exact .inr ⟨_, _, rfl, h, .inr (.inr ⟨_, _, rfl, fun z => absurd z (naming_sev hk), fun z => absurd z (repd_sev hk), fun _ => .inr ⟨.inr ⟨_, _, rfl, hb, .inr ⟨_, _, rfl, .inr ⟨_, rfl, .inl hv⟩⟩⟩, q⟩, fun _ _ z => absurd hk z⟩)⟩
        | snd h hk hb hv hw => exact .inr ⟨_, _, rfl, h, .inr (.inr ⟨_, _, rfl, fun z => absurd z (naming_sev hk), fun z => absurd z (repd_sev hk), fun _ => .inr ⟨.inr ⟨_, _, rfl, hb, .inr ⟨_, _, rfl, .inr ⟨_, rfl, .inr ⟨hv, hw⟩⟩⟩⟩, q⟩, fun _ _ z => absurd hk z⟩)⟩
    clear h
    refine ⟨_, pss_cons (ps_if (PW.pt (pw_or (pt_not (pt_val (pe_callB call_isi (by rfl) T.isi (by decide +kernel) (pa_cons (pv 0) (pa_cons (pe_bltn (v := .ty "tuple") (by rfl) T.tup (by decide +kernel) rfl) pa_nil)))))
          (pw_or1 (pt_cmpR op_notIn_seq (pe_callB call_len_seq (by rfl) T.len PySem.boot_len (pa_cons (pv 0) pa_nil)) (pe_tup (pa_cons pe_int (pa_cons pe_int pa_nil))) rfl)))) (pss_one (ps_ret pe_bl)) pss_nil)
      (pss_cons (ps_if (pt_cmpR op_eq (pe_callB call_len_seq (by rfl) T.len PySem.boot_len (pa_cons (pv 0) pa_nil)) pe_int (nomark _)) (pss_one (ps_ret (pe_cmpR op_eq (pe_ix ix_tup (pv 0) pe_int (fun _ _ => rfl)) pe_str (nomark _)))) pss_nil)
      (pss_cons (ps_asg (pv 0) (pg_tup rfl (pgs_cons (pg_name (i := 2) scUIsPattern.nd rfl (.inl rfl)) (pgs_cons (pg_name (i := 3) scUIsPattern.nd rfl (.inl rfl)) pgs_nil))))
      (pss_cons (ps_if (pt_cmpR op_in_seq (pv 2) (pe_glob (v := .ref pN) (by rfl) T.gN rfl) rfl) (pss_one (ps_ret (pe_call GI hr (by rfl) gI FI.kp bI .nil pass0 (pa_cons (pv 3) pa_nil)))) pss_nil)
      (pss_cons (ps_if (pt_cmpR op_in_seq (pv 2) (pe_glob (v := .ref pR) (by rfl) T.gR rfl) rfl) (pss_one (ps_ret (pe_and (pe_cmpR op_gt (pv 1) pe_int (nomark _)) (pe_one (pe_call GP hr (by rfl) gP FP.kp bP .nil pass0 (pa_cons (pv 3) (pa_cons (pe_op op_sub (pv 1) pe_int) pa_nil))))))) pss_nil)
      (pss_one (ps_ret (pe_and (pe_cmpR op_in_seq (pv 2) (pe_glob (v := .ref pS) (by rfl) T.gS rfl) rfl) (pe_one (pe_call GA hr (by rfl) gA FA.kp bA .nil pass0 (pa_cons (pv 3) (pa_cons (pe_ifExp (pt_cmpR op_eq (pv 2) pe_str (nomark _)) pe_int pe_int) (pa_cons (pv 1) pa_nil)))))))))))), ?_⟩
    rcases info with ⟨hL, q⟩ | ⟨a, xs, rfl, ha, info⟩
    · obtain ⟨t, ht, hk⟩ := tyx_leaf hL
      exact ⟨_, rfl, _, _, _, _, false, rfl, .ty "tuple", ht, hk, false, rfl, iteT (iteT (q H (Same.refl _)))⟩
    refine ⟨_, rfl, _, _, _, _, true, rfl, .ty "tuple", .base (.tup ha), kit_ty (by decide +kernel), true, rfl, iteF ?_⟩
    refine ⟨_, rfl, a, xs, rfl, .inr (.inl (.inl ha)), len63 (by show (2 : Nat) ≤ 100000; decide), fun p np => ⟨p, [.int 1, .int 2], rfl, .inr (.inl (.inl upd_same)), rfl, rfl, _, rfl, ?_⟩⟩
    have s1 : Same H (upd H p (.tup [.int 1, .int 2])) := same_upd np
    generalize upd H p (.tup [.int 1, .int 2]) = H1 at s1 ⊢
    have ha1 := s1 _ _ ha
    rcases info with ⟨rfl, q⟩ | ⟨z, rfl, qt, qf⟩ | ⟨z, v, rfl, hNm, hRp, hSv, hEl⟩
    · exact iteT (q H1 s1)
    · refine iteF ⟨_, rfl, a, _, rfl, .inr (.inl (.inl ha1)), rfl, _, rfl, iteT ?_⟩
      refine ⟨_, rfl, a, _, 0, _, rfl, rfl, .inl (.inl ha1), atI_nat (j := 0) rfl, rfl, ?_⟩
      by_cases hz : z = "any"
      · rw [dT' (show V.str z = V.str "any" from congrArg V.str hz)]
        exact qt hz H1 s1
      · rw [dF' (show ¬ V.str z = V.str "any" from fun e => hz (V.str.inj e))]
        exact qf hz H1 s1
    · refine iteF ⟨_, rfl, a, _, rfl, .inr (.inl (.inl ha1)), rfl, _, rfl, iteF ?_⟩
      refine ⟨_, rfl, a, _, rfl, .inl (.inl ha1), rfl, _, _, rfl, _, _, rfl, rfl, ?_⟩
      -- kind in NAMING
      refine ⟨_, rfl, pN, _, rfl, .inr (T.hN H1), rfl, rfl, inV (.str z) [.str "class", .str "not"], rfl, ?_⟩
      by_cases h1 : Naming z
      · rw [bT inN h1]
        refine iteT ⟨_, rfl, v, rfl, ?_⟩
        rcases hNm h1 with ⟨⟨l, rfl, hl, ho⟩, q⟩ | ⟨⟨l, rfl, hl, ho⟩ | ⟨i, rfl⟩, q⟩
        · refine .inl ⟨l, rfl, hl, ?_⟩
          rw [ho]
          exact q H1 s1
        · refine .inl ⟨l, rfl, hl, ?_⟩
          rw [ho]
          exact q H1 s1
        · exact .inr ⟨notStr_int, q H1 s1⟩
      rw [bF inN h1]
      refine iteF ⟨_, rfl, pR, _, rfl, .inr (T.hR H1), rfl, rfl, inV (.str z) [.str "star", .str "plus", .str "maybe"], rfl, ?_⟩
      by_cases h2 : Repd z
      · rw [bT inR h2]
        refine iteT ⟨_, rfl, _, _, rfl, rfl, _, rfl, ?_⟩
        rcases hRp h2 with ⟨rfl, q⟩ | ⟨n', rfl, hp⟩
        · rw [dF' (show ¬ (0 : Int) < ((0 : Nat) : Int) by decide)]
          exact iteF (q H1 s1)
        · rw [dT' (show (0 : Int) < ((n' + 1 : Nat) : Int) by omega)]
          refine iteT ⟨_, rfl, _, rfl, _, _, rfl, rfl, ?_⟩
          refine hP n' hn _ _ _ _ ⟨d, v, n', ?_, Nat.le_refl _, ?_⟩
          · have en : ((n' + 1 : Nat) : Int) - 1 = (n' : Int) := by omega
            show [v, V.int (((n' + 1 : Nat) : Int) - 1)] ++ [] = _
            rw [en]
            rfl
          · rcases hp with ⟨h, q⟩ | ⟨h, q⟩
            · exact .inl ⟨h.mono (tupsOf s1), fun H2 s2 => q H2 (s1.trans s2)⟩
            · exact .inr ⟨h.mono (tupsOf s1) (lstsOf s1), fun H2 s2 => q H2 (s1.trans s2)⟩
      rw [bF inR h2]
      refine iteF ⟨_, rfl, pS, _, rfl, .inr (T.hS H1), rfl, rfl, inV (.str z) [.str "row", .str "either"], rfl, ?_⟩
      by_cases h3 : Sev z
      · rw [bT inS h3]
        refine iteT ⟨_, rfl, _, rfl, rfl, _, rfl, ?_⟩
        have fin : (Parts H1 (leastOf z) n v ∧ ∀ H', Same H1 H' → Q (.bl true) H') ∨ (NoParts d H1 (leastOf z) n v ∧ ∀ H', Same H1 H' → Q (.bl false) H') := by
          rcases hSv h3 with ⟨⟨b, rfl, ⟨hb, hm⟩ | ⟨v1, v2, n', rfl, hb, hm, p1, p2⟩⟩, q⟩ | ⟨hL | ⟨b, xs, rfl, hb, hx⟩, q⟩
          · exact .inl ⟨⟨b, rfl, .inl ⟨s1 _ _ hb, hm⟩⟩, fun H2 s2 => q H2 (s1.trans s2)⟩
          · exact .inl ⟨⟨b, rfl, .inr ⟨v1, v2, n', rfl, s1 _ _ hb, hm, p1.mono (tupsOf s1), p2.mono (tupsOf s1)⟩⟩, fun H2 s2 => q H2 (s1.trans s2)⟩
          · exact .inr ⟨.inl (hL.mono (lstsOf s1)), fun H2 s2 => q H2 (s1.trans s2)⟩
          · refine .inr ⟨.inr ⟨b, xs, rfl, s1 _ _ hb, ?_⟩, fun H2 s2 => q H2 (s1.trans s2)⟩
            rcases hx with hx | ⟨v1, v2, e, hx | ⟨n', e2, hx | ⟨hx1, hx2⟩⟩⟩
            · exact .inl hx
            · exact .inr ⟨v1, v2, e, .inl hx⟩
            · exact .inr ⟨v1, v2, e, .inr ⟨n', e2, .inl (hx.mono (tupsOf s1) (lstsOf s1))⟩⟩
            · exact .inr ⟨v1, v2, e, .inr ⟨n', e2, .inr ⟨hx1.mono (tupsOf s1), hx2.mono (tupsOf s1) (lstsOf s1)⟩⟩⟩
        unfold leastOf at fin
        by_cases he : z = "either"
        · rw [if_pos he] at fin
          rw [dT' (show V.str z = V.str "either" from congrArg V.str he)]
          exact iteT ⟨_, rfl, d, v, 2, n, rfl, hn, fin⟩
        · rw [if_neg he] at fin
          rw [dF' (show ¬ V.str z = V.str "either" from fun e => he (V.str.inj e))]
          exact iteF ⟨_, rfl, d, v, 0, n, rfl, hn, fin⟩
      · rw [bF inS h3]
        exact iteF (hEl h1 h2 h3 H1 s1)
theorem ok_pat {f fA fI : Addr} {fd fdA fdI : FuncData} {pN pR pS : Addr} (F : Fun K "_is_pattern" "_is_pattern" sUIsPattern f fd) (T : Words K mg pN pR pS) (b : Binds K fd ["thing", "depth"] []) (g : mg "_is_pattern" = some (.ref f))
    (FA : Fun K "_are_parts" "_are_parts" sUAreParts fA fdA) (bA : Binds K fdA ["thing", "least", "depth"] []) (gA : mg "_are_parts" = some (.ref fA))
    (FI : Fun K "is_name" "is_name" sIsName fI fdI) (bI : Binds K fdI ["thing"] []) (gI : mg "is_name" = some (.ref fI)) (GI : ∀ k, FnOk P w K mg base CX0 (k + 3) fI fdI ["thing"] (spName K)) :
    ∀ N : Nat, FnOk P w K mg base CX0 (2 * N + 4) f fd ["thing", "depth"] (spPat N)
  | 0 => ok_pat1 (k := 3) F T F b g (ok_never (k := 2) F scUIsPattern) (fun n hn => absurd hn (by omega)) FA bA gA (ok_parts (k := 2) FA T F b g (ok_never (k := 1) F scUIsPattern) (fun n hn => absurd hn (by omega))) FI bI gI (GI 0)
  | N + 1 => by
    have ih := ok_pat F T b g FA bA gA FI bI gI GI N
    have up : FnOk P w K mg base CX0 (2 * N + 5) f fd ["thing", "depth"] (spPat N) := ih.mono (by omega)
    have wk : ∀ n, n + 1 ≤ N + 1 → ∀ vs H Q E, spPat n vs H Q E → spPat N vs H Q E := fun n hn vs H Q E h => by
      obtain ⟨d, x, m, rfl, hm, h⟩ := h
      exact ⟨d, x, m, rfl, by omega, h⟩
    exact ok_pat1 (k := 2 * N + 5) F T F b g up wk FA bA gA (ok_parts (k := 2 * N + 4) FA T F b g ih wk) FI bI gI (GI (2 * N + 2))
end

/-! #### the law's own makers -/
def NmsOk (xs : List V) : Prop := 0 < xs.length ∧ xs.length ≤ 1000 ∧ ∀ x ∈ xs, NmOk x
def spItem : Sp := fun vs H Q _ => ∃ (d l t : Addr) (n : Nat) (xs : List V), vs = [.ref d, .ref t] ∧ Dr d l n H ∧ n < 500000 ∧ t ≠ d ∧ H t = some (.lst xs) ∧ NmsOk xs ∧ ∀ x H' n', n' ≤ n + 2 → But d H H' → Dr d l n' H' → (∀ m, Pat H' m x) → Q x H'
/-- all stands but the two lists at d and r -/
def Two (d r : Addr) (H H' : Hp) : Prop := ∀ b o, b ≠ d → b ≠ r → H b = some o → H' b = some o
theorem Two.refl (d r : Addr) (H : Hp) : Two d r H H := fun _ _ _ _ h => h
theorem Two.trans {d r : Addr} {H H1 H2 : Hp} (a : Two d r H H1) (b : Two d r H1 H2) : Two d r H H2 := fun c o n m h => b c o n m (a c o n m h)
theorem twoBut {d r : Addr} {H H' : Hp} (a : But d H H') : Two d r H H' := fun c o n _ h => a c o n h
theorem twoSame {d r : Addr} {H H' : Hp} (a : Same H H') : Two d r H H' := fun c o _ _ h => a c o h
theorem twoTups {d l r : Addr} {n : Nat} {z : Int} {H H' : Hp} (s : Two d r H H') (h : Dr d l n H) (hr : H r = some (.lst [.int z])) : Tups H H' := fun a xs e => by
  obtain ⟨h1, h2, ns, h3, h4⟩ := h
  exact s _ _ (ne_of e h2 (fun z => nomatch z)) (ne_of e hr (fun z => nomatch z)) e
def Bm : Nat → Nat
  | 0 => 6
  | m + 1 => 2 * Bm m + 6
def spLPat (N : Nat) : Sp := fun vs H Q _ => ∃ (d l t r : Addr) (n m : Nat) (z : Int) (xs : List V), vs = [.ref d, .ref t, .ref r, .int (m : Int)] ∧ m ≤ N ∧ Dr d l n H ∧ n + Bm m < 400000 ∧ t ≠ d ∧ r ≠ d ∧ r ≠ l ∧ t ≠ r ∧ H t = some (.lst xs) ∧ NmsOk xs ∧ H r = some (.lst [.int z]) ∧
  ∀ x H' n' z', n' ≤ n + Bm m → Two d r H H' → Dr d l n' H' → H' r = some (.lst [.int z']) → Pat H' m x → Q x H'
def spBent : Sp := fun vs H Q _ => ∃ (d l : Addr) (n : Nat) (x : V), vs = [.ref d, x] ∧ Dr d l n H ∧ n < 500000 ∧ Pat H 3 x ∧ ∀ y H', But d H H' → Dr d l (n + 2) H' → NoPat d H' 20 y → Q y H'
section
variable {P : Program} {w : World} {K : PySem.W.Frag} {mg : Str → Option Value} {base : Heap}
theorem ok_item {f fK fT : Addr} {fd fdK fdT : FuncData} {k : Nat} (F : Fun K "_law_item" "_law_item" sLItem f fd)
    (FK : Fun K "_law_pick" "_law_pick" sPick fK fdK) (bK : Binds K fdK ["draw", "things"] []) (gK : mg "_law_pick" = some (.ref fK)) (GK : FnOk P w K mg base CX0 k fK fdK ["draw", "things"] (spPick K))
    (FT : Fun K "_law_next" "_law_next" sNext fT fdT) (bT : Binds K fdT ["draw", "bound"] []) (gT : mg "_law_next" = some (.ref fT)) (GT : FnOk P w K mg base CX0 k fT fdT ["draw", "bound"] (spNext K)) :
    FnOk P w K mg base CX0 (k + 1) f fd ["draw", "names"] spItem := by
  refine F.ok scLItem (fun vs H Q E h => ?_) (fun cdv A outer s H vs Q E hr h => ?_)
  · obtain ⟨d, l, t, n, xs, rfl, _⟩ := h
    rfl
  · obtain ⟨d, l, t, n, xs, rfl, hD, hn, htd, ht, ⟨hx0, hx1, hxs⟩, q⟩ := h
    refine ⟨_, pss_cons (ps_set (i := 2) scLItem.nd rfl (.inl rfl) (pe_call GT hr (by rfl) gT FT.kp bT .nil pass0 (pa_cons (pv 0) (pa_cons pe_int pa_nil))))
      (pss_cons (ps_if (pt_cmpR op_eq (pv 2) pe_int (nomark _)) (pss_one (ps_ret (pe_tup (pa_cons pe_str pa_nil)))) pss_nil)
      (pss_one (ps_ret (pe_tup (pa_cons (pe_ifExp (pt_cmpR op_eq (pv 2) pe_int (nomark _)) pe_str pe_str) (pa_cons (pe_call GK hr (by rfl) gK FK.kp bK .nil pass0 (pa_cons (pv 0) (pa_cons (pv 1) pa_nil))) pa_nil)))))), ?_⟩
    refine ⟨_, rfl, d, l, n, 5, rfl, hD, by omega, by decide, fun r H1 r0 r1 bu hD1 => ?_⟩
    refine ⟨_, rfl, rfl, _, rfl, ite2 (fun e => ?_) (fun e => ?_)⟩
    · refine ⟨len63 (by show (1 : Nat) ≤ 100000; decide), fun p np => ?_⟩
      exact q _ _ (n + 1) (by omega) (bu.same (same_upd np)) (hD1.same (same_upd np)) fun m => .any upd_same
    · refine ⟨_, rfl, rfl, _, rfl, ite2 (fun e => ?_) (fun e => ?_)⟩
      all_goals
        refine ⟨_, rfl, _, rfl, d, l, t, n + 1, xs, rfl, hD1, by omega, .inl (.inl (.inl (bu _ _ htd ht))), htd, hx0, fun i x H2 hx bu2 hD2 => ?_⟩
        refine ⟨len63 (by show (2 : Nat) ≤ 100000; decide), fun p np => ?_⟩
        exact q _ _ (n + 2) (by omega) ((bu.trans bu2).same (same_upd np)) (hD2.same (same_upd np)) fun m => .nm upd_same (by first | exact .inr rfl | exact .inl rfl) (hxs x (List.mem_of_getElem? hx))
theorem ok_lpat1 {N : Nat} {f fP fK fT fI : Addr} {fd fdP fdK fdT fdI : FuncData} {k : Nat} {spP : Sp} (F : Fun K "_law_pattern" "_law_pattern" sLPattern f fd)
    (FP : Fun K "_law_pattern" "_law_pattern" sLPattern fP fdP) (bP : Binds K fdP ["draw", "names", "room", "deep"] []) (gP : mg "_law_pattern" = some (.ref fP)) (GP : FnOk P w K mg base CX0 k fP fdP ["draw", "names", "room", "deep"] spP)
    (hP : ∀ n, n + 1 ≤ N → ∀ vs H Q E, spLPat n vs H Q E → spP vs H Q E)
    (FI : Fun K "_law_item" "_law_item" sLItem fI fdI) (bI : Binds K fdI ["draw", "names"] []) (gI : mg "_law_item" = some (.ref fI)) (GI : FnOk P w K mg base CX0 k fI fdI ["draw", "names"] spItem)
    (FK : Fun K "_law_pick" "_law_pick" sPick fK fdK) (bK : Binds K fdK ["draw", "things"] []) (gK : mg "_law_pick" = some (.ref fK)) (GK : FnOk P w K mg base CX0 k fK fdK ["draw", "things"] (spPick K))
    (FT : Fun K "_law_next" "_law_next" sNext fT fdT) (bT : Binds K fdT ["draw", "bound"] []) (gT : mg "_law_next" = some (.ref fT)) (GT : FnOk P w K mg base CX0 k fT fdT ["draw", "bound"] (spNext K)) :
    FnOk P w K mg base CX0 (k + 1) f fd ["draw", "names", "room", "deep"] (spLPat N) := by
  refine F.ok scLPattern (fun vs H Q E h => ?_) (fun cdv A outer s H vs Q E hr h => ?_)
  · obtain ⟨d, l, t, r, n, m, z, xs, rfl, _⟩ := h
    rfl
  · obtain ⟨d, l, t, r, n, m, z, xs, rfl, hm, hD, hn, htd, hrd, hrl, htr, ht, hxs, hr0, q⟩ := h
    refine ⟨_, C8.pss_cut (ps_if (PW.pt (pw_or (pt_cmpR op_lt (pe_ix ix_list (pv 2) pe_int (fun _ _ => rfl)) pe_int (nomark _)) (pw_or1 (PW.pt (pw_and (pt_cmpR op_eq (pv 3) pe_int (nomark _)) (pw_and1 (pt_cmpR op_eq (pe_call GT hr (by rfl) gT FT.kp bT .nil pass0 (pa_cons (pv 0) (pa_cons pe_int pa_nil))) pe_int (nomark _)))))))) (pss_one (ps_ret (pe_tup (pa_cons pe_str (pa_cons (pe_tup pa_nil) pa_nil))))) pss_nil)
      (pss_cons (ps_set (i := 4) scLPattern.nd rfl (.inl rfl) (pe_call GT hr (by rfl) gT FT.kp bT .nil pass0 (pa_cons (pv 0) (pa_cons pe_int pa_nil))))
      (C8.pss_cut (ps_if (PW.pt (pw_and (pt_cmpR op_gt (pv 3) pe_int (nomark _)) (pw_and (pt_cmpR op_gt (pv 4) pe_int (nomark _)) (pw_and1 (pt_cmpR op_gt (pe_ix ix_list (pv 2) pe_int (fun _ _ => rfl)) pe_int (nomark _))))))
        (pss_cons (ps_set (i := 5) scLPattern.nd rfl (.inl rfl) (pe_call GP hr (by rfl) gP FP.kp bP .nil pass0 (pa_cons (pv 0) (pa_cons (pv 1) (pa_cons (pv 2) (pa_cons (pe_op op_sub (pv 3) pe_int) pa_nil)))))) (pss_cons (ps_set (i := 6) scLPattern.nd rfl (.inl rfl) (pe_call GP hr (by rfl) gP FP.kp bP .nil pass0 (pa_cons (pv 0) (pa_cons (pv 1) (pa_cons (pv 2) (pa_cons (pe_op op_sub (pv 3) pe_int) pa_nil))))))
          (pss_one (ps_ret (pe_tup (pa_cons (pe_ifExp (pt_cmpR op_lt (pv 4) pe_int (nomark _)) pe_str pe_str) (pa_cons (pe_tup (pa_cons (pv 5) (pa_cons (pv 6) pa_nil))) pa_nil))))))) pss_nil)
      (C8.pss_cut (ps_if (PW.pt (pw_and (pt_cmpR op_gt (pv 3) pe_int (nomark _)) (pw_and1 (pt_cmpR op_gt (pv 4) pe_int (nomark _))))) (pss_one (ps_ret (pe_tup (pa_cons (pe_call GK hr (by rfl) gK FK.kp bK .nil pass0 (pa_cons (pv 0) (pa_cons (pe_lst (pa_cons pe_str (pa_cons pe_str (pa_cons pe_str pa_nil)))) pa_nil))) (pa_cons (pe_call GP hr (by rfl) gP FP.kp bP .nil pass0 (pa_cons (pv 0) (pa_cons (pv 1) (pa_cons (pv 2) (pa_cons (pe_op op_sub (pv 3) pe_int) pa_nil))))) pa_nil))))) pss_nil)
      (pss_cons (ps_asg (pe_op op_sub (pe_ix ix_list (pv 2) pe_int (fun _ _ => rfl)) pe_int) (pg_sub (pv 2) pe_int set_list))
      (pss_one (ps_ret (pe_call GI hr (by rfl) gI FI.kp bI .nil pass0 (pa_cons (pv 0) (pa_cons (pv 1) pa_nil))))))))), ?_⟩
    have hB : 6 ≤ Bm m := by
      cases m with
      | zero => exact Nat.le_refl _
      | succ m =>
        show 6 ≤ 2 * Bm m + 6
        omega
    -- the part behind the first if, from a state with at most one draw more
    have nilq : ∀ (H1 : Hp) (n1 : Nat), n1 ≤ n + 1 → Dr d l n1 H1 → But d H H1 → tRet (tTup (tCons (tC (.str "row")) (tCons (tTup tNil) tNil))) { nx := fun _ H' => Q .non H', rt := Q } (start ["draw", "names", "room", "deep", "kind", "one", "other"] [.ref d, .ref t, .ref r, .int (m : Int)]) H1 := by
      intro H1 n1 hn1 hD1 bu1
      refine ⟨len63 (by show (0 : Nat) ≤ 100000; decide), fun b nb => ?_⟩
      have sb := same_upd (o := .tup []) nb
      have eb : (upd H1 b (.tup [])) b = some (.tup []) := upd_same
      generalize upd H1 b (.tup []) = H2 at sb eb ⊢
      refine ⟨len63 (by show (2 : Nat) ≤ 100000; decide), fun a na => ?_⟩
      have sa := same_upd (o := .tup [.str "row", .ref b]) na
      refine q _ _ n1 z (by omega) (twoBut ((bu1.same sb).same sa)) ((hD1.same sb).same sa) (sa _ _ (sb _ _ (bu1 _ _ hrd hr0))) (.nil upd_same (sa _ _ eb))
    refine ⟨fun σ' H1 => (∃ n1, n1 ≤ n + 1 ∧ Dr d l n1 H1 ∧ But d H H1) ∧ σ' = start ["draw", "names", "room", "deep", "kind", "one", "other"] [.ref d, .ref t, .ref r, .int (m : Int)], ?_, ?_⟩
    · -- the first if
      refine ⟨_, rfl, r, _, 0, _, rfl, rfl, .inl (.inl hr0), atI_nat (j := 0) rfl, _, _, rfl, rfl, _, rfl, ite2 (fun e => ?_) (fun e => ?_)⟩
      · exact nilq H n (by omega) hD (But.refl _ _)
      · refine ⟨_, rfl, rfl, _, rfl, ite2 (fun e => ?_) (fun e => ?_)⟩
        · refine ⟨_, rfl, d, l, n, 6, rfl, hD, by omega, by decide, fun w0 H1 r0 r1 bu hD1 => ⟨rfl, _, rfl, ite2 (fun e => ?_) (fun e => ?_)⟩⟩
          · exact nilq H1 (n + 1) (by omega) hD1 bu
          · exact ⟨⟨n + 1, by omega, hD1, bu⟩, rfl⟩
        · exact iteF ⟨⟨n, by omega, hD, But.refl _ _⟩, rfl⟩
    · rintro σ' H1 ⟨⟨n1, hn1, hD1, bu1⟩, rfl⟩
      -- kind
      refine ⟨_, rfl, d, l, n1, 8, rfl, hD1, by omega, by decide, fun kd H2 k0 k1 bu2 hD2 => ?_⟩
      have bu := bu1.trans bu2
      have hr2 := bu _ _ hrd hr0
      have ht2 := bu _ _ htd ht
      -- the call of itself
      have self : ∀ (m' : Nat) (H3 : Hp) (n3 : Nat) (z3 : Int) (E3 : XK) (Q3 : VK), m = m' + 1 → Dr d l n3 H3 → n3 + Bm m' < 400000 → H3 t = some (.lst xs) → H3 r = some (.lst [.int z3]) →
          (∀ x H' n' z', n' ≤ n3 + Bm m' → Two d r H3 H' → Dr d l n' H' → H' r = some (.lst [.int z']) → Pat H' m' x → Q3 x H') → spP ([.ref d, .ref t, .ref r, .int ((m : Int) - 1)] ++ []) H3 Q3 E3 := by
        intro m' H3 n3 z3 E3 Q3 em hD3 hn3 ht3 hr3 q3
        refine hP m' (by omega) _ _ _ _ ⟨d, l, t, r, n3, m', z3, xs, ?_, Nat.le_refl _, hD3, hn3, htd, hrd, hrl, htr, ht3, hxs, hr3, q3⟩
        have e1 : (m : Int) - 1 = (m' : Int) := by omega
        rw [e1]
        rfl
      refine ⟨fun σ' H' => σ' = [some (.ref d), some (.ref t), some (.ref r), some (.int (m : Int)), some (.int kd), none, none] ∧ H' = H2, ?_, ?_⟩
      · refine ⟨_, rfl, _, _, rfl, rfl, _, rfl, ite2 (fun em => ?_) (fun _ => iteF ⟨rfl, rfl⟩)⟩
        have em := of_decide_eq_true em
        obtain ⟨m', hm'⟩ : ∃ m', m = m' + 1 := ⟨m - 1, by omega⟩
        have hBm : Bm m = 2 * Bm m' + 6 := by rw [hm']; rfl
        refine ⟨_, rfl, _, _, rfl, rfl, _, rfl, ite2 (fun _ => ?_) (fun _ => iteF ⟨rfl, rfl⟩)⟩
        refine ⟨_, rfl, r, _, 0, _, rfl, rfl, .inl (.inl hr2), atI_nat (j := 0) rfl, _, _, rfl, rfl, _, rfl, ite2 (fun _ => ?_) (fun _ => ⟨rfl, rfl⟩)⟩
        refine ⟨_, rfl, _, rfl, _, rfl, _, rfl, _, _, rfl, rfl, self m' H2 (n1 + 1) z _ _ hm' hD2 (by omega) ht2 hr2 (fun x1 H3 n3 z3 hn3 tw3 hD3 hr3 p1 => ?_)⟩
        refine ⟨_, rfl, _, rfl, _, rfl, _, rfl, _, _, rfl, rfl, self m' H3 n3 z3 _ _ hm' hD3 (by omega) (tw3 _ _ htd htr ht2) hr3 (fun x2 H4 n4 z4 hn4 tw4 hD4 hr4 p2 => ?_)⟩
        have p1' := p1.mono (twoTups tw4 hD3 hr3)
        refine ⟨_, rfl, _, _, rfl, rfl, _, rfl, ite2 (fun _ => ?_) (fun _ => ?_)⟩
        all_goals
          refine ⟨_, rfl, _, rfl, len63 (by show (2 : Nat) ≤ 100000; decide), fun b nb => ?_⟩
          have sb := same_upd (o := .tup [x1, x2]) nb
          have eb : (upd H4 b (.tup [x1, x2])) b = some (.tup [x1, x2]) := upd_same
          have q1 := p1'.mono (tupsOf sb)
          have q2 := p2.mono (tupsOf sb)
          have hD5 := hD4.same sb
          have hr5 := sb _ _ hr4
          have tw5 := ((twoBut (r := r) bu).trans tw3).trans (tw4.trans (twoSame sb))
          generalize upd H4 b (.tup [x1, x2]) = H5 at sb eb q1 q2 hD5 hr5 tw5 ⊢
          refine ⟨len63 (by show (2 : Nat) ≤ 100000; decide), fun a na => ?_⟩
          have sa := fun (z : Str) => same_upd (o := .tup [.str z, .ref b]) na
          refine q _ _ n4 z4 (by omega) (tw5.trans (twoSame (sa _))) (hD5.same (sa _)) (sa _ _ _ hr5) ?_
          rw [hm']
          exact .two upd_same (by first | exact .inl rfl | exact .inr rfl) (sa _ _ _ eb) (q1.mono (tupsOf (sa _))) (q2.mono (tupsOf (sa _)))
      · rintro σ' H' ⟨rfl, rfl⟩
        refine ⟨fun σ' H3 => σ' = [some (.ref d), some (.ref t), some (.ref r), some (.int (m : Int)), some (.int kd), none, none] ∧ H3 = H', ?_, ?_⟩
        · refine ⟨_, rfl, _, _, rfl, rfl, _, rfl, ite2 (fun em => ?_) (fun _ => iteF ⟨rfl, rfl⟩)⟩
          have em := of_decide_eq_true em
          obtain ⟨m', hm'⟩ : ∃ m', m = m' + 1 := ⟨m - 1, by omega⟩
          have hBm : Bm m = 2 * Bm m' + 6 := by rw [hm']; rfl
          refine ⟨_, rfl, _, _, rfl, rfl, _, rfl, ite2 (fun _ => ?_) (fun _ => ⟨rfl, rfl⟩)⟩
          refine ⟨_, rfl, len63 (by show (3 : Nat) ≤ 100000; decide), fun L nL => ?_⟩
          have sL := same_upd (o := .lst [.str "star", .str "plus", .str "maybe"]) nL
          refine ⟨d, l, L, n1 + 1, _, rfl, hD2.same sL, by omega, .inl (.inl (.inl upd_same)), hD2.newD nL, by show 0 < 3; decide, fun i x H3 hx bu3 hD3 => ?_⟩
          have hx' : ∃ k, x = .str k ∧ Repd k := by
            match i, hx with
            | 0, hx => cases hx; exact ⟨_, rfl, .inl rfl⟩
            | 1, hx => cases hx; exact ⟨_, rfl, .inr (.inl rfl)⟩
            | 2, hx => cases hx; exact ⟨_, rfl, .inr (.inr rfl)⟩
            | i + 3, hx => exact absurd hx (by simp)
          obtain ⟨kx, rfl, hk⟩ := hx'
          refine ⟨_, rfl, _, rfl, _, rfl, _, rfl, _, _, rfl, rfl, self m' H3 (n1 + 2) z _ _ hm' hD3 (by omega) (bu3 _ _ htd (sL _ _ ht2)) (bu3 _ _ hrd (sL _ _ hr2)) (fun x1 H4 n4 z4 hn4 tw4 hD4 hr4 p1 => ?_)⟩
          refine ⟨len63 (by show (2 : Nat) ≤ 100000; decide), fun a na => ?_⟩
          have sa := same_upd (o := .tup [.str kx, x1]) na
          refine q _ _ n4 z4 (by omega) (((((twoBut (r := r) bu).trans (twoSame sL)).trans (twoBut bu3)).trans tw4).trans (twoSame sa)) (hD4.same sa) (sa _ _ hr4) ?_
          rw [hm']
          exact .rep upd_same hk (p1.mono (tupsOf sa))
        · rintro σ' H3 ⟨rfl, rfl⟩
          -- room[0] = room[0] - 1; an item
          refine ⟨_, rfl, r, _, 0, _, rfl, rfl, .inl (.inl hr2), atI_nat (j := 0) rfl, _, _, rfl, rfl, _, rfl, r, _, _, 0, rfl, rfl, hr2, rfl, ?_⟩
          have htr2 : (upd H3 r (.lst [.int (z - 1)])) t = some (.lst xs) := by
            rw [upd_ne htr]
            exact ht2
          refine ⟨_, rfl, _, rfl, d, l, t, n1 + 1, xs, rfl, hD2.upd hrd hrl, by omega, htd, htr2, hxs, fun x H4 n4 hn4 bu4 hD4 p => ?_⟩
          refine q x H4 n4 (z - 1) (by omega) (fun b o nd nr e => bu4 _ _ nd ?_) hD4 (bu4 _ _ hrd upd_same) (p m)
          rw [upd_ne nr]
          exact bu _ _ nd e
theorem ok_lpat {f fK fT fI : Addr} {fd fdK fdT fdI : FuncData} {k : Nat} (F : Fun K "_law_pattern" "_law_pattern" sLPattern f fd) (b : Binds K fd ["draw", "names", "room", "deep"] []) (g : mg "_law_pattern" = some (.ref f))
    (FI : Fun K "_law_item" "_law_item" sLItem fI fdI) (bI : Binds K fdI ["draw", "names"] []) (gI : mg "_law_item" = some (.ref fI)) (GI : FnOk P w K mg base CX0 (k + 5) fI fdI ["draw", "names"] spItem)
    (FK : Fun K "_law_pick" "_law_pick" sPick fK fdK) (bK : Binds K fdK ["draw", "things"] []) (gK : mg "_law_pick" = some (.ref fK)) (GK : FnOk P w K mg base CX0 (k + 4) fK fdK ["draw", "things"] (spPick K))
    (FT : Fun K "_law_next" "_law_next" sNext fT fdT) (bT : Binds K fdT ["draw", "bound"] []) (gT : mg "_law_next" = some (.ref fT)) (GT : FnOk P w K mg base CX0 (k + 3) fT fdT ["draw", "bound"] (spNext K)) :
    ∀ N, FnOk P w K mg base CX0 (k + N + 6) f fd ["draw", "names", "room", "deep"] (spLPat N)
  | 0 => ok_lpat1 (k := k + 5) F F b g (ok_never (k := k + 4) F scLPattern) (fun n hn => absurd hn (by omega)) FI bI gI GI FK bK gK (GK.mono (by omega)) FT bT gT (GT.mono (by omega))
  | N + 1 => by
    have ih := ok_lpat (k := k) F b g FI bI gI GI FK bK gK GK FT bT gT GT N
    exact ok_lpat1 (k := k + N + 6) F F b g ih (fun n hn vs H Q E h => by
      obtain ⟨d, l, t, r, n0, m, z, xs, e, hm, h⟩ := h
      exact ⟨d, l, t, r, n0, m, z, xs, e, by omega, h⟩) FI bI gI (GI.mono (by omega)) FK bK gK (GK.mono (by omega)) FT bT gT (GT.mono (by omega))
theorem ok_bent {f fT : Addr} {fd fdT : FuncData} {k : Nat} (F : Fun K "_law_bent" "_law_bent" sLBent f fd)
    (FT : Fun K "_law_next" "_law_next" sNext fT fdT) (bT : Binds K fdT ["draw", "bound"] []) (gT : mg "_law_next" = some (.ref fT)) (GT : FnOk P w K mg base CX0 k fT fdT ["draw", "bound"] (spNext K)) :
    FnOk P w K mg base CX0 (k + 1) f fd ["draw", "pattern"] spBent := by
  refine F.ok scLBent (fun vs H Q E h => ?_) (fun cdv A outer s H vs Q E hr h => ?_)
  · obtain ⟨d, l, n, x, rfl, _⟩ := h
    rfl
  · obtain ⟨d, l, n, x, rfl, hD, hn, hp, q⟩ := h
    refine ⟨_, pss_cons (ps_set (i := 2) scLBent.nd rfl (.inl rfl) (pe_call GT hr (by rfl) gT FT.kp bT .nil pass0 (pa_cons (pv 0) (pa_cons pe_int pa_nil))))
      (C8.pss_cut (ps_set (i := 3) scLBent.nd rfl (.inl rfl) (pe_ix ix_list (pe_lst (pa_cons (pe_tup (pa_cons pe_str (pa_cons pe_str pa_nil))) (pa_cons (pe_tup (pa_cons pe_str (pa_cons pe_str pa_nil))) (pa_cons (pe_tup (pa_cons pe_str (pa_cons pe_int pa_nil))) (pa_cons (pe_tup (pa_cons pe_str (pa_cons pe_str pa_nil))) (pa_cons (pe_tup (pa_cons pe_str pa_nil)) (pa_cons (pe_tup (pa_cons pe_str (pa_cons (pe_tup (pa_cons (pv 1) pa_nil)) pa_nil))) (pa_cons (pe_tup (pa_cons pe_str (pa_cons (pe_tup pa_nil) pa_nil))) (pa_cons (pe_tup (pa_cons pe_str (pa_cons (pe_lst (pa_cons (pv 1) pa_nil)) pa_nil))) (pa_cons (pe_lst (pa_cons pe_str pa_nil)) (pa_cons (pe_tup (pa_cons pe_str (pa_cons (pv 1) pa_nil))) (pa_cons (pe_tup pa_nil) (pa_cons (pe_tup (pa_cons pe_str (pa_cons (pe_tup (pa_cons (pv 1) (pa_cons pe_non pa_nil))) pa_nil))) pa_nil))))))))))))) (pv 2) (fun _ _ => rfl)))
      (pss_one (ps_ret (pe_ix ix_list (pe_lst (pa_cons (pv 3) (pa_cons (pe_tup (pa_cons pe_str (pa_cons (pv 3) pa_nil))) (pa_cons (pe_tup (pa_cons pe_str (pa_cons (pe_tup (pa_cons (pv 1) (pa_cons (pv 3) pa_nil))) pa_nil))) (pa_cons (pe_tup (pa_cons pe_str (pa_cons (pe_tup (pa_cons (pv 3) (pa_cons (pv 1) pa_nil))) pa_nil))) pa_nil))))) (pe_call GT hr (by rfl) gT FT.kp bT .nil pass0 (pa_cons (pv 0) (pa_cons pe_int pa_nil))) (fun _ _ => rfl))))), ?_⟩
    refine ⟨_, rfl, d, l, n, 12, rfl, hD, by omega, by decide, fun kd H1 k0 k1 hb hD2 => ?_⟩
    have hp := hp.mono (butTups hb hD)
    refine ⟨fun σ' H2 => ∃ y, σ' = [some (.ref d), some x, some (.int kd), some y] ∧ But d H H2 ∧ Dr d l (n + 1) H2 ∧ Pat H2 3 x ∧ ∀ m, 5 ≤ m → NoPat d H2 m y, ?_, ?_⟩
    · clear q hD
      refine ⟨len63 (by show (2 : Nat) ≤ 100000; decide), fun a0 na0 => ?_⟩
      have sa0 : Same H1 (upd H1 a0 (.tup [.str "class", .str "A"])) := same_upd na0
      have ea0 : (upd H1 a0 (.tup [.str "class", .str "A"])) a0 = some (.tup [.str "class", .str "A"]) := upd_same
      have da0 : a0 ≠ d := fun e => by
        obtain ⟨o, ho⟩ := hD2.at
        rw [e, ho] at na0
        cases na0
      generalize upd H1 a0 (.tup [.str "class", .str "A"]) = G1 at sa0 ea0 ⊢
      have hD2 := hD2.same sa0
      have hb := hb.same sa0
      have hp := hp.mono (tupsOf sa0)
      refine ⟨len63 (by show (2 : Nat) ≤ 100000; decide), fun a1 na1 => ?_⟩
      have sa1 : Same G1 (upd G1 a1 (.tup [.str "class", .str "start"])) := same_upd na1
      have ea1 : (upd G1 a1 (.tup [.str "class", .str "start"])) a1 = some (.tup [.str "class", .str "start"]) := upd_same
      have da1 : a1 ≠ d := fun e => by
        obtain ⟨o, ho⟩ := hD2.at
        rw [e, ho] at na1
        cases na1
      generalize upd G1 a1 (.tup [.str "class", .str "start"]) = G2 at sa1 ea1 ⊢
      have hD2 := hD2.same sa1
      have hb := hb.same sa1
      have hp := hp.mono (tupsOf sa1)
      have ea0 := sa1 _ _ ea0
      refine ⟨len63 (by show (2 : Nat) ≤ 100000; decide), fun a2 na2 => ?_⟩
      have sa2 : Same G2 (upd G2 a2 (.tup [.str "not", .int 7])) := same_upd na2
      have ea2 : (upd G2 a2 (.tup [.str "not", .int 7])) a2 = some (.tup [.str "not", .int 7]) := upd_same
      have da2 : a2 ≠ d := fun e => by
        obtain ⟨o, ho⟩ := hD2.at
        rw [e, ho] at na2
        cases na2
      generalize upd G2 a2 (.tup [.str "not", .int 7]) = G3 at sa2 ea2 ⊢
      have hD2 := hD2.same sa2
      have hb := hb.same sa2
      have hp := hp.mono (tupsOf sa2)
      have ea0 := sa2 _ _ ea0
      have ea1 := sa2 _ _ ea1
      refine ⟨len63 (by show (2 : Nat) ≤ 100000; decide), fun a3 na3 => ?_⟩
      have sa3 : Same G3 (upd G3 a3 (.tup [.str "any", .str "x"])) := same_upd na3
      have ea3 : (upd G3 a3 (.tup [.str "any", .str "x"])) a3 = some (.tup [.str "any", .str "x"]) := upd_same
      have da3 : a3 ≠ d := fun e => by
        obtain ⟨o, ho⟩ := hD2.at
        rw [e, ho] at na3
        cases na3
      generalize upd G3 a3 (.tup [.str "any", .str "x"]) = G4 at sa3 ea3 ⊢
      have hD2 := hD2.same sa3
      have hb := hb.same sa3
      have hp := hp.mono (tupsOf sa3)
      have ea0 := sa3 _ _ ea0
      have ea1 := sa3 _ _ ea1
      have ea2 := sa3 _ _ ea2
      refine ⟨len63 (by show (1 : Nat) ≤ 100000; decide), fun a4 na4 => ?_⟩
      have sa4 : Same G4 (upd G4 a4 (.tup [.str "star"])) := same_upd na4
      have ea4 : (upd G4 a4 (.tup [.str "star"])) a4 = some (.tup [.str "star"]) := upd_same
      have da4 : a4 ≠ d := fun e => by
        obtain ⟨o, ho⟩ := hD2.at
        rw [e, ho] at na4
        cases na4
      generalize upd G4 a4 (.tup [.str "star"]) = G5 at sa4 ea4 ⊢
      have hD2 := hD2.same sa4
      have hb := hb.same sa4
      have hp := hp.mono (tupsOf sa4)
      have ea0 := sa4 _ _ ea0
      have ea1 := sa4 _ _ ea1
      have ea2 := sa4 _ _ ea2
      have ea3 := sa4 _ _ ea3
      refine ⟨_, rfl, len63 (by show (1 : Nat) ≤ 100000; decide), fun b5 nb5 => ?_⟩
      have sb5 : Same G5 (upd G5 b5 (.tup [x])) := same_upd nb5
      have eb5 : (upd G5 b5 (.tup [x])) b5 = some (.tup [x]) := upd_same
      have db5 : b5 ≠ d := fun e => by
        obtain ⟨o, ho⟩ := hD2.at
        rw [e, ho] at nb5
        cases nb5
      generalize upd G5 b5 (.tup [x]) = G6 at sb5 eb5 ⊢
      have hD2 := hD2.same sb5
      have hb := hb.same sb5
      have hp := hp.mono (tupsOf sb5)
      have ea0 := sb5 _ _ ea0
      have ea1 := sb5 _ _ ea1
      have ea2 := sb5 _ _ ea2
      have ea3 := sb5 _ _ ea3
      have ea4 := sb5 _ _ ea4
      refine ⟨len63 (by show (2 : Nat) ≤ 100000; decide), fun a5 na5 => ?_⟩
      have sa5 : Same G6 (upd G6 a5 (.tup [.str "either", .ref b5])) := same_upd na5
      have ea5 : (upd G6 a5 (.tup [.str "either", .ref b5])) a5 = some (.tup [.str "either", .ref b5]) := upd_same
      have da5 : a5 ≠ d := fun e => by
        obtain ⟨o, ho⟩ := hD2.at
        rw [e, ho] at na5
        cases na5
      generalize upd G6 a5 (.tup [.str "either", .ref b5]) = G7 at sa5 ea5 ⊢
      have hD2 := hD2.same sa5
      have hb := hb.same sa5
      have hp := hp.mono (tupsOf sa5)
      have ea0 := sa5 _ _ ea0
      have ea1 := sa5 _ _ ea1
      have ea2 := sa5 _ _ ea2
      have ea3 := sa5 _ _ ea3
      have ea4 := sa5 _ _ ea4
      have eb5 := sa5 _ _ eb5
      refine ⟨len63 (by show (0 : Nat) ≤ 100000; decide), fun b6 nb6 => ?_⟩
      have sb6 : Same G7 (upd G7 b6 (.tup [])) := same_upd nb6
      have eb6 : (upd G7 b6 (.tup [])) b6 = some (.tup []) := upd_same
      have db6 : b6 ≠ d := fun e => by
        obtain ⟨o, ho⟩ := hD2.at
        rw [e, ho] at nb6
        cases nb6
      generalize upd G7 b6 (.tup []) = G8 at sb6 eb6 ⊢
      have hD2 := hD2.same sb6
      have hb := hb.same sb6
      have hp := hp.mono (tupsOf sb6)
      have ea0 := sb6 _ _ ea0
      have ea1 := sb6 _ _ ea1
      have ea2 := sb6 _ _ ea2
      have ea3 := sb6 _ _ ea3
      have ea4 := sb6 _ _ ea4
      have eb5 := sb6 _ _ eb5
      have ea5 := sb6 _ _ ea5
      refine ⟨len63 (by show (2 : Nat) ≤ 100000; decide), fun a6 na6 => ?_⟩
      have sa6 : Same G8 (upd G8 a6 (.tup [.str "either", .ref b6])) := same_upd na6
      have ea6 : (upd G8 a6 (.tup [.str "either", .ref b6])) a6 = some (.tup [.str "either", .ref b6]) := upd_same
      have da6 : a6 ≠ d := fun e => by
        obtain ⟨o, ho⟩ := hD2.at
        rw [e, ho] at na6
        cases na6
      generalize upd G8 a6 (.tup [.str "either", .ref b6]) = G9 at sa6 ea6 ⊢
      have hD2 := hD2.same sa6
      have hb := hb.same sa6
      have hp := hp.mono (tupsOf sa6)
      have ea0 := sa6 _ _ ea0
      have ea1 := sa6 _ _ ea1
      have ea2 := sa6 _ _ ea2
      have ea3 := sa6 _ _ ea3
      have ea4 := sa6 _ _ ea4
      have eb5 := sa6 _ _ eb5
      have ea5 := sa6 _ _ ea5
      have eb6 := sa6 _ _ eb6
      refine ⟨_, rfl, len63 (by show (1 : Nat) ≤ 100000; decide), fun b7 nb7 => ?_⟩
      have sb7 : Same G9 (upd G9 b7 (.lst [x])) := same_upd nb7
      have eb7 : (upd G9 b7 (.lst [x])) b7 = some (.lst [x]) := upd_same
      have db7 : b7 ≠ d := fun e => by
        obtain ⟨o, ho⟩ := hD2.at
        rw [e, ho] at nb7
        cases nb7
      generalize upd G9 b7 (.lst [x]) = G10 at sb7 eb7 ⊢
      have hD2 := hD2.same sb7
      have hb := hb.same sb7
      have hp := hp.mono (tupsOf sb7)
      have ea0 := sb7 _ _ ea0
      have ea1 := sb7 _ _ ea1
      have ea2 := sb7 _ _ ea2
      have ea3 := sb7 _ _ ea3
      have ea4 := sb7 _ _ ea4
      have eb5 := sb7 _ _ eb5
      have ea5 := sb7 _ _ ea5
      have eb6 := sb7 _ _ eb6
      have ea6 := sb7 _ _ ea6
      refine ⟨len63 (by show (2 : Nat) ≤ 100000; decide), fun a7 na7 => ?_⟩
      have sa7 : Same G10 (upd G10 a7 (.tup [.str "row", .ref b7])) := same_upd na7
      have ea7 : (upd G10 a7 (.tup [.str "row", .ref b7])) a7 = some (.tup [.str "row", .ref b7]) := upd_same
      have da7 : a7 ≠ d := fun e => by
        obtain ⟨o, ho⟩ := hD2.at
        rw [e, ho] at na7
        cases na7
      generalize upd G10 a7 (.tup [.str "row", .ref b7]) = G11 at sa7 ea7 ⊢
      have hD2 := hD2.same sa7
      have hb := hb.same sa7
      have hp := hp.mono (tupsOf sa7)
      have ea0 := sa7 _ _ ea0
      have ea1 := sa7 _ _ ea1
      have ea2 := sa7 _ _ ea2
      have ea3 := sa7 _ _ ea3
      have ea4 := sa7 _ _ ea4
      have eb5 := sa7 _ _ eb5
      have ea5 := sa7 _ _ ea5
      have eb6 := sa7 _ _ eb6
      have ea6 := sa7 _ _ ea6
      have eb7 := sa7 _ _ eb7
      refine ⟨len63 (by show (1 : Nat) ≤ 100000; decide), fun a8 na8 => ?_⟩
      have sa8 : Same G11 (upd G11 a8 (.lst [.str "any"])) := same_upd na8
      have ea8 : (upd G11 a8 (.lst [.str "any"])) a8 = some (.lst [.str "any"]) := upd_same
      have da8 : a8 ≠ d := fun e => by
        obtain ⟨o, ho⟩ := hD2.at
        rw [e, ho] at na8
        cases na8
      generalize upd G11 a8 (.lst [.str "any"]) = G12 at sa8 ea8 ⊢
      have hD2 := hD2.same sa8
      have hb := hb.same sa8
      have hp := hp.mono (tupsOf sa8)
      have ea0 := sa8 _ _ ea0
      have ea1 := sa8 _ _ ea1
      have ea2 := sa8 _ _ ea2
      have ea3 := sa8 _ _ ea3
      have ea4 := sa8 _ _ ea4
      have eb5 := sa8 _ _ eb5
      have ea5 := sa8 _ _ ea5
      have eb6 := sa8 _ _ eb6
      have ea6 := sa8 _ _ ea6
      have eb7 := sa8 _ _ eb7
      have ea7 := sa8 _ _ ea7
      refine ⟨_, rfl, len63 (by show (2 : Nat) ≤ 100000; decide), fun a9 na9 => ?_⟩
      have sa9 : Same G12 (upd G12 a9 (.tup [.str "most", x])) := same_upd na9
      have ea9 : (upd G12 a9 (.tup [.str "most", x])) a9 = some (.tup [.str "most", x]) := upd_same
      have da9 : a9 ≠ d := fun e => by
        obtain ⟨o, ho⟩ := hD2.at
        rw [e, ho] at na9
        cases na9
      generalize upd G12 a9 (.tup [.str "most", x]) = G13 at sa9 ea9 ⊢
      have hD2 := hD2.same sa9
      have hb := hb.same sa9
      have hp := hp.mono (tupsOf sa9)
      have ea0 := sa9 _ _ ea0
      have ea1 := sa9 _ _ ea1
      have ea2 := sa9 _ _ ea2
      have ea3 := sa9 _ _ ea3
      have ea4 := sa9 _ _ ea4
      have eb5 := sa9 _ _ eb5
      have ea5 := sa9 _ _ ea5
      have eb6 := sa9 _ _ eb6
      have ea6 := sa9 _ _ ea6
      have eb7 := sa9 _ _ eb7
      have ea7 := sa9 _ _ ea7
      have ea8 := sa9 _ _ ea8
      refine ⟨len63 (by show (0 : Nat) ≤ 100000; decide), fun a10 na10 => ?_⟩
      have sa10 : Same G13 (upd G13 a10 (.tup [])) := same_upd na10
      have ea10 : (upd G13 a10 (.tup [])) a10 = some (.tup []) := upd_same
      have da10 : a10 ≠ d := fun e => by
        obtain ⟨o, ho⟩ := hD2.at
        rw [e, ho] at na10
        cases na10
      generalize upd G13 a10 (.tup []) = G14 at sa10 ea10 ⊢
      have hD2 := hD2.same sa10
      have hb := hb.same sa10
      have hp := hp.mono (tupsOf sa10)
      have ea0 := sa10 _ _ ea0
      have ea1 := sa10 _ _ ea1
      have ea2 := sa10 _ _ ea2
      have ea3 := sa10 _ _ ea3
      have ea4 := sa10 _ _ ea4
      have eb5 := sa10 _ _ eb5
      have ea5 := sa10 _ _ ea5
      have eb6 := sa10 _ _ eb6
      have ea6 := sa10 _ _ ea6
      have eb7 := sa10 _ _ eb7
      have ea7 := sa10 _ _ ea7
      have ea8 := sa10 _ _ ea8
      have ea9 := sa10 _ _ ea9
      refine ⟨_, rfl, len63 (by show (2 : Nat) ≤ 100000; decide), fun b11 nb11 => ?_⟩
      have sb11 : Same G14 (upd G14 b11 (.tup [x, .non])) := same_upd nb11
      have eb11 : (upd G14 b11 (.tup [x, .non])) b11 = some (.tup [x, .non]) := upd_same
      have db11 : b11 ≠ d := fun e => by
        obtain ⟨o, ho⟩ := hD2.at
        rw [e, ho] at nb11
        cases nb11
      generalize upd G14 b11 (.tup [x, .non]) = G15 at sb11 eb11 ⊢
      have hD2 := hD2.same sb11
      have hb := hb.same sb11
      have hp := hp.mono (tupsOf sb11)
      have ea0 := sb11 _ _ ea0
      have ea1 := sb11 _ _ ea1
      have ea2 := sb11 _ _ ea2
      have ea3 := sb11 _ _ ea3
      have ea4 := sb11 _ _ ea4
      have eb5 := sb11 _ _ eb5
      have ea5 := sb11 _ _ ea5
      have eb6 := sb11 _ _ eb6
      have ea6 := sb11 _ _ ea6
      have eb7 := sb11 _ _ eb7
      have ea7 := sb11 _ _ ea7
      have ea8 := sb11 _ _ ea8
      have ea9 := sb11 _ _ ea9
      have ea10 := sb11 _ _ ea10
      refine ⟨len63 (by show (2 : Nat) ≤ 100000; decide), fun a11 na11 => ?_⟩
      have sa11 : Same G15 (upd G15 a11 (.tup [.str "row", .ref b11])) := same_upd na11
      have ea11 : (upd G15 a11 (.tup [.str "row", .ref b11])) a11 = some (.tup [.str "row", .ref b11]) := upd_same
      have da11 : a11 ≠ d := fun e => by
        obtain ⟨o, ho⟩ := hD2.at
        rw [e, ho] at na11
        cases na11
      generalize upd G15 a11 (.tup [.str "row", .ref b11]) = G16 at sa11 ea11 ⊢
      have hD2 := hD2.same sa11
      have hb := hb.same sa11
      have hp := hp.mono (tupsOf sa11)
      have ea0 := sa11 _ _ ea0
      have ea1 := sa11 _ _ ea1
      have ea2 := sa11 _ _ ea2
      have ea3 := sa11 _ _ ea3
      have ea4 := sa11 _ _ ea4
      have eb5 := sa11 _ _ eb5
      have ea5 := sa11 _ _ ea5
      have eb6 := sa11 _ _ eb6
      have ea6 := sa11 _ _ ea6
      have eb7 := sa11 _ _ eb7
      have ea7 := sa11 _ _ ea7
      have ea8 := sa11 _ _ ea8
      have ea9 := sa11 _ _ ea9
      have ea10 := sa11 _ _ ea10
      have eb11 := sa11 _ _ eb11
      refine ⟨len63 (by show (12 : Nat) ≤ 100000; decide), fun L nL => ?_⟩
      have sL : Same G16 (upd G16 L (.lst [.ref a0, .ref a1, .ref a2, .ref a3, .ref a4, .ref a5, .ref a6, .ref a7, .ref a8, .ref a9, .ref a10, .ref a11])) := same_upd nL
      have eL : (upd G16 L (.lst [.ref a0, .ref a1, .ref a2, .ref a3, .ref a4, .ref a5, .ref a6, .ref a7, .ref a8, .ref a9, .ref a10, .ref a11])) L = some (.lst [.ref a0, .ref a1, .ref a2, .ref a3, .ref a4, .ref a5, .ref a6, .ref a7, .ref a8, .ref a9, .ref a10, .ref a11]) := upd_same
      have dL : L ≠ d := fun e => by
        obtain ⟨o, ho⟩ := hD2.at
        rw [e, ho] at nL
        cases nL
      generalize upd G16 L (.lst [.ref a0, .ref a1, .ref a2, .ref a3, .ref a4, .ref a5, .ref a6, .ref a7, .ref a8, .ref a9, .ref a10, .ref a11]) = G17 at sL eL ⊢
      have hD2 := hD2.same sL
      have hb := hb.same sL
      have hp := hp.mono (tupsOf sL)
      have ea0 := sL _ _ ea0
      have ea1 := sL _ _ ea1
      have ea2 := sL _ _ ea2
      have ea3 := sL _ _ ea3
      have ea4 := sL _ _ ea4
      have eb5 := sL _ _ eb5
      have ea5 := sL _ _ ea5
      have eb6 := sL _ _ eb6
      have ea6 := sL _ _ ea6
      have eb7 := sL _ _ eb7
      have ea7 := sL _ _ ea7
      have ea8 := sL _ _ ea8
      have ea9 := sL _ _ ea9
      have ea10 := sL _ _ ea10
      have eb11 := sL _ _ eb11
      have ea11 := sL _ _ ea11
      have hk : kd = 0 ∨ kd = 1 ∨ kd = 2 ∨ kd = 3 ∨ kd = 4 ∨ kd = 5 ∨ kd = 6 ∨ kd = 7 ∨ kd = 8 ∨ kd = 9 ∨ kd = 10 ∨ kd = 11 := by omega
      refine ⟨_, rfl, ?_⟩
      rcases hk with rfl | rfl | rfl | rfl | rfl | rfl | rfl | rfl | rfl | rfl | rfl | rfl
      · exact ⟨L, _, _, .ref a0, rfl, rfl, .inl (.inl eL), rfl, .ref a0, rfl, hb, hD2, hp, fun n hn => .nm ea0 (.inl rfl) (.inl ⟨[65], by decide +kernel, by decide, by decide +kernel⟩)⟩
      · exact ⟨L, _, _, .ref a1, rfl, rfl, .inl (.inl eL), rfl, .ref a1, rfl, hb, hD2, hp, fun n hn => .nm ea1 (.inl rfl) (.inl ⟨[115, 116, 97, 114, 116], by decide +kernel, by decide, by decide +kernel⟩)⟩
      · exact ⟨L, _, _, .ref a2, rfl, rfl, .inl (.inl eL), rfl, .ref a2, rfl, hb, hD2, hp, fun n hn => .nm ea2 (.inr rfl) (.inr ⟨7, rfl⟩)⟩
      · exact ⟨L, _, _, .ref a3, rfl, rfl, .inl (.inl eL), rfl, .ref a3, rfl, hb, hD2, hp, fun n hn => .kind ea3 (by unfold Naming; decide +kernel) (by unfold Repd; decide +kernel) (by unfold Sev; decide +kernel)⟩
      · exact ⟨L, _, _, .ref a4, rfl, rfl, .inl (.inl eL), rfl, .ref a4, rfl, hb, hD2, hp, fun n hn => .one ea4 (by decide +kernel)⟩
      · exact ⟨L, _, _, .ref a5, rfl, rfl, .inl (.inl eL), rfl, .ref a5, rfl, hb, hD2, hp, fun n hn => .few ea5 eb5 (by show 1 < 2; decide)⟩
      · exact ⟨L, _, _, .ref a6, rfl, rfl, .inl (.inl eL), rfl, .ref a6, rfl, hb, hD2, hp, fun n hn => .few ea6 eb6 (by show 0 < 2; decide)⟩
      · exact ⟨L, _, _, .ref a7, rfl, rfl, .inl (.inl eL), rfl, .ref a7, rfl, hb, hD2, hp, fun n hn => .sevL ea7 (.inl rfl) (.inr (.inr ⟨b7, _, rfl, db7, eb7⟩))⟩
      · exact ⟨L, _, _, .ref a8, rfl, rfl, .inl (.inl eL), rfl, .ref a8, rfl, hb, hD2, hp, fun n hn => .leaf (.inr (.inr ⟨a8, _, rfl, da8, ea8⟩))⟩
      · exact ⟨L, _, _, .ref a9, rfl, rfl, .inl (.inl eL), rfl, .ref a9, rfl, hb, hD2, hp, fun n hn => .kind ea9 (by unfold Naming; decide +kernel) (by unfold Repd; decide +kernel) (by unfold Sev; decide +kernel)⟩
      · exact ⟨L, _, _, .ref a10, rfl, rfl, .inl (.inl eL), rfl, .ref a10, rfl, hb, hD2, hp, fun n hn => .none ea10⟩
      · exact ⟨L, _, _, .ref a11, rfl, rfl, .inl (.inl eL), rfl, .ref a11, rfl, hb, hD2, hp, fun n hn => match n, hn with | n + 1, hn => .snd ea11 (.inl rfl) eb11 (hp.up n (by omega)) (.leaf (.inl rfl))⟩
    · rintro σ' H2 ⟨y, rfl, hb, hD2, hp, hw⟩
      refine ⟨_, rfl, _, rfl, len63 (by show (2 : Nat) ≤ 100000; decide), fun a1 na1 => ?_⟩
      have sa1 : Same H2 (upd H2 a1 (.tup [.str "star", y])) := same_upd na1
      have ea1 : (upd H2 a1 (.tup [.str "star", y])) a1 = some (.tup [.str "star", y]) := upd_same
      have da1 : a1 ≠ d := fun e => by
        obtain ⟨o, ho⟩ := hD2.at
        rw [e, ho] at na1
        cases na1
      generalize upd H2 a1 (.tup [.str "star", y]) = J1 at sa1 ea1 ⊢
      have hD2 := hD2.same sa1
      have hb := hb.same sa1
      have hp := hp.mono (tupsOf sa1)
      have hw := fun n hn => (hw n hn).mono (tupsOf sa1) (lstsOf sa1)
      refine ⟨_, rfl, _, rfl, len63 (by show (2 : Nat) ≤ 100000; decide), fun b2 nb2 => ?_⟩
      have sb2 : Same J1 (upd J1 b2 (.tup [x, y])) := same_upd nb2
      have eb2 : (upd J1 b2 (.tup [x, y])) b2 = some (.tup [x, y]) := upd_same
      have db2 : b2 ≠ d := fun e => by
        obtain ⟨o, ho⟩ := hD2.at
        rw [e, ho] at nb2
        cases nb2
      generalize upd J1 b2 (.tup [x, y]) = J2 at sb2 eb2 ⊢
      have hD2 := hD2.same sb2
      have hb := hb.same sb2
      have hp := hp.mono (tupsOf sb2)
      have hw := fun n hn => (hw n hn).mono (tupsOf sb2) (lstsOf sb2)
      have ea1 := sb2 _ _ ea1
      refine ⟨len63 (by show (2 : Nat) ≤ 100000; decide), fun a2 na2 => ?_⟩
      have sa2 : Same J2 (upd J2 a2 (.tup [.str "row", .ref b2])) := same_upd na2
      have ea2 : (upd J2 a2 (.tup [.str "row", .ref b2])) a2 = some (.tup [.str "row", .ref b2]) := upd_same
      have da2 : a2 ≠ d := fun e => by
        obtain ⟨o, ho⟩ := hD2.at
        rw [e, ho] at na2
        cases na2
      generalize upd J2 a2 (.tup [.str "row", .ref b2]) = J3 at sa2 ea2 ⊢
      have hD2 := hD2.same sa2
      have hb := hb.same sa2
      have hp := hp.mono (tupsOf sa2)
      have hw := fun n hn => (hw n hn).mono (tupsOf sa2) (lstsOf sa2)
      have ea1 := sa2 _ _ ea1
      have eb2 := sa2 _ _ eb2
      refine ⟨_, rfl, _, rfl, len63 (by show (2 : Nat) ≤ 100000; decide), fun b3 nb3 => ?_⟩
      have sb3 : Same J3 (upd J3 b3 (.tup [y, x])) := same_upd nb3
      have eb3 : (upd J3 b3 (.tup [y, x])) b3 = some (.tup [y, x]) := upd_same
      have db3 : b3 ≠ d := fun e => by
        obtain ⟨o, ho⟩ := hD2.at
        rw [e, ho] at nb3
        cases nb3
      generalize upd J3 b3 (.tup [y, x]) = J4 at sb3 eb3 ⊢
      have hD2 := hD2.same sb3
      have hb := hb.same sb3
      have hp := hp.mono (tupsOf sb3)
      have hw := fun n hn => (hw n hn).mono (tupsOf sb3) (lstsOf sb3)
      have ea1 := sb3 _ _ ea1
      have eb2 := sb3 _ _ eb2
      have ea2 := sb3 _ _ ea2
      refine ⟨len63 (by show (2 : Nat) ≤ 100000; decide), fun a3 na3 => ?_⟩
      have sa3 : Same J4 (upd J4 a3 (.tup [.str "either", .ref b3])) := same_upd na3
      have ea3 : (upd J4 a3 (.tup [.str "either", .ref b3])) a3 = some (.tup [.str "either", .ref b3]) := upd_same
      have da3 : a3 ≠ d := fun e => by
        obtain ⟨o, ho⟩ := hD2.at
        rw [e, ho] at na3
        cases na3
      generalize upd J4 a3 (.tup [.str "either", .ref b3]) = J5 at sa3 ea3 ⊢
      have hD2 := hD2.same sa3
      have hb := hb.same sa3
      have hp := hp.mono (tupsOf sa3)
      have hw := fun n hn => (hw n hn).mono (tupsOf sa3) (lstsOf sa3)
      have ea1 := sa3 _ _ ea1
      have eb2 := sa3 _ _ eb2
      have ea2 := sa3 _ _ ea2
      have eb3 := sa3 _ _ eb3
      refine ⟨len63 (by show (4 : Nat) ≤ 100000; decide), fun L nL => ?_⟩
      have sL : Same J5 (upd J5 L (.lst [y, .ref a1, .ref a2, .ref a3])) := same_upd nL
      have eL : (upd J5 L (.lst [y, .ref a1, .ref a2, .ref a3])) L = some (.lst [y, .ref a1, .ref a2, .ref a3]) := upd_same
      have dL : L ≠ d := fun e => by
        obtain ⟨o, ho⟩ := hD2.at
        rw [e, ho] at nL
        cases nL
      generalize upd J5 L (.lst [y, .ref a1, .ref a2, .ref a3]) = J6 at sL eL ⊢
      have hD2 := hD2.same sL
      have hb := hb.same sL
      have hp := hp.mono (tupsOf sL)
      have hw := fun n hn => (hw n hn).mono (tupsOf sL) (lstsOf sL)
      have ea1 := sL _ _ ea1
      have eb2 := sL _ _ eb2
      have ea2 := sL _ _ ea2
      have eb3 := sL _ _ eb3
      have ea3 := sL _ _ ea3
      refine ⟨_, rfl, d, l, n + 1, 4, rfl, hD2, by omega, by decide, fun r H3 r0 r1 bu3 hD3 => ?_⟩
      have T := butTups bu3 hD2
      have Ls := butLsts bu3
      have eL := bu3 _ _ dL eL
      have q' := fun y h => q y H3 (hb.trans bu3) hD3 h
      have hk : r = 0 ∨ r = 1 ∨ r = 2 ∨ r = 3 := by omega
      rcases hk with rfl | rfl | rfl | rfl
      · exact ⟨L, _, _, _, rfl, rfl, .inl (.inl eL), rfl, q' _ ((hw 20 (by decide)).mono T Ls)⟩
      · exact ⟨L, _, _, _, rfl, rfl, .inl (.inl eL), rfl, q' _ ((NoPat.rep (n := 19) ea1 (.inl rfl) (hw 19 (by decide))).mono T Ls)⟩
      · exact ⟨L, _, _, _, rfl, rfl, .inl (.inl eL), rfl, q' _ ((NoPat.snd (n := 19) ea2 (.inl rfl) eb2 (hp.up 19 (by decide)) (hw 19 (by decide))).mono T Ls)⟩
      · exact ⟨L, _, _, _, rfl, rfl, .inl (.inl eL), rfl, q' _ ((NoPat.fst (n := 19) ea3 (.inr rfl) eb3 (hw 19 (by decide))).mono T Ls)⟩

def spIsP : Sp := fun vs H Q _ => ∃ (d : Addr) (x : V), vs = [x] ∧ ((Pat H 20 x ∧ ∀ H', Same H H' → Q (.bl true) H') ∨ (NoPat d H 20 x ∧ ∀ H', Same H H' → Q (.bl false) H'))
theorem ok_isp {f fP : Addr} {fd fdP : FuncData} {k : Nat} {t1 : Tok} (F : Fun K "is_pattern" "is_pattern" sIsPattern f fd)
    (FP : Fun K "_is_pattern" "_is_pattern" sUIsPattern fP fdP) (bP : Binds K fdP ["thing", "depth"] []) (gP : mg "_is_pattern" = some (.ref fP)) (GP : FnOk P w K mg base CX0 k fP fdP ["thing", "depth"] (spPat 20)) (mD : mg "DEEPEST" = some (.int 20 t1)) :
    FnOk P w K mg base CX0 (k + 1) f fd ["thing"] spIsP := by
  refine F.ok scIsPattern (fun vs H Q E h => ?_) (fun cdv A outer s H vs Q E hr h => ?_)
  · obtain ⟨d, x, rfl, _⟩ := h
    rfl
  · obtain ⟨d, x, rfl, h⟩ := h
    refine ⟨_, pss_one (ps_ret (pe_call GP hr (by rfl) gP FP.kp bP .nil pass0 (pa_cons (pv 0) (pa_cons (pe_glob (v := .int 20) (by rfl) mD ⟨_, rfl⟩) pa_nil)))), ?_⟩
    exact ⟨_, rfl, d, x, 20, rfl, Nat.le_refl _, h⟩
def spLaw (K : PySem.W.Frag) : Sp := fun vs H Q _ => ∃ (a : Addr) (ns : List Int), vs = [.ref a] ∧ SqL K H a (ns.map V.int) ∧ ns.length ≤ 63 ∧ ∀ H', Q (.bl true) H'
theorem cut63 (ns : List Int) (h : ns.length ≤ 63) : cutV (ns.map V.int) none (some 63) = ns.map V.int := by
  unfold cutV
  rw [HT.sIx_none]
  have e : HT.sIx (ns.map V.int).length (ns.map V.int).length (some 63) = min 63 (ns.map V.int).length := HT.sIx_nat _ _ 63
  rw [e, List.length_map, List.drop_zero, Nat.sub_zero, Nat.min_eq_right h]
  exact List.take_of_length_le (by rw [List.length_map]; exact Nat.le_refl _)
theorem nms3 : NmsOk [.str "x", .str "y_1", .str "other"] := by
  refine ⟨by show 0 < 3; decide, by show 3 ≤ 1000; decide, fun x hx => ?_⟩
  rcases List.mem_cons.mp hx with rfl | hx
  · exact ⟨[120], by decide +kernel, by decide, by decide +kernel⟩
  rcases List.mem_cons.mp hx with rfl | hx
  · exact ⟨[121, 95, 49], by decide +kernel, by decide, by decide +kernel⟩
  rcases List.mem_cons.mp hx with rfl | hx
  · exact ⟨[111, 116, 104, 101, 114], by decide +kernel, by decide, by decide +kernel⟩
  cases hx
theorem neFb {b : Bool} : V.bl (!decide (V.bl b = V.bl b)) = V.bl false := by rw [decide_eq_true (rfl : V.bl b = V.bl b)]; rfl
theorem ok_law {f fL fI fB fT : Addr} {fd fdL fdI fdB fdT : FuncData} {k : Nat} (F : Fun K "law" "law" sLaw f fd)
    (FL : Fun K "_law_pattern" "_law_pattern" sLPattern fL fdL) (bL : Binds K fdL ["draw", "names", "room", "deep"] []) (gL : mg "_law_pattern" = some (.ref fL)) (GL : FnOk P w K mg base CX0 k fL fdL ["draw", "names", "room", "deep"] (spLPat 3))
    (FI : Fun K "is_pattern" "is_pattern" sIsPattern fI fdI) (bI : Binds K fdI ["thing"] []) (gI : mg "is_pattern" = some (.ref fI)) (GI : FnOk P w K mg base CX0 k fI fdI ["thing"] spIsP)
    (FB : Fun K "_law_bent" "_law_bent" sLBent fB fdB) (bB : Binds K fdB ["draw", "pattern"] []) (gB : mg "_law_bent" = some (.ref fB)) (GB : FnOk P w K mg base CX0 k fB fdB ["draw", "pattern"] spBent)
    (FT : Fun K "_law_next" "_law_next" sNext fT fdT) (bT : Binds K fdT ["draw", "bound"] []) (gT : mg "_law_next" = some (.ref fT)) (GT : FnOk P w K mg base CX0 k fT fdT ["draw", "bound"] (spNext K)) (mr : mg "range" = none) :
    FnOk P w K mg base CX0 (k + 1) f fd ["script"] (spLaw K) := by
  refine F.ok scLaw (fun vs H Q E h => ?_) (fun cdv A outer s H vs Q E hr h => ?_)
  · obtain ⟨a, ns, rfl, _⟩ := h
    rfl
  · obtain ⟨a, ns, rfl, hS, hlen, q⟩ := h
    refine ⟨_, pss_cons (ps_set (i := 1) scLaw.nd rfl (.inl rfl) (pe_lst (pa_cons (pe_slice sl_list (pv 0) po_none (po_some pe_int)) (pa_cons pe_int (pa_cons pe_int pa_nil)))))
      (pss_cons (ps_set (i := 2) scLaw.nd rfl (.inl rfl) (pe_call GL hr (by rfl) gL FL.kp bL .nil pass0 (pa_cons (pv 1) (pa_cons (pe_lst (pa_cons pe_str (pa_cons pe_str (pa_cons pe_str pa_nil)))) (pa_cons (pe_lst (pa_cons pe_int pa_nil)) (pa_cons pe_int pa_nil))))))
      (pss_cons (ps_if (PW.pt (pw_or (pt_not (pt_val (pe_call GI hr (by rfl) gI FI.kp bI .nil pass0 (pa_cons (pv 2) pa_nil)))) (pw_or1 (pt_val (pe_call GI hr (by rfl) gI FI.kp bI .nil pass0 (pa_cons (pe_call GB hr (by rfl) gB FB.kp bB .nil pass0 (pa_cons (pv 1) (pa_cons (pv 2) pa_nil))) pa_nil)))))) (pss_one (ps_ret pe_bl)) pss_nil)
      (pss_cons (ps_set (i := 3) scLaw.nd rfl (.inl rfl) (pe_op op_add pe_int (pe_call GT hr (by rfl) gT FT.kp bT .nil pass0 (pa_cons (pv 1) (pa_cons pe_int pa_nil)))))
      (pss_cons (ps_set (i := 4) scLaw.nd rfl (.inl rfl) (pe_tup (pa_cons pe_str (pa_cons pe_str pa_nil))))
      (pss_cons (ps_for PassesOwn.never rfl (pi_range1 (by rfl) mr (pa_cons (pv 3) pa_nil)) (pg_name (i := 5) scLaw.nd rfl (.inl rfl))
        (pss_one (ps_set (i := 4) scLaw.nd rfl (.inl rfl) (pe_ix ix_list (pe_lst (pa_cons (pe_tup (pa_cons pe_str (pa_cons (pv 4) pa_nil))) (pa_cons (pe_tup (pa_cons pe_str (pa_cons (pe_tup (pa_cons (pe_tup (pa_cons pe_str pa_nil)) (pa_cons (pv 4) pa_nil))) pa_nil))) (pa_cons (pe_tup (pa_cons pe_str (pa_cons (pe_tup (pa_cons (pv 4) (pa_cons (pe_tup (pa_cons pe_str pa_nil)) pa_nil))) pa_nil))) (pa_cons (pe_tup (pa_cons pe_str (pa_cons (pv 4) pa_nil))) (pa_cons (pe_tup (pa_cons pe_str (pa_cons (pv 4) pa_nil))) pa_nil)))))) (pe_call GT hr (by rfl) gT FT.kp bT .nil pass0 (pa_cons (pv 1) (pa_cons pe_int pa_nil))) (fun _ _ => rfl)))))
      (pss_cons (ps_if (pt_cmpR op_ne (pe_call GI hr (by rfl) gI FI.kp bI .nil pass0 (pa_cons (pv 4) pa_nil)) (pe_cmpR op_le (pv 3) pe_int (nomark _)) (nomark _)) (pss_one (ps_ret pe_bl)) pss_nil)
      (pss_one (ps_ret (pe_and (pe_not (pe_call GI hr (by rfl) gI FI.kp bI .nil pass0 (pa_cons pe_non pa_nil))) (pe_and (pe_not (pe_call GI hr (by rfl) gI FI.kp bI .nil pass0 (pa_cons pe_str pa_nil))) (pe_and (pe_call GI hr (by rfl) gI FI.kp bI .nil pass0 (pa_cons (pe_tup (pa_cons pe_str pa_nil)) pa_nil)) (pe_one (pe_call GI hr (by rfl) gI FI.kp bI .nil pass0 (pa_cons (pe_tup (pa_cons pe_str (pa_cons (pe_tup pa_nil) pa_nil))) pa_nil)))))))))))))), ?_⟩
    -- draw
    refine ⟨_, rfl, 63, rfl, a, _, rfl, hS, fun l nl => ⟨len63 (by show (3 : Nat) ≤ 100000; decide), fun d nd => ?_⟩⟩
    rw [cut63 ns hlen] at nd ⊢
    have hld : l ≠ d := fun e => by
      rw [← e, upd_same] at nd
      cases nd
    have hD0 : Dr d l 0 (upd (upd H l (.lst (ns.map V.int))) d (.lst [.ref l, .int 0, .int 0])) := ⟨hld, upd_same, ns, by rw [upd_ne hld, upd_same], hlen⟩
    generalize (upd (upd H l (.lst (ns.map V.int))) d (.lst [.ref l, .int 0, .int 0])) = H0 at hD0 ⊢
    -- pattern
    refine ⟨_, rfl, len63 (by show (3 : Nat) ≤ 100000; decide), fun t nt => ?_⟩
    have st := same_upd (o := .lst [.str "x", .str "y_1", .str "other"]) nt
    have htd := hD0.newD nt
    have et : (upd H0 t (.lst [.str "x", .str "y_1", .str "other"])) t = some (.lst [.str "x", .str "y_1", .str "other"]) := upd_same
    have hD1 := hD0.same st
    generalize upd H0 t (.lst [.str "x", .str "y_1", .str "other"]) = H1 at st et hD1 ⊢
    refine ⟨len63 (by show (1 : Nat) ≤ 100000; decide), fun r nr => ?_⟩
    have sr := same_upd (o := .lst [.int 7]) nr
    refine ⟨d, l, t, r, 0, 3, 7, _, rfl, Nat.le_refl _, hD1.same sr, by decide, htd, hD1.newD nr, hD1.newL nr, (fun e => by rw [← e, et] at nr; cases nr), sr _ _ et, nms3, upd_same, fun p H2 n2 z2 hn2 _ hD2 _ hp => ?_⟩
    have hB3 : Bm 3 = 90 := by decide
    -- if not is_pattern(pattern) or ..
    refine ⟨_, rfl, d, p, rfl, .inl ⟨hp.up 20 (by decide), fun H3 s3 => ⟨true, rfl, iteF ?_⟩⟩⟩
    refine ⟨_, rfl, _, rfl, d, l, n2, p, rfl, hD2.same s3, by omega, hp.mono (tupsOf s3), fun y H4 bu4 hD4 hy => ?_⟩
    refine ⟨d, y, rfl, .inr ⟨hy, fun H5 s5 => ⟨false, rfl, iteF ?_⟩⟩⟩
    -- many
    refine ⟨_, rfl, d, l, n2 + 2, 8, rfl, hD4.same s5, by omega, by decide, fun rr H6 r00 r01 bu6 hD6 => ⟨_, _, rfl, rfl, ?_⟩⟩
    -- deep
    refine ⟨len63 (by show (2 : Nat) ≤ 100000; decide), fun p0 np0 => ?_⟩
    have s6 := same_upd (o := .tup [.str "class", .str "x"]) np0
    have hD7 := hD6.same s6
    have hdp0 : Deep d (upd H6 p0 (.tup [.str "class", .str "x"])) 0 (.ref p0) := fun n => ⟨fun _ => .nm upd_same (.inl rfl) ⟨[120], by decide +kernel, by decide, by decide +kernel⟩, fun z => absurd z (Nat.not_lt_zero _)⟩
    generalize upd H6 p0 (.tup [.str "class", .str "x"]) = H7 at hD7 hdp0 ⊢
    refine ⟨_, rfl, 17 + rr, rfl, by omega, by omega, ?_⟩
    refine for_range (lo := 0) (n := (17 + rr).toNat) (fun i σ H' => ∃ x y, σ = [some (.ref a), some (.ref d), some p, some (.int (17 + rr)), some x, y] ∧ Dr d l (n2 + 3 + i) H' ∧ Deep d H' i x) ⟨_, none, rfl, hD7, hdp0⟩ (fun i σ H5 hi hp => ?_) (fun σ H5 hp => ?_)
    · obtain ⟨x, y, rfl, hD5, hdp⟩ := hp
      clear hp hy hD7 hD6 hD4 hD2 hdp0
      {
        refine ⟨_, rfl, len63 (by show (2 : Nat) ≤ 100000; decide), fun a1 na1 => ?_⟩
        have sa1 : Same H5 (upd H5 a1 (.tup [.str "star", x])) := same_upd na1
        have ea1 : (upd H5 a1 (.tup [.str "star", x])) a1 = some (.tup [.str "star", x]) := upd_same
        have da1 : a1 ≠ d := fun e => by
          obtain ⟨o, ho⟩ := hD5.at
          rw [e, ho] at na1
          cases na1
        generalize upd H5 a1 (.tup [.str "star", x]) = D1 at sa1 ea1 ⊢
        have hD5 := hD5.same sa1
        have hdp := hdp.mono (tupsOf sa1) (lstsOf sa1)
        refine ⟨len63 (by show (1 : Nat) ≤ 100000; decide), fun c2 nc2 => ?_⟩
        have sc2 : Same D1 (upd D1 c2 (.tup [.str "any"])) := same_upd nc2
        have ec2 : (upd D1 c2 (.tup [.str "any"])) c2 = some (.tup [.str "any"]) := upd_same
        have dc2 : c2 ≠ d := fun e => by
          obtain ⟨o, ho⟩ := hD5.at
          rw [e, ho] at nc2
          cases nc2
        generalize upd D1 c2 (.tup [.str "any"]) = D2 at sc2 ec2 ⊢
        have hD5 := hD5.same sc2
        have hdp := hdp.mono (tupsOf sc2) (lstsOf sc2)
        have ea1 := sc2 _ _ ea1
        refine ⟨_, rfl, len63 (by show (2 : Nat) ≤ 100000; decide), fun b2 nb2 => ?_⟩
        have sb2 : Same D2 (upd D2 b2 (.tup [.ref c2, x])) := same_upd nb2
        have eb2 : (upd D2 b2 (.tup [.ref c2, x])) b2 = some (.tup [.ref c2, x]) := upd_same
        have db2 : b2 ≠ d := fun e => by
          obtain ⟨o, ho⟩ := hD5.at
          rw [e, ho] at nb2
          cases nb2
        generalize upd D2 b2 (.tup [.ref c2, x]) = D3 at sb2 eb2 ⊢
        have hD5 := hD5.same sb2
        have hdp := hdp.mono (tupsOf sb2) (lstsOf sb2)
        have ea1 := sb2 _ _ ea1
        have ec2 := sb2 _ _ ec2
        refine ⟨len63 (by show (2 : Nat) ≤ 100000; decide), fun a2 na2 => ?_⟩
        have sa2 : Same D3 (upd D3 a2 (.tup [.str "row", .ref b2])) := same_upd na2
        have ea2 : (upd D3 a2 (.tup [.str "row", .ref b2])) a2 = some (.tup [.str "row", .ref b2]) := upd_same
        have da2 : a2 ≠ d := fun e => by
          obtain ⟨o, ho⟩ := hD5.at
          rw [e, ho] at na2
          cases na2
        generalize upd D3 a2 (.tup [.str "row", .ref b2]) = D4 at sa2 ea2 ⊢
        have hD5 := hD5.same sa2
        have hdp := hdp.mono (tupsOf sa2) (lstsOf sa2)
        have ea1 := sa2 _ _ ea1
        have ec2 := sa2 _ _ ec2
        have eb2 := sa2 _ _ eb2
        refine ⟨_, rfl, len63 (by show (1 : Nat) ≤ 100000; decide), fun c3 nc3 => ?_⟩
        have sc3 : Same D4 (upd D4 c3 (.tup [.str "any"])) := same_upd nc3
        have ec3 : (upd D4 c3 (.tup [.str "any"])) c3 = some (.tup [.str "any"]) := upd_same
        have dc3 : c3 ≠ d := fun e => by
          obtain ⟨o, ho⟩ := hD5.at
          rw [e, ho] at nc3
          cases nc3
        generalize upd D4 c3 (.tup [.str "any"]) = D5 at sc3 ec3 ⊢
        have hD5 := hD5.same sc3
        have hdp := hdp.mono (tupsOf sc3) (lstsOf sc3)
        have ea1 := sc3 _ _ ea1
        have ec2 := sc3 _ _ ec2
        have eb2 := sc3 _ _ eb2
        have ea2 := sc3 _ _ ea2
        refine ⟨len63 (by show (2 : Nat) ≤ 100000; decide), fun b3 nb3 => ?_⟩
        have sb3 : Same D5 (upd D5 b3 (.tup [x, .ref c3])) := same_upd nb3
        have eb3 : (upd D5 b3 (.tup [x, .ref c3])) b3 = some (.tup [x, .ref c3]) := upd_same
        have db3 : b3 ≠ d := fun e => by
          obtain ⟨o, ho⟩ := hD5.at
          rw [e, ho] at nb3
          cases nb3
        generalize upd D5 b3 (.tup [x, .ref c3]) = D6 at sb3 eb3 ⊢
        have hD5 := hD5.same sb3
        have hdp := hdp.mono (tupsOf sb3) (lstsOf sb3)
        have ea1 := sb3 _ _ ea1
        have ec2 := sb3 _ _ ec2
        have eb2 := sb3 _ _ eb2
        have ea2 := sb3 _ _ ea2
        have ec3 := sb3 _ _ ec3
        refine ⟨len63 (by show (2 : Nat) ≤ 100000; decide), fun a3 na3 => ?_⟩
        have sa3 : Same D6 (upd D6 a3 (.tup [.str "either", .ref b3])) := same_upd na3
        have ea3 : (upd D6 a3 (.tup [.str "either", .ref b3])) a3 = some (.tup [.str "either", .ref b3]) := upd_same
        have da3 : a3 ≠ d := fun e => by
          obtain ⟨o, ho⟩ := hD5.at
          rw [e, ho] at na3
          cases na3
        generalize upd D6 a3 (.tup [.str "either", .ref b3]) = D7 at sa3 ea3 ⊢
        have hD5 := hD5.same sa3
        have hdp := hdp.mono (tupsOf sa3) (lstsOf sa3)
        have ea1 := sa3 _ _ ea1
        have ec2 := sa3 _ _ ec2
        have eb2 := sa3 _ _ eb2
        have ea2 := sa3 _ _ ea2
        have ec3 := sa3 _ _ ec3
        have eb3 := sa3 _ _ eb3
        refine ⟨_, rfl, len63 (by show (2 : Nat) ≤ 100000; decide), fun a4 na4 => ?_⟩
        have sa4 : Same D7 (upd D7 a4 (.tup [.str "maybe", x])) := same_upd na4
        have ea4 : (upd D7 a4 (.tup [.str "maybe", x])) a4 = some (.tup [.str "maybe", x]) := upd_same
        have da4 : a4 ≠ d := fun e => by
          obtain ⟨o, ho⟩ := hD5.at
          rw [e, ho] at na4
          cases na4
        generalize upd D7 a4 (.tup [.str "maybe", x]) = D8 at sa4 ea4 ⊢
        have hD5 := hD5.same sa4
        have hdp := hdp.mono (tupsOf sa4) (lstsOf sa4)
        have ea1 := sa4 _ _ ea1
        have ec2 := sa4 _ _ ec2
        have eb2 := sa4 _ _ eb2
        have ea2 := sa4 _ _ ea2
        have ec3 := sa4 _ _ ec3
        have eb3 := sa4 _ _ eb3
        have ea3 := sa4 _ _ ea3
        refine ⟨_, rfl, len63 (by show (2 : Nat) ≤ 100000; decide), fun a5 na5 => ?_⟩
        have sa5 : Same D8 (upd D8 a5 (.tup [.str "plus", x])) := same_upd na5
        have ea5 : (upd D8 a5 (.tup [.str "plus", x])) a5 = some (.tup [.str "plus", x]) := upd_same
        have da5 : a5 ≠ d := fun e => by
          obtain ⟨o, ho⟩ := hD5.at
          rw [e, ho] at na5
          cases na5
        generalize upd D8 a5 (.tup [.str "plus", x]) = D9 at sa5 ea5 ⊢
        have hD5 := hD5.same sa5
        have hdp := hdp.mono (tupsOf sa5) (lstsOf sa5)
        have ea1 := sa5 _ _ ea1
        have ec2 := sa5 _ _ ec2
        have eb2 := sa5 _ _ eb2
        have ea2 := sa5 _ _ ea2
        have ec3 := sa5 _ _ ec3
        have eb3 := sa5 _ _ eb3
        have ea3 := sa5 _ _ ea3
        have ea4 := sa5 _ _ ea4
        refine ⟨len63 (by show (5 : Nat) ≤ 100000; decide), fun L nL => ?_⟩
        have sL : Same D9 (upd D9 L (.lst [.ref a1, .ref a2, .ref a3, .ref a4, .ref a5])) := same_upd nL
        have eL : (upd D9 L (.lst [.ref a1, .ref a2, .ref a3, .ref a4, .ref a5])) L = some (.lst [.ref a1, .ref a2, .ref a3, .ref a4, .ref a5]) := upd_same
        have dL : L ≠ d := fun e => by
          obtain ⟨o, ho⟩ := hD5.at
          rw [e, ho] at nL
          cases nL
        generalize upd D9 L (.lst [.ref a1, .ref a2, .ref a3, .ref a4, .ref a5]) = D10 at sL eL ⊢
        have hD5 := hD5.same sL
        have hdp := hdp.mono (tupsOf sL) (lstsOf sL)
        have ea1 := sL _ _ ea1
        have ec2 := sL _ _ ec2
        have eb2 := sL _ _ eb2
        have ea2 := sL _ _ ea2
        have ec3 := sL _ _ ec3
        have eb3 := sL _ _ eb3
        have ea3 := sL _ _ ea3
        have ea4 := sL _ _ ea4
        have ea5 := sL _ _ ea5

        refine ⟨_, rfl, d, l, n2 + 3 + i, 5, rfl, hD5, by omega, by decide, fun r H6 r0 r1 bu6 hD6 => ?_⟩
        have T := butTups bu6 hD5
        have Ls := butLsts bu6
        have eL := bu6 _ _ dL eL
        have fin : ∀ v, Deep d D10 (i + 1) v → ∃ x y, [some (V.ref a), some (.ref d), some p, some (.int (17 + rr)), some v, some (.int (0 + (i : Int)))] = [some (V.ref a), some (.ref d), some p, some (.int (17 + rr)), some x, y] ∧ Dr d l (n2 + 3 + (i + 1)) H6 ∧ Deep d H6 (i + 1) x := fun v h => ⟨v, _, rfl, hD6, h.mono T Ls⟩
        have hk : r = 0 ∨ r = 1 ∨ r = 2 ∨ r = 3 ∨ r = 4 := by omega
        rcases hk with rfl | rfl | rfl | rfl | rfl
        · exact ⟨L, _, _, _, rfl, rfl, .inl (.inl eL), rfl, fin _ (hdp.rep ea1 (.inl rfl))⟩
        · exact ⟨L, _, _, _, rfl, rfl, .inl (.inl eL), rfl, fin _ (hdp.snd ea2 (.inl rfl) eb2 fun n => .any ec2)⟩
        · exact ⟨L, _, _, _, rfl, rfl, .inl (.inl eL), rfl, fin _ (hdp.fst ea3 (.inr rfl) eb3 fun n => .any ec3)⟩
        · exact ⟨L, _, _, _, rfl, rfl, .inl (.inl eL), rfl, fin _ (hdp.rep ea4 (.inr (.inr rfl)))⟩
        · exact ⟨L, _, _, _, rfl, rfl, .inl (.inl eL), rfl, fin _ (hdp.rep ea5 (.inr (.inl rfl)))⟩ }
    · obtain ⟨x, y, rfl, hD5, hdp⟩ := hp
      have last : ∀ H6, tRet (tAndV (tNotV (tCall spIsP [] E0 (tCons (tC .non) tNil))) (tAndV (tNotV (tCall spIsP [] E0 (tCons (tC (.str "any")) tNil))) (tAndV (tCall spIsP [] E0 (tCons (tTup (tCons (tC (.str "any")) tNil)) tNil)) (tCall spIsP [] E0 (tCons (tTup (tCons (tC (.str "row")) (tCons (tTup tNil) tNil))) tNil)))))
          { nx := fun _ H' => Q .non H', rt := Q } [some (.ref a), some (.ref d), some p, some (.int (17 + rr)), some x, y] H6 := by
        intro H6
        refine ⟨d, _, rfl, .inr ⟨.leaf (.inl rfl), fun H7 _ => ⟨false, rfl, true, rfl, iteT ?_⟩⟩⟩
        refine ⟨d, _, rfl, .inr ⟨.leaf (.inr (.inl ⟨_, rfl⟩)), fun H8 _ => ⟨false, rfl, true, rfl, iteT ?_⟩⟩⟩
        refine ⟨len63 (by show (1 : Nat) ≤ 100000; decide), fun p1 np1 => ⟨d, _, rfl, .inl ⟨.any upd_same, fun H9 _ => ⟨true, rfl, iteT ?_⟩⟩⟩⟩
        refine ⟨len63 (by show (0 : Nat) ≤ 100000; decide), fun p2 np2 => ?_⟩
        have s2 : (upd H9 p2 (.tup [])) p2 = some (.tup []) := upd_same
        generalize upd H9 p2 (.tup []) = H10 at s2 ⊢
        refine ⟨len63 (by show (2 : Nat) ≤ 100000; decide), fun p3 np3 => ⟨d, _, rfl, .inl ⟨.nil upd_same (same_upd np3 _ _ s2), fun H11 _ => q _⟩⟩⟩
      have cmp : ∀ (b : Bool) (H6 : Hp), b = decide (17 + rr ≤ 20) → V.bl (!decide (V.bl b = V.bl (decide (17 + rr ≤ 20)))) = V.bl false := fun b _ e => by rw [e]; exact neFb
      by_cases h20 : 17 + rr ≤ 20
      · refine ⟨_, rfl, d, x, rfl, .inl ⟨(hdp 20).1 (by omega), fun H6 s6 => ⟨_, rfl, _, _, rfl, rfl, rfl, false, ?_, iteF (last H6)⟩⟩⟩
        exact cmp true H6 (dT' h20).symm
      · refine ⟨_, rfl, d, x, rfl, .inr ⟨(hdp 20).2 (by omega), fun H6 s6 => ⟨_, rfl, _, _, rfl, rfl, rfl, false, ?_, iteF (last H6)⟩⟩⟩
        exact cmp false H6 (dF' h20).symm
end
/-! ### what the top has written; the end -/
theorem all_mk {l : PySem.W.OpenLaw} {w : World} {K : PySem.W.Frag} {h : Heap} {mg : Str → Option Value} {fa f1 f2 f3 f4 f5 f6 f7 f8 f9 f10 f11 f12 f13 f14 f15 : Addr} (X : K.In h) (G : h.Ns mainGlobals mg) (hfa : mg "law" = some (.ref fa))
    {od1 an1 od2 an2 od3 an3 od4 an4 od5 an5 od6 an6 od7 an7 od8 an8 od9 an9 od10 an10 od11 an11 od12 an12 od13 an13 od14 an14 od15 an15 : Option Addr} {sl1 sl2 sl3 sl4 sl5 sl6 sl7 sl8 sl9 sl10 sl11 sl12 sl13 sl14 sl15 : Array (Option Value)} {oc1 kV1 dc1 pm1 cd1 ct1 oc2 kV2 dc2 pm2 cd2 ct2 oc3 kV3 dc3 pm3 cd3 ct3 oc4 kV4 dc4 pm4 cd4 ct4 oc5 kV5 dc5 pm5 cd5 ct5 oc6 kV6 dc6 pm6 cd6 ct6 oc7 kV7 dc7 pm7 cd7 ct7 oc8 kV8 dc8 pm8 cd8 ct8 oc9 kV9 dc9 pm9 cd9 ct9 oc10 kV10 dc10 pm10 cd10 ct10 oc11 kV11 dc11 pm11 cd11 ct11 oc12 kV12 dc12 pm12 cd12 ct12 oc13 kV13 dc13 pm13 cd13 ct13 oc14 kV14 dc14 pm14 cd14 ct14 oc15 kV15 dc15 pm15 cd15 ct15 : Value} {t1 t2 t3 t4 u5_0 u5_1 u5_2 u5_3 u5_4 u5_5 u5_6 u5_7 u5_8 u5_9 u6_0 u6_1 u7_0 u7_1 u7_2 u8_0 u8_1 : Tok}
    {p5 p6 p7 p8 : Addr} {od_5 od_6 od_7 od_8 : Option Addr} {nn5 nn6 nn7 nn8 : Nat} {sl_5 sl_6 sl_7 sl_8 : Array (Option Value)}
    (a1 : PySem.W.nsIn K mainGlobals "law" = some (some (.ref f1))) (l1 : K.lookup f1 = some ⟨oc1, od1, .func (PySem.W.fnOf "law" "law" (defArgs sLaw) (defBody sLaw) (defScope sLaw) .none kV1 dc1 pm1 an1 cd1 ct1), sl1⟩) (c1 : PySem.W.codeIn K cd1 "law" = true) (k1 : PySem.W.keepIn K (.ref f1) = true)
    (a2 : PySem.W.nsIn K mainGlobals "_law_next" = some (some (.ref f2))) (l2 : K.lookup f2 = some ⟨oc2, od2, .func (PySem.W.fnOf "_law_next" "_law_next" (defArgs sNext) (defBody sNext) (defScope sNext) .none kV2 dc2 pm2 an2 cd2 ct2), sl2⟩) (c2 : PySem.W.codeIn K cd2 "_law_next" = true) (k2 : PySem.W.keepIn K (.ref f2) = true)
    (a3 : PySem.W.nsIn K mainGlobals "_law_number" = some (some (.ref f3))) (l3 : K.lookup f3 = some ⟨oc3, od3, .func (PySem.W.fnOf "_law_number" "_law_number" (defArgs sNumber) (defBody sNumber) (defScope sNumber) .none kV3 dc3 pm3 an3 cd3 ct3), sl3⟩) (c3 : PySem.W.codeIn K cd3 "_law_number" = true) (k3 : PySem.W.keepIn K (.ref f3) = true)
    (a4 : PySem.W.nsIn K mainGlobals "_law_draw" = some (some (.ref f4))) (l4 : K.lookup f4 = some ⟨oc4, od4, .func (PySem.W.fnOf "_law_draw" "_law_draw" (defArgs sDraw) (defBody sDraw) (defScope sDraw) .none kV4 dc4 pm4 an4 cd4 ct4), sl4⟩) (c4 : PySem.W.codeIn K cd4 "_law_draw" = true) (k4 : PySem.W.keepIn K (.ref f4) = true)
    (a5 : PySem.W.nsIn K mainGlobals "_law_cell_at" = some (some (.ref f5))) (l5 : K.lookup f5 = some ⟨oc5, od5, .func (PySem.W.fnOf "_law_cell_at" "_law_cell_at" (defArgs sCell) (defBody sCell) (defScope sCell) .none kV5 dc5 pm5 an5 cd5 ct5), sl5⟩) (c5 : PySem.W.codeIn K cd5 "_law_cell_at" = true) (k5 : PySem.W.keepIn K (.ref f5) = true)
    (a6 : PySem.W.nsIn K mainGlobals "_law_pick" = some (some (.ref f6))) (l6 : K.lookup f6 = some ⟨oc6, od6, .func (PySem.W.fnOf "_law_pick" "_law_pick" (defArgs sPick) (defBody sPick) (defScope sPick) .none kV6 dc6 pm6 an6 cd6 ct6), sl6⟩) (c6 : PySem.W.codeIn K cd6 "_law_pick" = true) (k6 : PySem.W.keepIn K (.ref f6) = true)
    (a7 : PySem.W.nsIn K mainGlobals "_law_item" = some (some (.ref f7))) (l7 : K.lookup f7 = some ⟨oc7, od7, .func (PySem.W.fnOf "_law_item" "_law_item" (defArgs sLItem) (defBody sLItem) (defScope sLItem) .none kV7 dc7 pm7 an7 cd7 ct7), sl7⟩) (c7 : PySem.W.codeIn K cd7 "_law_item" = true) (k7 : PySem.W.keepIn K (.ref f7) = true)
    (a8 : PySem.W.nsIn K mainGlobals "_law_pattern" = some (some (.ref f8))) (l8 : K.lookup f8 = some ⟨oc8, od8, .func (PySem.W.fnOf "_law_pattern" "_law_pattern" (defArgs sLPattern) (defBody sLPattern) (defScope sLPattern) .none kV8 dc8 pm8 an8 cd8 ct8), sl8⟩) (c8 : PySem.W.codeIn K cd8 "_law_pattern" = true) (k8 : PySem.W.keepIn K (.ref f8) = true)
    (a9 : PySem.W.nsIn K mainGlobals "_law_bent" = some (some (.ref f9))) (l9 : K.lookup f9 = some ⟨oc9, od9, .func (PySem.W.fnOf "_law_bent" "_law_bent" (defArgs sLBent) (defBody sLBent) (defScope sLBent) .none kV9 dc9 pm9 an9 cd9 ct9), sl9⟩) (c9 : PySem.W.codeIn K cd9 "_law_bent" = true) (k9 : PySem.W.keepIn K (.ref f9) = true)
    (a10 : PySem.W.nsIn K mainGlobals "is_pattern" = some (some (.ref f10))) (l10 : K.lookup f10 = some ⟨oc10, od10, .func (PySem.W.fnOf "is_pattern" "is_pattern" (defArgs sIsPattern) (defBody sIsPattern) (defScope sIsPattern) .none kV10 dc10 pm10 an10 cd10 ct10), sl10⟩) (c10 : PySem.W.codeIn K cd10 "is_pattern" = true) (k10 : PySem.W.keepIn K (.ref f10) = true)
    (a11 : PySem.W.nsIn K mainGlobals "_is_pattern" = some (some (.ref f11))) (l11 : K.lookup f11 = some ⟨oc11, od11, .func (PySem.W.fnOf "_is_pattern" "_is_pattern" (defArgs sUIsPattern) (defBody sUIsPattern) (defScope sUIsPattern) .none kV11 dc11 pm11 an11 cd11 ct11), sl11⟩) (c11 : PySem.W.codeIn K cd11 "_is_pattern" = true) (k11 : PySem.W.keepIn K (.ref f11) = true)
    (a12 : PySem.W.nsIn K mainGlobals "_are_parts" = some (some (.ref f12))) (l12 : K.lookup f12 = some ⟨oc12, od12, .func (PySem.W.fnOf "_are_parts" "_are_parts" (defArgs sUAreParts) (defBody sUAreParts) (defScope sUAreParts) .none kV12 dc12 pm12 an12 cd12 ct12), sl12⟩) (c12 : PySem.W.codeIn K cd12 "_are_parts" = true) (k12 : PySem.W.keepIn K (.ref f12) = true)
    (a13 : PySem.W.nsIn K mainGlobals "is_name" = some (some (.ref f13))) (l13 : K.lookup f13 = some ⟨oc13, od13, .func (PySem.W.fnOf "is_name" "is_name" (defArgs sIsName) (defBody sIsName) (defScope sIsName) .none kV13 dc13 pm13 an13 cd13 ct13), sl13⟩) (c13 : PySem.W.codeIn K cd13 "is_name" = true) (k13 : PySem.W.keepIn K (.ref f13) = true)
    (a14 : PySem.W.nsIn K mainGlobals "word_end" = some (some (.ref f14))) (l14 : K.lookup f14 = some ⟨oc14, od14, .func (PySem.W.fnOf "word_end" "word_end" (defArgs sWordEnd) (defBody sWordEnd) (defScope sWordEnd) .none kV14 dc14 pm14 an14 cd14 ct14), sl14⟩) (c14 : PySem.W.codeIn K cd14 "word_end" = true) (k14 : PySem.W.keepIn K (.ref f14) = true)
    (a15 : PySem.W.nsIn K mainGlobals "is_word" = some (some (.ref f15))) (l15 : K.lookup f15 = some ⟨oc15, od15, .func (PySem.W.fnOf "is_word" "is_word" (defArgs sIsWord) (defBody sIsWord) (defScope sIsWord) .none kV15 dc15 pm15 an15 cd15 ct15), sl15⟩) (c15 : PySem.W.codeIn K cd15 "is_word" = true) (k15 : PySem.W.keepIn K (.ref f15) = true)
    (g1 : PySem.W.nsIn K mainGlobals "DEEPEST" = some (some (.int 20 t1)))
    (g2 : PySem.W.nsIn K mainGlobals "LONGEST_WORD" = some (some (.int 30 t2)))
    (g3 : PySem.W.nsIn K mainGlobals "SMALL_LETTERS" = some (some (.str "abcdefghijklmnopqrstuvwxyz" t3)))
    (g4 : PySem.W.nsIn K mainGlobals "WORD_SIGNS" = some (some (.str "abcdefghijklmnopqrstuvwxyz0123456789_" t4)))
    (g5 : PySem.W.nsIn K mainGlobals "OWN_WORDS" = some (some (.ref p5))) (gl5 : K.lookup p5 = some ⟨.type "tuple", od_5, .seq #[.str "class" u5_0, .str "keep" u5_1, .str "may" u5_2, .str "must" u5_3, .str "hide" u5_4, .str "else" u5_5, .str "any" u5_6, .str "not" u5_7, .str "start" u5_8, .str "end" u5_9] nn5, sl_5⟩)
    (g6 : PySem.W.nsIn K mainGlobals "NAMING" = some (some (.ref p6))) (gl6 : K.lookup p6 = some ⟨.type "tuple", od_6, .seq #[.str "class" u6_0, .str "not" u6_1] nn6, sl_6⟩)
    (g7 : PySem.W.nsIn K mainGlobals "REPEATED" = some (some (.ref p7))) (gl7 : K.lookup p7 = some ⟨.type "tuple", od_7, .seq #[.str "star" u7_0, .str "plus" u7_1, .str "maybe" u7_2] nn7, sl_7⟩)
    (g8 : PySem.W.nsIn K mainGlobals "SEVERAL" = some (some (.ref p8))) (gl8 : K.lookup p8 = some ⟨.type "tuple", od_8, .seq #[.str "row" u8_0, .str "either" u8_1] nn8, sl_8⟩)
    (z1 : PySem.W.nsIn K mainGlobals "len" = some none)
    (z2 : PySem.W.nsIn K mainGlobals "int" = some none)
    (z3 : PySem.W.nsIn K mainGlobals "range" = some none)
    (z4 : PySem.W.nsIn K mainGlobals "isinstance" = some none)
    (z5 : PySem.W.nsIn K mainGlobals "tuple" = some none)
    (z6 : PySem.W.nsIn K mainGlobals "str" = some none)
    : ∃ fd : FuncData, (∀ (s : Shared) (v : Value), BindsTo s fd ⟨[v], []⟩ [("script", v)]) ∧ ∀ base : Heap, K.In base → base.Ns mainGlobals mg → FnOk l.prog w K mg base CX0 46 fa fd ["script"] (spLaw K) := by
  have e := hfa.symm.trans (PySem.W.mg_of X G a1)
  cases e
  have F1 := fun_mk (st := sLaw) l1 c1 k1
  have F2 := fun_mk (st := sNext) l2 c2 k2
  have b2 := F2.binds (ps := ["draw", "bound"]) fun _ _ _ _ _ _ us hl => match us, hl with | [_, _], _ => rfl
  have e2 := PySem.W.mg_of X G a2
  have F3 := fun_mk (st := sNumber) l3 c3 k3
  have b3 := F3.binds (ps := ["cell", "k", "bound"]) fun _ _ _ _ _ _ us hl => match us, hl with | [_, _, _], _ => rfl
  have e3 := PySem.W.mg_of X G a3
  have F4 := fun_mk (st := sDraw) l4 c4 k4
  have b4 := F4.binds (ps := ["cell", "k", "bound"]) fun _ _ _ _ _ _ us hl => match us, hl with | [_, _, _], _ => rfl
  have e4 := PySem.W.mg_of X G a4
  have F5 := fun_mk (st := sCell) l5 c5 k5
  have b5 := F5.binds (ps := ["script", "k"]) fun _ _ _ _ _ _ us hl => match us, hl with | [_, _], _ => rfl
  have e5 := PySem.W.mg_of X G a5
  have F6 := fun_mk (st := sPick) l6 c6 k6
  have b6 := F6.binds (ps := ["draw", "things"]) fun _ _ _ _ _ _ us hl => match us, hl with | [_, _], _ => rfl
  have e6 := PySem.W.mg_of X G a6
  have F7 := fun_mk (st := sLItem) l7 c7 k7
  have b7 := F7.binds (ps := ["draw", "names"]) fun _ _ _ _ _ _ us hl => match us, hl with | [_, _], _ => rfl
  have e7 := PySem.W.mg_of X G a7
  have F8 := fun_mk (st := sLPattern) l8 c8 k8
  have b8 := F8.binds (ps := ["draw", "names", "room", "deep"]) fun _ _ _ _ _ _ us hl => match us, hl with | [_, _, _, _], _ => rfl
  have e8 := PySem.W.mg_of X G a8
  have F9 := fun_mk (st := sLBent) l9 c9 k9
  have b9 := F9.binds (ps := ["draw", "pattern"]) fun _ _ _ _ _ _ us hl => match us, hl with | [_, _], _ => rfl
  have e9 := PySem.W.mg_of X G a9
  have F10 := fun_mk (st := sIsPattern) l10 c10 k10
  have b10 := F10.binds (ps := ["thing"]) fun _ _ _ _ _ _ us hl => match us, hl with | [_], _ => rfl
  have e10 := PySem.W.mg_of X G a10
  have F11 := fun_mk (st := sUIsPattern) l11 c11 k11
  have b11 := F11.binds (ps := ["thing", "depth"]) fun _ _ _ _ _ _ us hl => match us, hl with | [_, _], _ => rfl
  have e11 := PySem.W.mg_of X G a11
  have F12 := fun_mk (st := sUAreParts) l12 c12 k12
  have b12 := F12.binds (ps := ["thing", "least", "depth"]) fun _ _ _ _ _ _ us hl => match us, hl with | [_, _, _], _ => rfl
  have e12 := PySem.W.mg_of X G a12
  have F13 := fun_mk (st := sIsName) l13 c13 k13
  have b13 := F13.binds (ps := ["thing"]) fun _ _ _ _ _ _ us hl => match us, hl with | [_], _ => rfl
  have e13 := PySem.W.mg_of X G a13
  have F14 := fun_mk (st := sWordEnd) l14 c14 k14
  have b14 := F14.binds (ps := ["text", "at"]) fun _ _ _ _ _ _ us hl => match us, hl with | [_, _], _ => rfl
  have e14 := PySem.W.mg_of X G a14
  have F15 := fun_mk (st := sIsWord) l15 c15 k15
  have b15 := F15.binds (ps := ["thing"]) fun _ _ _ _ _ _ us hl => match us, hl with | [_], _ => rfl
  have e15 := PySem.W.mg_of X G a15
  have G1 := PySem.W.mg_of X G g1
  have G2 := PySem.W.mg_of X G g2
  have G3 := PySem.W.mg_of X G g3
  have G4 := PySem.W.mg_of X G g4
  have G5 := PySem.W.mg_of X G g5
  have G6 := PySem.W.mg_of X G g6
  have G7 := PySem.W.mg_of X G g7
  have G8 := PySem.W.mg_of X G g8
  have T5 : ∀ H, SqT K H p5 [.str "class", .str "keep", .str "may", .str "must", .str "hide", .str "else", .str "any", .str "not", .str "start", .str "end"] := fun H => .inr ⟨_, _, _, gl5, rfl, rfl, len63 (by show (10 : Nat) ≤ 100000; decide), (.cons ⟨_, rfl⟩ (.cons ⟨_, rfl⟩ (.cons ⟨_, rfl⟩ (.cons ⟨_, rfl⟩ (.cons ⟨_, rfl⟩ (.cons ⟨_, rfl⟩ (.cons ⟨_, rfl⟩ (.cons ⟨_, rfl⟩ (.cons ⟨_, rfl⟩ (.cons ⟨_, rfl⟩ Paired.nil))))))))))⟩
  have T6 : ∀ H, SqT K H p6 [.str "class", .str "not"] := fun H => .inr ⟨_, _, _, gl6, rfl, rfl, len63 (by show (2 : Nat) ≤ 100000; decide), (.cons ⟨_, rfl⟩ (.cons ⟨_, rfl⟩ Paired.nil))⟩
  have T7 : ∀ H, SqT K H p7 [.str "star", .str "plus", .str "maybe"] := fun H => .inr ⟨_, _, _, gl7, rfl, rfl, len63 (by show (3 : Nat) ≤ 100000; decide), (.cons ⟨_, rfl⟩ (.cons ⟨_, rfl⟩ (.cons ⟨_, rfl⟩ Paired.nil)))⟩
  have T8 : ∀ H, SqT K H p8 [.str "row", .str "either"] := fun H => .inr ⟨_, _, _, gl8, rfl, rfl, len63 (by show (2 : Nat) ≤ 100000; decide), (.cons ⟨_, rfl⟩ (.cons ⟨_, rfl⟩ Paired.nil))⟩
  have Z1 := PySem.W.mg_none_of X G z1
  have Z2 := PySem.W.mg_none_of X G z2
  have Z3 := PySem.W.mg_none_of X G z3
  have Z4 := PySem.W.mg_none_of X G z4
  have Z5 := PySem.W.mg_none_of X G z5
  have Z6 := PySem.W.mg_none_of X G z6
  refine ⟨PySem.W.fnOf "law" "law" (defArgs sLaw) (defBody sLaw) (defScope sLaw) .none kV1 dc1 pm1 an1 cd1 ct1, fun s v => .of_eq rfl, fun base _ _ => ?_⟩
  have GT : ∀ k, FnOk l.prog w K mg base CX0 (k + 3) _ _ ["draw", "bound"] (spNext K) := fun k => ok_next F2 F5 b5 e5 Z1 F3 b3 e3 F4 b4 e4 Z2 Z3
  have GK : ∀ k, FnOk l.prog w K mg base CX0 (k + 4) _ _ ["draw", "things"] (spPick K) := fun k => ok_pick F6 F2 b2 e2 (GT k) Z1
  have TW : Words K mg p6 p7 p8 := ⟨G6, T6, G7, T7, G8, T8, Z1, Z4, Z5⟩
  have GI := fun k => ok_item (P := l.prog) (w := w) (base := base) (k := k + 4) F7 F6 b6 e6 (GK k) F2 b2 e2 (GT (k + 1))
  have GL := ok_lpat (P := l.prog) (w := w) (base := base) (k := 0) F8 b8 e8 F7 b7 e7 (GI 0) F6 b6 e6 (GK 0) F2 b2 e2 (GT 0) 3
  have GN := fun k => ok_name (P := l.prog) (w := w) (base := base) (k := k) F13 F15 b15 e15 (ok_word F15 F14 b14 e14 Z1 Z4 Z6 G4 G3 G2) G5 T5
  have GP := ok_pat (P := l.prog) (w := w) (base := base) F11 TW b11 e11 F12 b12 e12 F13 b13 e13 GN 20
  exact ok_law (k := 45) F1 F8 b8 e8 (GL.mono (by omega)) F10 b10 e10 (ok_isp F10 F11 b11 e11 GP G1) F9 b9 e9 ((ok_bent (k := 3) F9 F2 b2 e2 (GT 0)).mono (by omega)) F2 b2 e2 ((GT 0).mono (by omega)) Z3
end CA
open PySem PySem.W PyProof.Rows
set_option maxRecDepth 100000 in
set_option maxHeartbeats 0 in
theorem PySem.Challenge.cw_cutsanywhere_k09_patterns_or_not_holds : PySem.Challenge.rw_cutsanywhere_k09_patterns_or_not.Holds := by
  w_on; o_law; k_head; (case hw => w_witness2)
  k_fill
  refine L2.walk_of (l := PySem.Challenge.rw_cutsanywhere_k09_patterns_or_not) (n := 63) (k := 46) (x := "script") (CX := fun _ => L2.CX0) (sp := fun w => CA.spLaw _) rfl (by decide) rfl ⟨rfl, by decide, by decide⟩ (fun w h Y => PySem.W.kIn_of Y) ?F (fun _ _ a ns hl _ hS => ⟨a, ns, rfl, hS, hl, fun _ => rfl⟩) (fun _ _ _ _ _ h => h)
  case F =>
    intro w mg fa h KX G hmg
    refine' CA.all_mk KX G hmg ?a1 ?l1 ?c1 ?k1 ?a2 ?l2 ?c2 ?k2 ?a3 ?l3 ?c3 ?k3 ?a4 ?l4 ?c4 ?k4 ?a5 ?l5 ?c5 ?k5 ?a6 ?l6 ?c6 ?k6 ?a7 ?l7 ?c7 ?k7 ?a8 ?l8 ?c8 ?k8 ?a9 ?l9 ?c9 ?k9 ?a10 ?l10 ?c10 ?k10 ?a11 ?l11 ?c11 ?k11 ?a12 ?l12 ?c12 ?k12 ?a13 ?l13 ?c13 ?k13 ?a14 ?l14 ?c14 ?k14 ?a15 ?l15 ?c15 ?k15 ?g1 ?g2 ?g3 ?g4 ?g5 ?gl5 ?g6 ?gl6 ?g7 ?gl7 ?g8 ?gl8 ?z1 ?z2 ?z3 ?z4 ?z5 ?z6
    (case a1 => k_is)
    (case l1 => k_is)
    (case c1 => k_is)
    (case k1 => k_is)
    (case a2 => k_is)
    (case l2 => k_is)
    (case c2 => k_is)
    (case k2 => k_is)
    (case a3 => k_is)
    (case l3 => k_is)
    (case c3 => k_is)
    (case k3 => k_is)
    (case a4 => k_is)
    (case l4 => k_is)
    (case c4 => k_is)
    (case k4 => k_is)
    (case a5 => k_is)
    (case l5 => k_is)
    (case c5 => k_is)
    (case k5 => k_is)
    (case a6 => k_is)
    (case l6 => k_is)
    (case c6 => k_is)
    (case k6 => k_is)
    (case a7 => k_is)
    (case l7 => k_is)
    (case c7 => k_is)
    (case k7 => k_is)
    (case a8 => k_is)
    (case l8 => k_is)
    (case c8 => k_is)
    (case k8 => k_is)
    (case a9 => k_is)
    (case l9 => k_is)
    (case c9 => k_is)
    (case k9 => k_is)
    (case a10 => k_is)
    (case l10 => k_is)
    (case c10 => k_is)
    (case k10 => k_is)
    (case a11 => k_is)
    (case l11 => k_is)
    (case c11 => k_is)
    (case k11 => k_is)
    (case a12 => k_is)
    (case l12 => k_is)
    (case c12 => k_is)
    (case k12 => k_is)
    (case a13 => k_is)
    (case l13 => k_is)
    (case c13 => k_is)
    (case k13 => k_is)
    (case a14 => k_is)
    (case l14 => k_is)
    (case c14 => k_is)
    (case k14 => k_is)
    (case a15 => k_is)
    (case l15 => k_is)
    (case c15 => k_is)
    (case k15 => k_is)
    (case g1 => k_is)
    (case g2 => k_is)
    (case g3 => k_is)
    (case g4 => k_is)
    (case g5 => k_is)
    (case gl5 => k_is)
    (case g6 => k_is)
    (case gl6 => k_is)
    (case g7 => k_is)
    (case gl7 => k_is)
    (case g8 => k_is)
    (case gl8 => k_is)
    (case z1 => k_is)
    (case z2 => k_is)
    (case z3 => k_is)
    (case z4 => k_is)
    (case z5 => k_is)
    (case z6 => k_is)

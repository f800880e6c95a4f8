import PyProof.Rows.All
import Wide.All
import OpenK.AllK
import Wide.FinOn
import HandS.ForMost
import HandS.AnyAll
import HandS.IsInst
import HandS.Style
import HandS.EndTab
import HandS.Codes
import HandS.GenOver
import HandS.Strs
import HandS.Zip
import HandS.Walk
import HandS.More
import KE.KEqSeq
import HandS.SortKw
import HandS.Keys
import HandS.ExcValue
import HandS.ExcIs
import HandS.ForExc
import HandS.TupAny
import HandS.DictComp
import HandS.Conv
import HandS.Small
import PyProof.TupleOfGen
import PyProof.SumAny
import PyProof.ConsumeS
import KE.SortKeyHeap
import KE.SortData
import KE.KRevSl
import PyProof.DictUpdate
import PyProof.DictDisplay
import PyProof.DictValues
import PySem.Challenge.RW_shelfcounts_k63_whole_all_worth_is_somew
import KE.GoesEnum
set_option Elab.async false
set_option linter.all false
set_option maxRecDepth 100000
namespace Shelf
open PySem PySem.Spec PyProof.Rows L2
def topS (i : Nat) : Stmt := PySem.Challenge.pw_shelfcounts_k63_whole_all_worth_is_somew.main.body.getD i (.Pass ⟨0, 0, 0, 0⟩)
abbrev sGood : Stmt := topS 1
abbrev sCalled : Stmt := topS 7
abbrev sLotsB : Stmt := topS 9
abbrev sLotsW : Stmt := topS 10
abbrev sTaken : Stmt := topS 11
abbrev sTakenBy : Stmt := topS 12
abbrev sCost : Stmt := topS 13
abbrev sWorth : Stmt := topS 14
abbrev sPen : Stmt := topS 16
abbrev sTake : Stmt := topS 17
abbrev sNamer : Stmt := topS 18
abbrev sName : Stmt := topS 19
abbrev sMany : Stmt := topS 20
abbrev sMoments : Stmt := topS 21
abbrev sEntry : Stmt := topS 22
abbrev sOwn : Stmt := topS 23
abbrev sDone : Stmt := topS 24
abbrev sTold : Stmt := topS 25
abbrev sLCounted : Stmt := topS 26
abbrev sHouse : Stmt := topS 27
abbrev sGoR : Stmt := topS 28
abbrev sGdR : Stmt := topS 29
abbrev sLaw : Stmt := topS 30
/-! ### the pen: what a script is drawn from -/
theorem same_new {H : Hp} {p : Addr} {o : HO} (h : H p = none) : Same H (upd H p o) := fun b x e => (upd_ne (ne_of_none e h)).trans e
/-- all but the object at p is as it was -/
def But (p : Addr) (H H' : Hp) : Prop := ∀ b o, H b = some o → b ≠ p → H' b = some o
theorem But.refl (p : Addr) (H : Hp) : But p H H := fun _ _ e _ => e
theorem But.of {p : Addr} {H H' : Hp} (h : Same H H') : But p H H' := fun b o e _ => h b o e
theorem But.tr {p : Addr} {H H1 H2 : Hp} (a : But p H H1) (b : But p H1 H2) : But p H H2 := fun c o e n => b c o (a c o e n) n
theorem But.to {p : Addr} {H H1 : Hp} (a : But p H H1) {l : Addr} {o : HO} (h : H l = none) (n : H p ≠ none) : But p H (upd H1 l o) := fun c u e nc => (upd_ne (ne_of_none e h)).trans (a c u e nc)
theorem dget_s {H : Hp} {p : Addr} {kvs : List (Key × V)} {x : Str} {v : V} (h : H p = some (.dK kvs)) (e : valV kvs (Sum.inr x) = some v) : DGet H p (.str x) (some v) := .inl ⟨kvs, Sum.inr x, .inl h, rfl, e.symm⟩
theorem dput_s {H : Hp} {p : Addr} {kvs : List (Key × V)} {x : Str} {v : V} (h : H p = some (.dK kvs)) (hl : kvs.length < sizeLine) : DPut H p (.str x) v (upd H p (.dK (putK kvs (Sum.inr x) v))) := .inl ⟨kvs, Sum.inr x, h, rfl, hl, rfl⟩
theorem put_len {kvs : List (Key × V)} {k : Key} {v u : V} (e : valV kvs k = some u) : (putK kvs k v).length = kvs.length := by
  have h := valV_any k kvs
  rw [e] at h
  have h' : (kvs.any fun kv => decide (kv.1 = k)) = true := h
  unfold putK
  rw [if_pos h', List.length_map]
abbrev kCells : Key := Sum.inr "cells"
abbrev kAt : Key := Sum.inr "at"
abbrev kLeft : Key := Sum.inr "left"
theorem nCA : ¬ kCells = kAt := by decide +kernel
theorem nCL : ¬ kCells = kLeft := by decide +kernel
theorem nAL : ¬ kAt = kLeft := by decide +kernel
theorem nLA : ¬ kLeft = kAt := by decide +kernel
/-- a pen stands at p, its cells at c; at most n have been drawn -/
structure PenAt (H : Hp) (p c : Addr) (n : Nat) : Prop where
  ex : ∃ (kvs : List (Key × V)) (ns : List Int) (a l : Int), H p = some (.dK kvs) ∧ kvs.length ≤ 3 ∧ valV kvs kCells = some (.ref c) ∧ valV kvs kAt = some (.int a) ∧ valV kvs kLeft = some (.int l) ∧ H c = some (.lst (ns.map V.int)) ∧ 0 ≤ a ∧ a ≤ n ∧ 0 ≤ l
theorem PenAt.same {H H' : Hp} {p c : Addr} {n : Nat} (P : PenAt H p c n) (h : Same H H') : PenAt H' p c n := by
  obtain ⟨kvs, ns, a, l, h1, h2, h3, h4, h5, h6, h7⟩ := P.ex
  exact ⟨kvs, ns, a, l, h _ _ h1, h2, h3, h4, h5, h _ _ h6, h7⟩
theorem PenAt.there {H : Hp} {p c : Addr} {n : Nat} (P : PenAt H p c n) : H p ≠ none := by
  obtain ⟨kvs, ns, a, l, h1, _⟩ := P.ex
  rw [h1]
  exact fun z => nomatch z
theorem PenAt.cells {H : Hp} {p c : Addr} {n : Nat} (P : PenAt H p c n) : H c ≠ none := by
  obtain ⟨kvs, ns, a, l, _, _, _, _, _, h1, _⟩ := P.ex
  rw [h1]
  exact fun z => nomatch z
theorem PenAt.upd {H : Hp} {p c l : Addr} {n : Nat} {o : HO} (P : PenAt H p c n) (h1 : l ≠ p) (h2 : l ≠ c) : PenAt (L2.upd H l o) p c n := by
  obtain ⟨kvs, ns, a, x, g1, g2, g3, g4, g5, g6, g7⟩ := P.ex
  exact ⟨kvs, ns, a, x, (upd_ne h1.symm).trans g1, g2, g3, g4, g5, (upd_ne h2.symm).trans g6, g7⟩
theorem PenAt.mono {H : Hp} {p c : Addr} {n m : Nat} (P : PenAt H p c n) (h : n ≤ m) : PenAt H p c m := by
  obtain ⟨kvs, ns, a, l, g1, g2, g3, g4, g5, g6, g7, g8, g9⟩ := P.ex
  exact ⟨kvs, ns, a, l, g1, g2, g3, g4, g5, g6, g7, by omega, g9⟩
theorem dp_ints {K : PySem.W.Frag} {H : Hp} : ∀ ns : List Int, DpAll K H (ns.map V.int) (ns.map PyData.int)
  | [] => .nil
  | n :: r => .cons (.int n) (dp_ints r)
/-- what a draw promises: a number below many, the pen drawn once more, nothing else touched -/
def spTake : Sp := fun vs H Q _ => ∃ (p c : Addr) (n : Nat) (m : Int), vs = [.ref p, .int m] ∧ PenAt H p c n ∧ n ≤ 100000 ∧ 1 ≤ m ∧ m ≤ 1000000000 ∧
  ∀ (r : Int) (H' : Hp), 0 ≤ r → r < m → PenAt H' p c (n + 1) → But p H H' → Q (.int r) H'
def spPen (K : PySem.W.Frag) : Sp := fun vs H Q _ => ∃ (a : Addr) (ns : List Int), vs = [.ref a] ∧ SqL K H a (ns.map V.int) ∧
  ∀ (p c : Addr) (H' : Hp), H p = none → H c = none → PenAt H' p c 0 → Same H H' → Q (.ref p) H'
theorem mem_cut {α : Type} {xs : List α} {lo hi : Nat} : ∀ x ∈ (xs.drop lo).take hi, x ∈ xs := fun x h => List.mem_of_mem_drop (List.mem_of_mem_take h)
theorem cut_ints (ns : List Int) (lo hi : Option Int) : ∃ ms : List Int, cutV (ns.map V.int) lo hi = ms.map V.int := by
  unfold cutV
  rw [← List.map_drop, ← List.map_take]
  exact ⟨_, rfl⟩
section
variable {P : Program} {w : World} {K : PySem.W.Frag} {mg : Str → Option Value} {base : Heap}
theorem scPen : FnScope ["_law_script"] ["_law_script"] (defScope sPen) := ⟨rfl, rfl, rfl, by decide +kernel, rfl, by decide +kernel, by decide +kernel⟩
theorem scTake : FnScope ["_law_pen_here", "_law_many_here", "_law_found", "_law_at", "_law_cells", "_law_cell", "_law_one", "_law_two"] ["_law_pen_here", "_law_many_here"] (defScope sTake) := ⟨rfl, rfl, rfl, by decide +kernel, rfl, by decide +kernel, by decide +kernel⟩
theorem ok_pen {f : Addr} {fd : FuncData} (F : Fun K "_law_pen" "_law_pen" sPen f fd) (ml : mg "list" = none) : FnOk P w K mg base CX0 1 f fd ["_law_script"] (spPen K) := by
  refine F.ok scPen (fun vs H Q E h => ?_) (fun cdv A outer s H vs Q E hr h => ?_)
  · obtain ⟨a, ns, rfl, _⟩ := h
    rfl
  · obtain ⟨a, ns, rfl, hS, q⟩ := h
    refine ⟨_, pss_one (ps_ret (pe_disp (pps_cons pe_str (pe_callTy call_list_of (by rfl) ml (by decide +kernel) (pa_cons (pe_slice sl_list (pv 0) po_none (po_some pe_int)) pa_nil))
      (pps_cons pe_str pe_int (pps_cons pe_str pe_int pps_nil))) (by rfl) (by rfl) (fun z => by cases z) (by decide))), ?_⟩
    refine fun p np => ?_
    have s1 : Same H (upd H p (.dK [])) := same_new np
    refine ⟨.ref a, rfl, 63, rfl, a, ns.map V.int, rfl, s1.seq hS, fun t nt => ?_⟩
    obtain ⟨ms, em⟩ := cut_ints ns none (some 63)
    have s2 : Same (upd H p (.dK [])) (upd (upd H p (.dK [])) t (.lst (cutV (ns.map V.int) none (some 63)))) := same_new nt
    refine ⟨t, _, rfl, .inl (SqL.of upd_same), fun c nc => ?_⟩
    have s3 := @same_new _ _ (.lst (cutV (ns.map V.int) none (some 63))) nc
    have hp := s3 _ _ (s2 _ _ upd_same)
    refine ⟨hp, [(kCells, .ref c), (kAt, .int 0), (kLeft, .int 0)], rfl, (by show 3 ≤ 15; decide), ?_⟩
    have s4 := s1.trans (s2.trans s3)
    have npc : p ≠ c := ne_of_none (s2 _ _ upd_same) nc
    refine q p c _ np (s1.free (s2.free nc)) ⟨_, ms, 0, 0, upd_same, (by exact Nat.le_refl 3), ?_, ?_, ?_, ?_, Int.le_refl _, Int.le_refl _, Int.le_refl _⟩ fun b o e => (upd_ne (ne_of_none e np)).trans (s4 b o e)
    · rfl
    · rfl
    · rfl
    · rw [upd_ne npc.symm, upd_same, em]
theorem ok_take {f : Addr} {fd : FuncData} (F : Fun K "_law_take" "_law_take" sTake f fd) (mlen : mg "len" = none) (mabs : mg "abs" = none) : FnOk P w K mg base CX0 1 f fd ["_law_pen_here", "_law_many_here"] spTake := by
  refine F.ok scTake (fun vs H Q E h => ?_) (fun cdv A outer s H vs Q E hr h => ?_)
  · obtain ⟨p, c, n, m, rfl, _⟩ := h
    rfl
  · obtain ⟨p, c, n, m, rfl, pen, hn, m1, m2, q⟩ := h
    have hu := hu_of hr
    have nd := scTake.nd
    refine ⟨_, pss_cons (ps_if (pt_cmpR op_gt (pe_dget hu (pv 0) pe_str (fun _ _ => rfl)) pe_int (nomark _))
        (pss_cons (ps_set (i := 2) nd rfl (Or.inl rfl) (pe_op op_mod (pe_dget hu (pv 0) pe_str (fun _ _ => rfl)) (pv 1)))
        (pss_cons (ps_dput hu (pv 0) pe_str (pe_op op_fdiv (pe_dget hu (pv 0) pe_str (fun _ _ => rfl)) (pv 1)) rfl)
        (pss_one (ps_ret (pv 2))))) pss_nil)
      (pss_cons (ps_set (i := 3) nd rfl (Or.inl rfl) (pe_dget hu (pv 0) pe_str (fun _ _ => rfl)))
      (pss_cons (ps_dput hu (pv 0) pe_str (pe_op op_add (pv 3) pe_int) rfl)
      (pss_cons (ps_set (i := 4) nd rfl (Or.inl rfl) (pe_dget hu (pv 0) pe_str (fun _ _ => rfl)))
      (pss_cons (ps_set (i := 5) nd rfl (Or.inl rfl) (pe_op op_add (pe_op op_add (pe_op op_mul (pe_op op_mul pe_int (pv 3)) (pv 3)) (pe_op op_mul pe_int (pv 3))) pe_int))
      (C8.pss_cut (ps_if (pt_cmpR (op_neD hr.units) (pv 4) (pe_lst pa_nil) (nomark _))
        (pss_one (ps_set (i := 5) nd rfl (Or.inl rfl) (pe_ix ix_list (pv 4) (pe_op op_mod (pv 3) (pe_callB call_len_seq (by rfl) mlen PySem.boot_len (pa_cons (pv 4) pa_nil))) (fun _ _ => rfl)))) pss_nil)
      (C8.pss_cut (ps_if (PW.pt (pw_and (pt_cmpR op_lt (pv 3) (pe_callB call_len_seq (by rfl) mlen PySem.boot_len (pa_cons (pv 4) pa_nil)) (nomark _))
          (pw_and1 (pt_cmpR op_ge (pe_callB call_abs (by rfl) mabs (by decide +kernel) (pa_cons (pv 5) pa_nil)) (pe_op op_pow pe_int pe_int) (nomark _)))))
        (pss_cons (ps_dput hu (pv 0) pe_str (pe_op op_fdiv (pe_callB call_abs (by rfl) mabs (by decide +kernel) (pa_cons (pv 5) pa_nil)) (pv 1)) rfl)
        (pss_one (ps_ret (pe_op op_mod (pe_callB call_abs (by rfl) mabs (by decide +kernel) (pa_cons (pv 5) pa_nil)) (pv 1))))) pss_nil)
      (pss_cons (ps_set (i := 6) nd rfl (Or.inl rfl) (pe_op op_mod (pe_op op_pow (pe_op op_add (pe_op op_add (pe_op op_mod (pv 5) pe_int) (pe_op op_mul pe_int (pv 3))) pe_int) pe_int) pe_int))
      (pss_cons (ps_set (i := 7) nd rfl (Or.inl rfl) (pe_op op_mod (pe_op op_pow (pe_op op_add (pe_op op_add (pv 6) (pe_op op_mul (pe_op op_mul pe_int (pv 3)) (pv 3))) pe_int) pe_int) pe_int))
      (pss_one (ps_ret (pe_op op_mod (pe_op op_fdiv (pe_op op_mod (pe_op op_mul (pv 7) (pe_op op_add (pe_op op_mod (pv 6) pe_int) pe_int)) pe_int) pe_int) (pv 1)))))))))))), ?_⟩
    obtain ⟨kvs, ns, a, l, g1, g2, g3, g4, g5, g6, g7, g8, g9⟩ := pen.ex
    have hsz : kvs.length < sizeLine := small1000 (by omega)
    have npc : p ≠ c := ne_of g1 g6 (by intro z; cases z)
    -- the left
    refine ⟨_, rfl, p, _, rfl, dget_s g1 g5, l, 0, rfl, rfl, _, rfl, ite2 (fun e => ?_) (fun e => ?_)⟩
    · have e' : 0 < l := of_decide_eq_true e
      refine ⟨_, rfl, p, _, rfl, dget_s g1 g5, _, rfl, l, m, rfl, rfl, (by show (0 : Int) < m; omega), ?_⟩
      refine ⟨_, rfl, p, _, rfl, dget_s g1 g5, _, rfl, l, m, rfl, rfl, ⟨by omega, by omega⟩, _, rfl, p, _, rfl, dput_s g1 hsz, _, rfl, ?_⟩
      refine q _ _ (Int.emod_nonneg _ (by omega)) (Int.emod_lt_of_pos _ (by omega)) ⟨_, ns, a, l / m, upd_same, (by rw [put_len g5]; exact g2), ?_, ?_, ?_, ?_, g7, by omega, Int.ediv_nonneg (by omega) (by omega)⟩ fun b o z nb => (upd_ne nb).trans z
      · rw [valV_put, if_neg nCL]; exact g3
      · rw [valV_put, if_neg nAL]; exact g4
      · rw [valV_put, if_pos rfl]
      · rw [upd_ne npc.symm]; exact g6
    · -- a new cell
      refine ⟨_, rfl, p, _, rfl, dget_s g1 g4, ?_⟩
      refine ⟨_, rfl, a, 1, rfl, rfl, _, rfl, p, _, rfl, dput_s g1 hsz, ?_⟩
      have k1 : (upd H p (.dK (putK kvs kAt (.int (a + 1))))) p = some (.dK (putK kvs kAt (.int (a + 1)))) := upd_same
      have v3 : valV (putK kvs kAt (.int (a + 1))) kCells = some (.ref c) := by rw [valV_put, if_neg nCA]; exact g3
      have v4 : valV (putK kvs kAt (.int (a + 1))) kAt = some (.int (a + 1)) := by rw [valV_put, if_pos rfl]
      have v5 : valV (putK kvs kAt (.int (a + 1))) kLeft = some (.int l) := by rw [valV_put, if_neg nLA]; exact g5
      have k2 : (putK kvs kAt (.int (a + 1))).length ≤ 3 := by rw [put_len g4]; exact g2
      have k6 : (upd H p (.dK (putK kvs kAt (.int (a + 1))))) c = some (.lst (ns.map V.int)) := by rw [upd_ne npc.symm]; exact g6
      generalize putK kvs kAt (.int (a + 1)) = kw at k1 k2 k6 v3 v4 v5
      refine ⟨_, rfl, p, _, rfl, dget_s k1 v3, ?_⟩
      refine ⟨_, rfl, 7211, a, rfl, rfl, .inl ⟨by decide, by decide⟩, _, rfl, _, a, rfl, rfl, .inr ⟨by omega, by omega⟩, _, rfl, 83, a, rfl, rfl, .inl ⟨by decide, by decide⟩, _, _, rfl, rfl, _, 5, rfl, rfl, ?_⟩
      refine ⟨fun σ' H' => ∃ x : Int, σ' = [some (.ref p), some (.int m), none, some (.int a), some (.ref c), some (.int x), none, none] ∧ Same (upd H p (.dK kw)) H', ?_, ?_⟩
      · refine ⟨_, rfl, Nat.zero_le _, fun t nt => ?_⟩
        have s1 := @same_new _ _ (.lst []) nt
        refine ⟨.list (ns.map PyData.int), .list [], .lst (SqL.of (s1 _ _ k6)) (dp_ints ns), .lst (SqL.of upd_same) .nil, PySem.W.ke_shaped_ints ns, PySem.W.ke_shaped_ints [], _, rfl, ?_⟩
        cases e2 : (!PyData.eqv (.list (ns.map PyData.int)) (.list [])) with
        | false => exact iteF ⟨_, rfl, s1⟩
        | true =>
          refine iteT ?_
          have hne : ns ≠ [] := fun z => by
            subst z
            rw [show PyData.eqv (.list (([] : List Int).map PyData.int)) (.list []) = true from rfl] at e2
            cases e2
          have hlen : 0 < ns.length := List.length_pos_iff.mpr hne
          have hlt : (a % (ns.length : Int)).toNat < ns.length := by
            have h1 := Int.emod_nonneg a (show (ns.length : Int) ≠ 0 by omega)
            have h2 := Int.emod_lt_of_pos a (show (0 : Int) < ns.length by omega)
            omega
          refine ⟨_, rfl, _, rfl, _, rfl, c, _, rfl, .inl (SqL.of (s1 _ _ k6)), a, _, rfl, rfl, ?_, c, _, _, .int ns[(a % (ns.length : Int)).toNat], rfl, rfl, SqL.of (s1 _ _ k6), ?_, _, rfl, s1⟩
          · show (0 : Int) < ((ns.map V.int).length : Int)
            rw [List.length_map]; omega
          · rw [List.length_map]
            refine at_of (j := (a % (ns.length : Int)).toNat) (Int.toNat_of_nonneg (Int.emod_nonneg a (show (ns.length : Int) ≠ 0 by omega))).symm ?_
            rw [List.getElem?_map, List.getElem?_eq_getElem hlt]
            rfl
      · rintro σ' H2 ⟨x, rfl, s1⟩
        have j1 := s1 _ _ k1
        have j6 := s1 _ _ k6
        have bt : But p H H2 := fun b o z nb => s1 _ _ ((upd_ne nb).trans z)
        have absn : (0 : Int) ≤ if x < 0 then -x else x := by split <;> omega
        have fin : ∀ r : Int, 0 ≤ r → r < m → Q (.int r) H2 := fun r r1 r2 => q r H2 r1 r2 ⟨kw, ns, a + 1, l, j1, k2, v3, v4, v5, j6, by omega, by omega, g9⟩ bt
        have a2 : 0 ≤ 611 * a * a ∧ 611 * a * a ≤ 61100000 * 100000 := ⟨Int.mul_nonneg (by omega) g7, Int.mul_le_mul (by omega) (by omega) g7 (by decide)⟩
        refine ⟨fun σ' H' => σ' = [some (.ref p), some (.int m), none, some (.int a), some (.ref c), some (.int x), none, none] ∧ H' = H2, ?_, ?_⟩
        · refine ⟨_, rfl, _, rfl, c, _, rfl, .inl (SqL.of j6), a, _, rfl, rfl, _, rfl, ?_⟩
          refine ite2 (fun _ => ?_) (fun _ => ?_)
          · refine ⟨_, rfl, x, rfl, 10, 18, rfl, rfl, ⟨by decide, by decide, by decide⟩, _, _, rfl, rfl, _, rfl, ite2 (fun _ => ?_) (fun _ => ⟨rfl, rfl⟩)⟩
            refine ⟨_, rfl, x, rfl, _, rfl, _, m, rfl, rfl, ⟨by omega, by omega⟩, _, rfl, p, _, rfl, dput_s j1 (small1000 (by omega)), ?_⟩
            refine ⟨_, rfl, x, rfl, _, rfl, _, m, rfl, rfl, (by show (0 : Int) < m; omega), ?_⟩
            refine q _ _ (Int.emod_nonneg _ (by omega)) (Int.emod_lt_of_pos _ (by omega)) ⟨_, ns, a + 1, (if x < 0 then -x else x) / m, upd_same, (by rw [put_len v5]; exact k2), ?_, ?_, ?_, ?_, by omega, by omega, Int.ediv_nonneg absn (by omega)⟩ fun b o z nb => (upd_ne nb).trans (bt b o z nb)
            · rw [valV_put, if_neg nCL]; exact v3
            · rw [valV_put, if_neg nAL]; exact v4
            · rw [valV_put, if_pos rfl]
            · rw [upd_ne npc.symm]; exact j6
          · exact iteF ⟨rfl, rfl⟩
        · rintro σ' H' ⟨rfl, rfl⟩
          have b1 := Int.emod_nonneg x (show (2147483629 : Int) ≠ 0 by decide)
          have b2 := Int.emod_lt_of_pos x (show (0 : Int) < 2147483629 by decide)
          refine ⟨_, rfl, x, _, rfl, rfl, (by show (0 : Int) < 2147483629; decide), _, rfl, 30011, a, rfl, rfl, .inl ⟨by decide, by decide⟩, _, _, rfl, rfl, _, 17, rfl, rfl, _, 3, rfl, rfl, ⟨by decide, by decide, ?_⟩, _, 2147483587, rfl, rfl, (by show (0 : Int) < 2147483587; decide), ?_⟩
          · generalize x % 2147483629 = y at b1 b2
            show (y + 30011 * a + 17).natAbs < 2 ^ 64
            omega
          · generalize (x % 2147483629 + 30011 * a + 17) ^ (3 : Int).toNat = z
            have d1 := Int.emod_nonneg z (show (2147483587 : Int) ≠ 0 by decide)
            have d2 := Int.emod_lt_of_pos z (show (0 : Int) < 2147483587 by decide)
            obtain ⟨o, ho⟩ : ∃ o, z % 2147483587 = o := ⟨_, rfl⟩
            rw [ho] at d1 d2
            show tSeq _ _ _ [some (.ref p), some (.int m), none, some (.int a), some (.ref c), some (.int x), some (.int (z % 2147483587)), none] _
            rw [ho]
            have f1 := Int.emod_nonneg o (show (65521 : Int) ≠ 0 by decide)
            have f2 := Int.emod_lt_of_pos o (show (0 : Int) < 65521 by decide)
            refine ⟨_, rfl, _, rfl, 611, a, rfl, rfl, .inl ⟨by decide, by decide⟩, _, rfl, _, a, rfl, rfl, .inr ⟨by omega, by omega⟩, o, _, rfl, rfl, _, 29, rfl, rfl, _, 5, rfl, rfl, ⟨by decide, by decide, ?_⟩, _, 2147483563, rfl, rfl, (by show (0 : Int) < 2147483563; decide), ?_⟩
            · show (o + 611 * a * a + 29).natAbs < 2 ^ 64
              omega
            · refine ⟨_, rfl, _, rfl, o, 65521, rfl, rfl, (by show (0 : Int) < 65521; decide), _, 1, rfl, rfl, _, _, rfl, rfl, .inr ⟨by omega, by omega⟩, _, 2147483549, rfl, rfl, (by show (0 : Int) < 2147483549; decide), _, 64, rfl, rfl, ⟨by decide, by decide⟩, _, rfl, _, m, rfl, rfl, (by show (0 : Int) < m; omega), ?_⟩
              exact fin _ (Int.emod_nonneg _ (by omega)) (Int.emod_lt_of_pos _ (by omega))
end
/-! ### texts as lists of signs -/
abbrev sc (l : List Nat) : Str := ⟨l.toArray⟩
theorem sc_list (z : Str) : sc z.cps.toList = z := rfl
theorem sc_len (l : List Nat) : (sc l).length = l.length := by
  show l.toArray.size = l.length
  simp
theorem sc_app (a b : List Nat) : (sc a ++ sc b : Str) = sc (a ++ b) := by
  have h : TL.tl (sc a ++ sc b) = TL.tl (sc (a ++ b)) := by
    rw [TL.tl_append]
  have h2 := congrArg sc h
  exact h2
theorem sc_take (l : List Nat) {k : Nat} (hk : k ≤ l.length) : cutS (sc l) none (some (k : Int)) = sc (l.take k) := by
  unfold cutS
  rw [HT.sIx_none, HT.sIx_nat, sc_len, Nat.min_eq_left hk]
  show sc ((l.toArray.toList.drop 0).take (k - 0)) = sc (l.take k)
  simp
theorem sc_drop (l : List Nat) {k : Nat} (hk : k ≤ l.length) : cutS (sc l) (some (k : Int)) none = sc (l.drop k) := by
  unfold cutS
  rw [HT.sIx_none, HT.sIx_nat, sc_len, Nat.min_eq_left hk]
  show sc ((l.toArray.toList.drop k).take (l.length - k)) = sc (l.drop k)
  rw [List.take_of_length_le (by simp)]
theorem sc_join (ls : List (List Nat)) : Txt.join "" (ls.map sc) = sc ls.flatten := by
  have h : ∀ l : List (List Nat), TL.joinL [] l = l.flatten := by
    intro l
    induction l with
    | nil => rfl
    | cons p r ih =>
      cases r with
      | nil => show p = [p].flatten; simp
      | cons q r => show p ++ ([] ++ TL.joinL [] (q :: r)) = _; rw [List.nil_append, ih]; rfl
  have e := TL.tl_join "" (ls.map sc)
  rw [show TL.tl ("" : Str) = [] from rfl, h, List.map_map] at e
  rw [TL.join_eq]
  have e2 : ls.map (TL.tl ∘ sc) = ls := by
    have : (TL.tl ∘ sc) = id := funext fun l => by show l.toArray.toList = l; simp
    rw [this, List.map_id]
  rw [e2] at e
  exact congrArg sc e
abbrev abc : Str := "abcdefghijklmnopqrstuvwxyz"
def Lc (i : Nat) : Nat := abc.cps.toList.getD i 0
theorem abc_len : abc.cps.toList.length = 26 := by decide +kernel
theorem at_abc {r : Int} (h0 : 0 ≤ r) (h1 : r < 26) : atI abc.cps.toList r = some (Lc r.toNat) := by
  have h : r.toNat < abc.cps.toList.length := by rw [abc_len]; omega
  have e : ((r.toNat : Nat) : Int) = r := by omega
  have q := atI_nat (List.getElem?_eq_getElem h)
  rw [e] at q
  rw [q, Lc, List.getD_eq_getElem?_getD, List.getElem?_eq_getElem h]
  rfl
theorem Lc_in {i : Nat} (h : i < 26) : Lc i ∈ abc.cps.toList := by
  rw [Lc, List.getD_eq_getElem?_getD, List.getElem?_eq_getElem (by rw [abc_len]; exact h)]
  exact List.getElem_mem _
/-! ### the names that a law draws -/
def nmPair (t k : Nat) : List Nat := [Lc ((t + 7 * k) % 26), Lc ((t + k / 26) % 26)]
def bij (t : Nat) : Nat → List Nat
  | 0 => []
  | r + 1 => bij t (r / 2) ++ [Lc ((t + 9 * ((r + 1) % 2)) % 26)]
def nm (way t : Nat) (B : List Nat) (sp k : Nat) : List Nat := if way = 1 then bij t (k + 1) else B.take sp ++ nmPair t k ++ B.drop sp
def nmStr (way t : Nat) (B : List Nat) (sp k : Nat) : Str := sc (nm way t B sp k)
structure NmOk (way t : Nat) (B : List Nat) (sp : Nat) : Prop where
  t26 : t < 26
  b6 : B.length ≤ 6
  bl : ∀ c ∈ B, c ∈ abc.cps.toList
  s : sp ≤ B.length
/-- a list of names at l -/
def NmAt (H : Hp) (l : Addr) (m : Nat) : Prop := ∃ way t B sp, NmOk way t B sp ∧ H l = some (.lst ((List.range m).map fun k => V.str (nmStr way t B sp k)))
theorem bij_len (t : Nat) : ∀ r, (bij t r).length = if r = 0 then 0 else (bij t ((r - 1) / 2)).length + 1
  | 0 => by rw [bij]; rfl
  | r + 1 => by rw [bij, List.length_append, if_neg (by omega)]; rfl
theorem bij_le (t : Nat) : ∀ r, (bij t r).length ≤ r
  | 0 => by rw [bij]; exact Nat.le_refl _
  | r + 1 => by
    rw [bij, List.length_append]
    have := bij_le t (r / 2)
    show _ + 1 ≤ _
    omega
theorem flat_one : ∀ B : List Nat, (B.map fun c => [c]).flatten = B
  | [] => rfl
  | b :: r => by rw [List.map_cons, List.flatten_cons, flat_one r]; rfl
theorem sum_one : ∀ B : List Nat, (((B.map fun c => [c]).map sc).map (·.length)).sum = B.length
  | [] => rfl
  | b :: r => by
    rw [List.map_cons, List.map_cons, List.map_cons, List.sum_cons, sum_one r, List.length_cons, sc_len]
    exact Nat.add_comm _ _
def restOf (σ : L2.St) (_ : Hp) : Nat := match σ[10]? with
  | some (some (V.int r)) => r.toNat
  | _ => 0
/-- what _law_names promises -/
def spNames : Sp := fun vs H Q _ => ∃ (p c : Addr) (n : Nat) (m : Int), vs = [.ref p, .int m] ∧ PenAt H p c n ∧ n ≤ 50000 ∧ 0 ≤ m ∧ m ≤ 31 ∧
  ∀ (l : Addr) (H' : Hp), H l = none → NmAt H' l m.toNat → PenAt H' p c (n + 10) → But p H H' → Q (.ref l) H'
theorem yesT {σ : L2.St} {H : Hp} {A B : Hp → Prop} (h : A H) : tYes σ H fun b H3 => if b = true then A H3 else B H3 := iteT (A := A H) (B := B H) h
theorem small_sz {n : Nat} (h : n ≤ 1000) : n ≤ sizeLine := Nat.le_of_lt (small1000 h)
theorem at_ex {α : Type} {xs : List α} {r : Int} (h0 : 0 ≤ r) (h1 : r < (xs.length : Int)) : ∃ v, atI xs r = some v ∧ v ∈ xs := by
  have h : r.toNat < xs.length := by omega
  have e : ((r.toNat : Nat) : Int) = r := by omega
  have q := atI_nat (List.getElem?_eq_getElem h)
  rw [e] at q
  exact ⟨_, q, List.getElem_mem h⟩
/-- the def _law_take, as its callers need it -/
structure TakeT (P : Program) (w : World) (K : PySem.W.Frag) (mg : Str → Option Value) (base : Heap) (f : Addr) (fd : FuncData) : Prop where
  ok : FnOk P w K mg base CX0 1 f fd ["_law_pen_here", "_law_many_here"] spTake
  g : mg "_law_take" = some (.ref f)
  kp : PySem.W.keepIn K (.ref f) = true
  b : Binds K fd ["_law_pen_here", "_law_many_here"] []
/-- any def, as its callers need it -/
structure DefT (P : Program) (w : World) (K : PySem.W.Frag) (mg : Str → Option Value) (base : Heap) (x : Str) (k : Nat) (f : Addr) (fd : FuncData) (ps : List Str) (sp : Sp) : Prop where
  ok : FnOk P w K mg base CX0 k f fd ps sp
  g : mg x = some (.ref f)
  kp : PySem.W.keepIn K (.ref f) = true
  b : Binds K fd ps []
/-! ### names round a telling one -/
theorem mulOk01 (x : Str) (b : Bool) : MulOk x (if b = true then 1 else 0) := by
  cases b with
  | true => exact ⟨by decide, fun _ z => by simp at z, fun _ z => by simp at z⟩
  | false => exact ⟨by decide, fun z => absurd (by decide) z, fun z => absurd (by decide) z⟩
theorem op_mul01 {X : Cx} : OpR X (binaryOp .Mult) (fun x y H Q => ∃ (i : Str) (b : Bool), x = .str i ∧ y = .int (if b = true then 1 else 0) ∧ Q (.str (if b = true then i else "")) H) := by
  intro pins s σ H x y v u Q I rx ry h
  obtain ⟨i, b, rfl, rfl, q⟩ := h
  obtain ⟨t, rfl⟩ := rx
  obtain ⟨t', rfl⟩ := ry
  have e : Txt.mul i (if b = true then 1 else 0) = if b = true then i else "" := by cases b <;> rfl
  exact SB.mul (mulOk01 i b) fun t' tk => ⟨.str (Txt.mul i (if b = true then 1 else 0)), H, I.tok _, ⟨_, rfl⟩, by rw [e]; exact q⟩
def moreL (c k : Nat) : List Nat := (if k % 2 = 1 then [c] else []) ++ (if 26 ≤ k then [97, 98] else [])
def nw (B : List Nat) (sp t st k : Nat) : List Nat := B.take sp ++ [Lc ((t + st * k) % 26)] ++ B.drop sp ++ moreL (Lc ((t + st * k) % 26)) k
structure NrOk (b : Nat) (B : List Nat) (sp t st : Nat) : Prop where
  b : B.length ≤ b
  bl : ∀ c ∈ B, c ∈ abc.cps.toList
  s : sp ≤ B.length
  t : t < 26
  st : st = 1 ∨ st = 7 ∨ st = 25 ∨ st = 11
abbrev nrV (B : List Nat) (sp t st : Nat) : HO := .tup [.str (sc B), .int (sp : Int), .int (t : Int), .int (st : Int)]
def spNamer : Sp := fun vs H Q _ => ∃ (p c : Addr) (n : Nat) (m : Int), vs = [.ref p, .int m] ∧ PenAt H p c n ∧ n ≤ 50000 ∧ 1 ≤ m ∧ m ≤ 7 ∧
  ∀ (a : Addr) (B : List Nat) (sp t st : Nat) (H' : Hp), H a = none → NrOk (m - 1).toNat B sp t st → H' a = some (nrV B sp t st) → PenAt H' p c (n + 10) → But p H H' → Q (.ref a) H'
def spName : Sp := fun vs H Q _ => ∃ (a : Addr) (b : Nat) (B : List Nat) (sp t st : Nat) (k : Nat), vs = [.ref a, .int (k : Int)] ∧ NrOk b B sp t st ∧ b ≤ 6 ∧ k < 30 ∧ H a = some (nrV B sp t st) ∧ Q (.str (sc (nw B sp t st k))) H
section
variable {P : Program} {w : World} {K : PySem.W.Frag} {mg : Str → Option Value} {base : Heap}
abbrev namerN : List Str := ["_law_pen_here", "_law_most", "_law_letters", "_law_base", "_law_k"]
theorem scNamer : FnScope namerN ["_law_pen_here", "_law_most"] (defScope sNamer) := ⟨rfl, rfl, rfl, by decide +kernel, rfl, by decide +kernel, by decide +kernel⟩
abbrev nameN : List Str := ["_law_namer_here", "_law_k", "_law_letters", "_law_base", "_law_spot", "_law_turn", "_law_step", "_law_letter", "_law_more"]
theorem scName : FnScope nameN ["_law_namer_here", "_law_k"] (defScope sName) := ⟨rfl, rfl, rfl, by decide +kernel, rfl, by decide +kernel, by decide +kernel⟩
set_option maxHeartbeats 4000000 in
theorem ok_namer {f fT : Addr} {fd fdT : FuncData} (F : Fun K "_law_namer" "_law_namer" sNamer f fd) (T : TakeT P w K mg base fT fdT) (ml : mg "len" = none) (mr : mg "range" = none) :
    FnOk P w K mg base CX0 2 f fd ["_law_pen_here", "_law_most"] spNamer := by
  refine F.ok scNamer (fun vs H Q E h => ?_) (fun cdv A outer s H vs Q E hr h => ?_)
  · obtain ⟨p, c, n, m, rfl, _⟩ := h
    rfl
  · obtain ⟨p, c, n, m, rfl, pen, hn, m1, m7, q⟩ := h
    have nd := scNamer.nd
    refine ⟨_, pss_cons (ps_set (i := 2) nd rfl (Or.inr rfl) pe_str)
      (pss_cons (ps_set (i := 3) nd rfl (Or.inl rfl) (pe_join pe_str (pe_lc (own := [("_law_k", 4)]) (g := gName 4) (tt := tYes) rfl nd
          (pi_range1 rfl mr (pa_cons (pe_call T.ok hr (by rfl) T.g T.kp T.b .nil pass0 (pa_cons (pv 0) (pa_cons (pv 1) pa_nil))) pa_nil))
          (blkOk_by (N := namerN) (sc := defScope sNamer) (by decide +kernel))
          (fun _ _ _ _ _ => pg_name (i := 4) nd rfl (Or.inl rfl)) (fun _ _ _ _ _ => pts_nil)
          (fun _ _ _ _ _ => pe_ix ix_str (pv 2) (pe_call T.ok hr (by rfl) T.g T.kp T.b .nil pass0 (pa_cons (pv 0) (pa_cons pe_int pa_nil))) (fun _ _ => rfl)))))
      (pss_one (ps_ret (pe_tup (pa_cons (pv 3) (pa_cons (pe_call T.ok hr (by rfl) T.g T.kp T.b .nil pass0 (pa_cons (pv 0) (pa_cons (pe_op op_add (pe_callB call_len_str (by rfl) ml PySem.boot_len (pa_cons (pv 3) pa_nil)) pe_int) pa_nil)))
        (pa_cons (pe_call T.ok hr (by rfl) T.g T.kp T.b .nil pass0 (pa_cons (pv 0) (pa_cons pe_int pa_nil)))
        (pa_cons (pe_ix ix_list (pe_lst (pa_cons pe_int (pa_cons pe_int (pa_cons pe_int (pa_cons pe_int pa_nil))))) (pe_call T.ok hr (by rfl) T.g T.kp T.b .nil pass0 (pa_cons (pv 0) (pa_cons pe_int pa_nil))) (fun _ _ => rfl)) pa_nil)))))))), ?_⟩
    refine ⟨⟨_, rfl⟩, _, rfl, _, rfl, p, c, n, m, rfl, pen, by omega, by omega, by omega, fun kk H3 k0 k6 pen3 bt3 => ⟨kk, rfl, by omega, by omega, fun D nD => ?_⟩⟩
    have nDp : D ≠ p := fun z => pen3.there (z ▸ nD)
    have nDc : D ≠ c := fun z => pen3.cells (z ▸ nD)
    have hDn : H D = none := by
      cases e : H D with
      | none => rfl
      | some o => rw [bt3 D o e nDp] at nD; cases nD
    refine lc_range (lo := 0) (n := kk.toNat) (fun j H' => PenAt H' p c (n + 1 + j) ∧ But p H H' ∧ ∃ B : List Nat, H' D = some (.lst (((B.map fun c => [c]).map sc).map V.str)) ∧ B.length = j ∧ ∀ c ∈ B, c ∈ abc.cps.toList)
      ⟨pen3.same (same_new nD), bt3.tr (.of (same_new nD)), [], upd_same, rfl, fun y hy => nomatch hy⟩ ?_ ?_
    · rintro j H6 hj ⟨pen6, bt6, B, hD6, ly, one⟩
      refine ⟨rfl, yesT ?_⟩
      refine ⟨_, rfl, _, rfl, p, c, _, 26, rfl, pen6, by omega, by decide, by decide, fun r H7 a7 b7 pen7 bt7 => ?_⟩
      have hD7 := bt7 D _ hD6 nDp
      refine ⟨abc, r, _, rfl, rfl, (by decide +kernel), at_abc a7 b7, _, hD7, (by simp only [List.length_map]; exact small1000 (by omega)), pen7.upd nDp nDc, fun b o e nb => (upd_ne (ne_of_none e hDn)).trans ((bt6.tr bt7) b o e nb), B ++ [Lc r.toNat], ?_, by simp [ly], ?_⟩
      · rw [upd_same, List.map_append, List.map_append, List.map_append]
        rfl
      · intro y hy
        rcases List.mem_append.mp hy with h | h
        · exact one y h
        · rw [List.mem_singleton.mp h]
          exact Lc_in (by omega)
    · rintro H6 ⟨pen6, bt6, B, hD6, ly, one⟩
      have ej : Txt.join "" ((B.map fun c => [c]).map sc) = sc B := by rw [sc_join, flat_one]
      refine ⟨"", D, (B.map fun c => [c]).map sc, rfl, rfl, .inl (SqL.of hD6), (by rw [sum_one]; simp only [List.length_map]; show B.length + B.length * 0 ≤ 16777216; omega), ?_⟩
      rw [ej]
      refine ⟨_, rfl, _, rfl, _, rfl, sc B, rfl, (by rw [sc_len]; exact small_sz (by omega)), _, 1, rfl, rfl, p, c, n + 7, (B.length : Int) + 1, (by rw [sc_len]; rfl), pen6.mono (by omega), by omega, by omega, by omega, fun r4 H7 a4 b4 pen7 bt7 => ?_⟩
      refine ⟨_, rfl, p, c, n + 8, 26, rfl, pen7, by omega, by decide, by decide, fun r5 H8 a5 b5 pen8 bt8 => ?_⟩
      refine ⟨(by show 4 ≤ sizeLine; decide), fun l nl => ?_⟩
      have sl := @same_new _ _ (.lst [V.int 1, .int 7, .int 25, .int 11]) nl
      have nlp : l ≠ p := fun z => pen8.there (z ▸ nl)
      refine ⟨_, rfl, p, c, n + 9, 4, rfl, pen8.same sl, by omega, by decide, by decide, fun r6 H9 a6 b6 pen9 bt9 => ?_⟩
      obtain ⟨st, hst, so⟩ : ∃ st : Nat, atI [V.int 1, .int 7, .int 25, .int 11] r6 = some (.int (st : Int)) ∧ (st = 1 ∨ st = 7 ∨ st = 25 ∨ st = 11) := by
        have w4 : r6 = 0 ∨ r6 = 1 ∨ r6 = 2 ∨ r6 = 3 := by omega
        rcases w4 with rfl | rfl | rfl | rfl
        · exact ⟨1, atI_nat (j := 0) rfl, .inl rfl⟩
        · exact ⟨7, atI_nat (j := 1) rfl, .inr (.inl rfl)⟩
        · exact ⟨25, atI_nat (j := 2) rfl, .inr (.inr (.inl rfl))⟩
        · exact ⟨11, atI_nat (j := 3) rfl, .inr (.inr (.inr rfl))⟩
      refine ⟨l, _, r6, _, rfl, rfl, SqL.of (bt9 l _ upd_same nlp), hst, (by show 4 ≤ sizeLine; decide), fun t nt => ?_⟩
      have ntp : t ≠ p := fun z => pen9.there (z ▸ nt)
      have btA : But p H H9 := bt6.tr (bt7.tr (bt8.tr ((But.of sl).tr bt9)))
      have tn : H t = none := by
        cases e : H t with
        | none => rfl
        | some o => rw [btA t o e ntp] at nt; cases nt
      have e4 : ((r4.toNat : Nat) : Int) = r4 := by omega
      have e5 : ((r5.toNat : Nat) : Int) = r5 := by omega
      refine q t B r4.toNat r5.toNat st _ tn ⟨by omega, one, by omega, by omega, so⟩ ?_ (pen9.same (same_new nt)) (btA.tr (.of (same_new nt)))
      rw [upd_same, nrV, e4, e5]
set_option maxHeartbeats 4000000 in
theorem ok_name {f : Addr} {fd : FuncData} (F : Fun K "_law_name" "_law_name" sName f fd) : FnOk P w K mg base CX0 1 f fd ["_law_namer_here", "_law_k"] spName := by
  refine F.ok scName (fun vs H Q E h => ?_) (fun cdv A outer s H vs Q E hr h => ?_)
  · obtain ⟨a, b, B, sp, t, st, k, rfl, _⟩ := h
    rfl
  · obtain ⟨a, b, B, sp, t, st, k, rfl, ok, b6, k30, ha, q⟩ := h
    have nd := scName.nd
    refine ⟨_, pss_cons (ps_set (i := 2) nd rfl (Or.inl rfl) pe_str)
      (pss_cons (ps_asg (pv 0) (pg_tup (by rfl) (pgs_cons (pg_name (i := 3) nd rfl (Or.inl rfl)) (pgs_cons (pg_name (i := 4) nd rfl (Or.inl rfl)) (pgs_cons (pg_name (i := 5) nd rfl (Or.inl rfl)) (pgs_cons (pg_name (i := 6) nd rfl (Or.inl rfl)) pgs_nil))))))
      (pss_cons (ps_set (i := 7) nd rfl (Or.inl rfl) (pe_ix ix_str (pv 2) (pe_op op_mod (pe_op op_add (pv 5) (pe_op op_mul (pv 6) (pv 1))) pe_int) (fun _ _ => rfl)))
      (pss_cons (ps_set (i := 8) nd rfl (Or.inl rfl) (pe_op op_add_str (pe_op op_mul01 (pv 7) (pe_op op_mod (pv 1) pe_int)) (pe_op op_mul01 pe_str (pe_op op_fdiv (pv 1) pe_int))))
      (pss_one (ps_ret (pe_op op_add_str (pe_op op_add_str (pe_op op_add_str (pe_slice sl_str (pv 3) po_none (po_some (pv 4))) (pv 7)) (pe_slice sl_str (pv 3) (po_some (pv 4)) po_none)) (pv 8))))))), ?_⟩
    have i1 : 0 ≤ ((t : Int) + (st : Int) * (k : Int)) % 26 := Int.emod_nonneg _ (by decide)
    have i2 : ((t : Int) + (st : Int) * (k : Int)) % 26 < 26 := Int.emod_lt_of_pos _ (by decide)
    have q1 : (((t : Int) + (st : Int) * (k : Int)) % 26).toNat = (t + st * k) % 26 := by
      have : (((t : Int) + (st : Int) * (k : Int)) % 26) = (((t + st * k) % 26 : Nat) : Int) := by simp
      rw [this]
      rfl
    have st25 : st ≤ 25 := by
      have := ok.st
      omega
    refine ⟨_, rfl, a, _, rfl, SqT.of ha, rfl, _, _, rfl, _, _, rfl, _, _, rfl, _, _, rfl, rfl, ?_⟩
    refine ⟨_, rfl, _, rfl, _, rfl, _, rfl, (st : Int), (k : Int), rfl, rfl, ?_, (t : Int), _, rfl, rfl, _, 26, rfl, rfl, (by show (0 : Int) < 26; decide), abc, _, _, rfl, rfl, (by decide +kernel), at_abc i1 i2, ?_⟩
    · exact .inl ⟨by omega, by omega⟩
    rw [q1]
    have bB := ok.b
    have sB := ok.s
    have k2 : ((k : Int) % 2) = if decide (k % 2 = 1) = true then 1 else 0 := by
      by_cases z : k % 2 = 1
      · rw [decide_eq_true z, if_pos rfl]
        omega
      · rw [decide_eq_false z, if_neg (by decide)]
        omega
    have k26 : ((k : Int) / 26) = if decide (26 ≤ k) = true then 1 else 0 := by
      by_cases z : 26 ≤ k
      · rw [decide_eq_true z, if_pos rfl]
        omega
      · rw [decide_eq_false z, if_neg (by decide)]
        omega
    generalize hc : Lc ((t + st * k) % 26) = ch
    refine ⟨_, rfl, _, rfl, (k : Int), 2, rfl, rfl, (by show (0 : Int) < 2; decide), ⟨#[ch]⟩, decide (k % 2 = 1), rfl, congrArg V.int k2, ?_⟩
    refine ⟨_, rfl, (k : Int), 26, rfl, rfl, ⟨by decide, by decide⟩, "ab", decide (26 ≤ k), rfl, congrArg V.int k26, ?_⟩
    have m1 : (if decide (k % 2 = 1) = true then (⟨#[ch]⟩ : Str) else "") = sc (if k % 2 = 1 then [ch] else []) := by
      by_cases z : k % 2 = 1
      · rw [decide_eq_true z, if_pos rfl, if_pos z]
      · rw [decide_eq_false z, if_neg (by decide), if_neg z]
        rfl
    have m2 : (if decide (26 ≤ k) = true then ("ab" : Str) else "") = sc (if 26 ≤ k then [97, 98] else []) := by
      by_cases z : 26 ≤ k
      · rw [decide_eq_true z, if_pos rfl, if_pos z]
        decide +kernel
      · rw [decide_eq_false z, if_neg (by decide), if_neg z]
        rfl
    rw [m1, m2]
    have l1 : (if k % 2 = 1 then [ch] else []).length ≤ 1 := by split <;> simp
    have l2 : (if 26 ≤ k then [97, 98] else []).length ≤ 2 := by split <;> simp
    refine ⟨_, _, rfl, rfl, (by rw [sc_len, sc_len]; exact small_sz (by omega)), ?_⟩
    rw [sc_app]
    have c1 : cutS (sc B) none (some (sp : Int)) = sc (B.take sp) := sc_take B sB
    have c2 : cutS (sc B) (some (sp : Int)) none = sc (B.drop sp) := sc_drop B sB
    have szB : (sc B).length ≤ sizeLine := by rw [sc_len]; exact small_sz (by omega)
    refine ⟨_, rfl, _, rfl, (sp : Int), rfl, sc B, rfl, szB, _, rfl, _, _, rfl, rfl, ?_, _, rfl, _, rfl, (sp : Int), rfl, sc B, rfl, szB, _, _, rfl, rfl, ?_, _, rfl, _, _, rfl, rfl, ?_, ?_⟩
    · rw [c1, sc_len]
      refine small_sz ?_
      rw [List.length_take]
      show _ + 1 ≤ _
      omega
    · rw [c1, c2, show (⟨#[ch]⟩ : Str) = sc [ch] from rfl, sc_app, sc_len, sc_len, List.length_append, List.length_take, List.length_drop]
      refine small_sz ?_
      show _ + 1 + _ ≤ _
      omega
    · rw [c1, c2, show (⟨#[ch]⟩ : Str) = sc [ch] from rfl, sc_app, sc_app, sc_len, sc_len, List.length_append, List.length_append, List.length_append, List.length_take, List.length_drop]
      refine small_sz ?_
      show _ + 1 + _ + _ ≤ _
      omega
    · rw [c1, c2, show (⟨#[ch]⟩ : Str) = sc [ch] from rfl, sc_app, sc_app, sc_app]
      rw [nw, hc] at q
      exact q
end
/-! ### entries -/
inductive Ent where
  | come (nm : Str) (mo : Int) (g pl : Str) (many price : Int)
  | go (nm : Str) (mo : Int) (g pl : Str) (many : Int)
  | move (nm : Str) (mo : Int) (g one other : Str) (many : Int)
  | some_ (nm : Str) (mo : Int) (g one other : Str)
  | swap (nm : Str) (mo : Int) (one other : Str)
  | count (nm : Str) (mo : Int) (g pl : Str) (many : Int) (hand : Str)
  | look (nm : Str) (mo : Int) (g pl : Str)
namespace Ent
def word : Ent → Str
  | come .. => "come" | go .. => "go" | move .. => "move" | some_ .. => "some" | swap .. => "swap" | count .. => "count" | look .. => "look"
def name : Ent → Str
  | come n .. => n | go n .. => n | move n .. => n | some_ n .. => n | swap n .. => n | count n .. => n | look n .. => n
def moment : Ent → Int
  | come _ m .. => m | go _ m .. => m | move _ m .. => m | some_ _ m .. => m | swap _ m .. => m | count _ m .. => m | look _ m .. => m
def rest : Ent → List V
  | come _ _ g p m r => [.str g, .str p, .int m, .int r]
  | go _ _ g p m => [.str g, .str p, .int m]
  | move _ _ g o t m => [.str g, .str o, .str t, .int m]
  | some_ _ _ g o t => [.str g, .str o, .str t]
  | swap _ _ o t => [.str o, .str t]
  | count _ _ g p m h => [.str g, .str p, .int m, .str h]
  | look _ _ g p => [.str g, .str p]
def vals (e : Ent) : List V := .str e.word :: .str e.name :: .int e.moment :: e.rest
/-- its parts are drawn from these places, goods and hands -/
def From (PL GL HL : List Str) : Ent → Prop
  | come _ _ g p m r => g ∈ GL ∧ p ∈ PL ∧ 1 ≤ m ∧ m ≤ 1000000000 ∧ 0 ≤ r ∧ r ≤ 1000000000
  | go _ _ g p m => g ∈ GL ∧ p ∈ PL ∧ 1 ≤ m ∧ m ≤ 1000000000
  | move _ _ g o t m => g ∈ GL ∧ o ∈ PL ∧ t ∈ PL ∧ (PL.Nodup → o ≠ t) ∧ 1 ≤ m ∧ m ≤ 1000000000
  | some_ _ _ g o t => g ∈ GL ∧ o ∈ PL ∧ (t = "" ∨ (t ∈ PL ∧ (PL.Nodup → o ≠ t)))
  | swap _ _ o t => o ∈ PL ∧ t ∈ PL ∧ (PL.Nodup → o ≠ t)
  | count _ _ g p m h => g ∈ GL ∧ p ∈ PL ∧ 0 ≤ m ∧ m ≤ 1000000000 ∧ h ∈ HL
  | look _ _ g p => g ∈ GL ∧ p ∈ PL
end Ent
def words7 : List Str := ["come", "go", "move", "some", "swap", "count", "look"]
abbrev words10 : List Str := ["come", "go", "move", "some", "swap", "count", "look", "count", "swap", "move"]
theorem Ent.word_in (e : Ent) : e.word ∈ words7 := by
  cases e <;> simp [Ent.word, words7]
abbrev StrsAt (H : Hp) (l : Addr) (ys : List Str) : Prop := H l = some (.lst (ys.map V.str))
def spMany : Sp := fun vs H Q _ => ∃ (p c : Addr) (n : Nat), vs = [.ref p] ∧ PenAt H p c n ∧ n ≤ 90000 ∧
  ∀ (r : Int) (H' : Hp), 1 ≤ r → r ≤ 1000000000 → PenAt H' p c (n + 4) → But p H H' → Q (.int r) H'
def spEntryOf : Sp := fun vs H Q _ => ∃ (p c : Addr) (n : Nat) (wd nme : Str) (mo : Int) (a1 a2 a3 : Addr) (PL GL HL : List Str), vs = [.ref p, .str wd, .str nme, .int mo, .ref a1, .ref a2, .ref a3] ∧ PenAt H p c n ∧ n ≤ 80000 ∧ wd ∈ words7 ∧
  StrsAt H a1 PL ∧ StrsAt H a2 GL ∧ StrsAt H a3 HL ∧ PL ≠ [] ∧ GL ≠ [] ∧ HL ≠ [] ∧ PL.length ≤ 100 ∧ GL.length ≤ 100 ∧ HL.length ≤ 100 ∧
  ∀ (tp : Addr) (e : Ent) (H' : Hp), H tp = none → H' tp = some (.tup e.vals) → e.name = nme → e.moment = mo → e.From PL GL HL → PenAt H' p c (n + 20) → But p H H' → Q (.ref tp) H'
def spEntry : Sp := fun vs H Q _ => ∃ (p c : Addr) (n : Nat) (nme : Str) (mo : Int) (a1 a2 a3 : Addr) (PL GL HL : List Str), vs = [.ref p, .str nme, .int mo, .ref a1, .ref a2, .ref a3] ∧ PenAt H p c n ∧ n ≤ 70000 ∧
  StrsAt H a1 PL ∧ StrsAt H a2 GL ∧ StrsAt H a3 HL ∧ PL ≠ [] ∧ GL ≠ [] ∧ HL ≠ [] ∧ PL.length ≤ 100 ∧ GL.length ≤ 100 ∧ HL.length ≤ 100 ∧
  ∀ (tp : Addr) (e : Ent) (H' : Hp), H tp = none → H' tp = some (.tup e.vals) → e.name = nme → e.moment = mo → e.From PL GL HL → PenAt H' p c (n + 30) → But p H H' → Q (.ref tp) H'
theorem pen_strs {H H' : Hp} {p c l : Addr} {n : Nat} {ys : List Str} (pen : PenAt H p c n) (b : But p H H') (h : StrsAt H l ys) : StrsAt H' l ys := by
  obtain ⟨kvs, ns, a, x, g1, _⟩ := pen.ex
  exact b l _ h (ne_of h g1 (by intro z; cases z))
theorem pen_free {H H' : Hp} {p c l : Addr} {n : Nat} (pen : PenAt H p c n) (b : But p H H') (h : H' l = none) (pen' : PenAt H' p c n) : H l = none := by
  cases e : H l with
  | none => rfl
  | some o =>
    have nl : l ≠ p := fun z => pen'.there (z ▸ h)
    rw [b l o e nl] at h
    cases h
theorem But.free {H H' : Hp} {p l : Addr} (b : But p H H') (h : H' l = none) (hp : H' p ≠ none) : H l = none := by
  cases e : H l with
  | none => rfl
  | some o =>
    have nl : l ≠ p := fun z => hp (z ▸ h)
    rw [b l o e nl] at h
    cases h
theorem at_strs {ys : List Str} {r : Int} (h0 : 0 ≤ r) (h1 : r < (ys.length : Int)) : ∃ y, atI (ys.map V.str) r = some (.str y) ∧ ys[r.toNat]? = some y ∧ y ∈ ys := by
  have h : r.toNat < ys.length := by omega
  have e : ((r.toNat : Nat) : Int) = r := by omega
  have q := atI_nat (xs := ys.map V.str) (j := r.toNat) (v := .str ys[r.toNat]) (by rw [List.getElem?_map, List.getElem?_eq_getElem h]; rfl)
  rw [e] at q
  exact ⟨_, q, List.getElem?_eq_getElem h, List.getElem_mem h⟩
theorem at_ints {ns : List Int} {r : Int} (h0 : 0 ≤ r) (h1 : r < (ns.length : Int)) : ∃ y, atI (ns.map V.int) r = some (.int y) ∧ y ∈ ns := by
  have h : r.toNat < ns.length := by omega
  have e : ((r.toNat : Nat) : Int) = r := by omega
  have q := atI_nat (xs := ns.map V.int) (j := r.toNat) (v := .int ns[r.toNat]) (by rw [List.getElem?_map, List.getElem?_eq_getElem h]; rfl)
  rw [e] at q
  exact ⟨_, q, List.getElem_mem h⟩
/-- moments drawn, to be drawn from -/
def MomL (ns : List Int) : Prop := ns ≠ [] ∧ ns.length ≤ 12 ∧ ∀ x ∈ ns, 0 ≤ x ∧ x ≤ 9999
def spMoms : Sp := fun vs H Q _ => ∃ (p c : Addr) (n : Nat), vs = [.ref p] ∧ PenAt H p c n ∧ n ≤ 60000 ∧
  ∀ (l : Addr) (ns : List Int) (H' : Hp), H l = none → H' l = some (.lst (ns.map V.int)) → MomL ns → PenAt H' p c (n + 13) → But p H H' → Q (.ref l) H'
section
variable {P : Program} {w : World} {K : PySem.W.Frag} {mg : Str → Option Value} {base : Heap}
theorem scMany : FnScope ["_law_pen_here", "_law_way"] ["_law_pen_here"] (defScope sMany) := ⟨rfl, rfl, rfl, by decide +kernel, rfl, by decide +kernel, by decide +kernel⟩
theorem ok_many {f fT : Addr} {fd fdT : FuncData} (F : Fun K "_law_many" "_law_many" sMany f fd) (T : TakeT P w K mg base fT fdT) : FnOk P w K mg base CX0 2 f fd ["_law_pen_here"] spMany := by
  refine F.ok scMany (fun vs H Q E h => ?_) (fun cdv A outer s H vs Q E hr h => ?_)
  · obtain ⟨p, c, n, rfl, _⟩ := h
    rfl
  · obtain ⟨p, c, n, rfl, pen, hn, q⟩ := h
    have nd := scMany.nd
    refine ⟨_, pss_cons (ps_set (i := 1) nd rfl (Or.inl rfl) (pe_call T.ok hr (by rfl) T.g T.kp T.b .nil pass0 (pa_cons (pv 0) (pa_cons pe_int pa_nil))))
      (pss_cons (ps_if (pt_cmpR op_eq (pv 1) pe_int (nomark _)) (pss_one (ps_ret (pe_op op_sub (pe_op op_pow pe_int pe_int) (pe_call T.ok hr (by rfl) T.g T.kp T.b .nil pass0 (pa_cons (pv 0) (pa_cons pe_int pa_nil)))))) pss_nil)
      (pss_cons (ps_if (pt_cmpR op_eq (pv 1) pe_int (nomark _)) (pss_one (ps_ret (pe_op op_add (pe_op op_add pe_int (pe_op op_mul (pe_call T.ok hr (by rfl) T.g T.kp T.b .nil pass0 (pa_cons (pv 0) (pa_cons (pe_op op_pow pe_int pe_int) pa_nil))) (pe_op op_pow pe_int pe_int))) (pe_call T.ok hr (by rfl) T.g T.kp T.b .nil pass0 (pa_cons (pv 0) (pa_cons (pe_op op_pow pe_int pe_int) pa_nil)))))) pss_nil)
      (pss_one (ps_ret (pe_op op_add pe_int (pe_call T.ok hr (by rfl) T.g T.kp T.b .nil pass0 (pa_cons (pv 0) (pa_cons pe_int pa_nil)))))))), ?_⟩
    refine ⟨_, rfl, p, c, n, 6, rfl, pen, by omega, by decide, by decide, fun r1 H1 a1 b1 pen1 bt1 => ?_⟩
    refine ⟨_, rfl, rfl, _, rfl, ite2 (fun _ => ?_) (fun _ => ?_)⟩
    · refine ⟨10, 9, rfl, rfl, ⟨by decide, by decide, by decide⟩, _, rfl, p, c, n + 1, 3, rfl, pen1, by omega, by decide, by decide, fun r3 H3 a3 b3 pen3 bt3 => ?_⟩
      exact ⟨_, r3, rfl, rfl, q _ _ (by show (1 : Int) ≤ 1000000000 - r3; omega) (by show (1000000000 : Int) - r3 ≤ 1000000000; omega) (pen3.mono (by omega)) (bt1.tr bt3)⟩
    refine ⟨_, rfl, rfl, _, rfl, ite2 (fun _ => ?_) (fun _ => ?_)⟩
    · refine ⟨_, rfl, 10, 4, rfl, rfl, ⟨by decide, by decide, by decide⟩, p, c, n + 1, 10 ^ (4 : Int).toNat, rfl, pen1, by omega, by decide, by decide, fun r3 H3 a3 b3 pen3 bt3 => ?_⟩
      have b3' : r3 < 10000 := b3
      refine ⟨10, 5, rfl, rfl, ⟨by decide, by decide, by decide⟩, r3, 10 ^ (5 : Int).toNat, rfl, rfl, .inr ⟨by decide, by decide⟩, 1, _, rfl, rfl, ?_⟩
      refine ⟨_, rfl, 10, 5, rfl, rfl, ⟨by decide, by decide, by decide⟩, p, c, n + 2, 10 ^ (5 : Int).toNat, rfl, pen3, by omega, by decide, by decide, fun r4 H4 a4 b4 pen4 bt4 => ?_⟩
      have b4' : r4 < 100000 := b4
      exact ⟨_, r4, rfl, rfl, q _ _ (by show (1 : Int) ≤ 1 + r3 * 100000 + r4; omega) (by show (1 : Int) + r3 * 100000 + r4 ≤ 1000000000; omega) (pen4.mono (by omega)) (bt1.tr (bt3.tr bt4))⟩
    · refine ⟨_, rfl, p, c, n + 1, 9, rfl, pen1, by omega, by decide, by decide, fun r3 H3 a3 b3 pen3 bt3 => ?_⟩
      exact ⟨1, r3, rfl, rfl, q _ _ (by omega) (by omega) (pen3.mono (by omega)) (bt1.tr bt3)⟩
abbrev momN : List Str := ["_law_pen_here", "_law_way", "_law_k"]
theorem scMom : FnScope momN ["_law_pen_here"] (defScope sMoments) := ⟨rfl, rfl, rfl, by decide +kernel, rfl, by decide +kernel, by decide +kernel⟩
set_option maxHeartbeats 2000000 in
theorem ok_moms {f fT : Addr} {fd fdT : FuncData} (F : Fun K "_law_moments" "_law_moments" sMoments f fd) (T : TakeT P w K mg base fT fdT) (mr : mg "range" = none) : FnOk P w K mg base CX0 2 f fd ["_law_pen_here"] spMoms := by
  refine F.ok scMom (fun vs H Q E h => ?_) (fun cdv A outer s H vs Q E hr h => ?_)
  · obtain ⟨p, c, n, rfl, _⟩ := h
    rfl
  · obtain ⟨p, c, n, rfl, pen, hn, q⟩ := h
    have nd := scMom.nd
    refine ⟨_, pss_cons (ps_set (i := 1) nd rfl (Or.inl rfl) (pe_call T.ok hr (by rfl) T.g T.kp T.b .nil pass0 (pa_cons (pv 0) (pa_cons pe_int pa_nil))))
      (pss_cons (ps_if (pt_cmpR op_eq (pv 1) pe_int (nomark _)) (pss_one (ps_ret (pe_lst (pa_cons pe_int (pa_cons pe_int (pa_cons pe_int (pa_cons pe_int pa_nil))))))) pss_nil)
      (pss_cons (ps_if (pt_cmpR op_eq (pv 1) pe_int (nomark _)) (pss_one (ps_ret (pe_lst (pa_cons (pe_call T.ok hr (by rfl) T.g T.kp T.b .nil pass0 (pa_cons (pv 0) (pa_cons pe_int pa_nil))) pa_nil)))) pss_nil)
      (pss_one (ps_ret (pe_lc (own := [("_law_k", 2)]) (g := gName 2) (tt := tYes) rfl nd (pi_range1 rfl mr (pa_cons (pe_ix ix_list (pe_lst (pa_cons pe_int (pa_cons pe_int (pa_cons pe_int (pa_cons pe_int pa_nil))))) (pv 1) (fun _ _ => rfl)) pa_nil))
          (blkOk_by (N := momN) (sc := defScope sMoments) (by decide +kernel)) (fun _ _ _ _ _ => pg_name (i := 2) nd rfl (Or.inl rfl)) (fun _ _ _ _ _ => pts_nil)
          (fun _ _ _ _ _ => pe_call T.ok hr (by rfl) T.g T.kp T.b .nil pass0 (pa_cons (pv 0) (pa_cons pe_int pa_nil)))))))), ?_⟩
    refine ⟨_, rfl, p, c, n, 4, rfl, pen, by omega, by decide, by decide, fun r1 H1 a1 b1 pen1 bt1 => ?_⟩
    refine ⟨_, rfl, rfl, _, rfl, ite2 (fun _ => ?_) (fun e0 => ?_)⟩
    · refine ⟨(by show 4 ≤ sizeLine; decide), fun l nl => ?_⟩
      refine q l [0, 99, 100, 9999] _ (bt1.free nl pen1.there) upd_same ⟨by simp, by decide, fun x hx => ?_⟩ ((pen1.mono (by omega)).same (same_new nl)) (bt1.tr (.of (same_new nl)))
      simp only [List.mem_cons, List.not_mem_nil, or_false] at hx
      omega
    refine ⟨_, rfl, rfl, _, rfl, ite2 (fun _ => ?_) (fun e1 => ?_)⟩
    · refine ⟨_, rfl, p, c, n + 1, 10000, rfl, pen1, by omega, by decide, by decide, fun r3 H3 a3 b3 pen3 bt3 => ⟨(by show 1 ≤ sizeLine; decide), fun l nl => ?_⟩⟩
      refine q l [r3] _ ((bt1.tr bt3).free nl pen3.there) upd_same ⟨by simp, (by show 1 ≤ 12; decide), fun x hx => ?_⟩ ((pen3.mono (by omega)).same (same_new nl)) ((bt1.tr bt3).tr (.of (same_new nl)))
      rw [List.mem_singleton.mp hx]
      omega
    · have n0 : r1 ≠ 0 := fun z => e0 (decide_eq_true (congrArg V.int z))
      have n1 : r1 ≠ 1 := fun z => e1 (decide_eq_true (congrArg V.int z))
      refine ⟨(by show 4 ≤ sizeLine; decide), fun l nl => ?_⟩
      obtain ⟨kk, hk, k3, k12⟩ : ∃ kk : Nat, atI [V.int 0, .int 0, .int 3, .int 12] r1 = some (.int (kk : Int)) ∧ 1 ≤ kk ∧ kk ≤ 12 := by
        have w2 : r1 = 2 ∨ r1 = 3 := by omega
        rcases w2 with rfl | rfl
        · exact ⟨3, atI_nat (j := 2) rfl, by decide, by decide⟩
        · exact ⟨12, atI_nat (j := 3) rfl, by decide, by decide⟩
      have s2 := @same_new _ _ (.lst [V.int 0, .int 0, .int 3, .int 12]) nl
      refine ⟨_, rfl, l, _, r1, _, rfl, rfl, SqL.of upd_same, hk, (kk : Int), rfl, by omega, by omega, fun D nD => ?_⟩
      have pen2 := pen1.same s2
      have bt2 := bt1.tr (.of s2)
      generalize upd H1 l (.lst [V.int 0, .int 0, .int 3, .int 12]) = H2 at nD pen2 bt2
      have nDp : D ≠ p := fun z => pen2.there (z ▸ nD)
      have nDc : D ≠ c := fun z => pen2.cells (z ▸ nD)
      have hDn : H D = none := bt2.free nD pen2.there
      refine lc_range (lo := 0) (n := (kk : Int).toNat) (fun j H' => PenAt H' p c (n + 1 + j) ∧ But p H H' ∧ ∃ ns : List Int, H' D = some (.lst (ns.map V.int)) ∧ ns.length = j ∧ ∀ x ∈ ns, 0 ≤ x ∧ x ≤ 9999)
        ⟨pen2.same (same_new nD), bt2.tr (.of (same_new nD)), [], upd_same, rfl, fun y hy => nomatch hy⟩ ?_ ?_
      · rintro j H6 hj ⟨pen6, bt6, ns, hD6, ly, one⟩
        refine ⟨rfl, yesT ⟨_, rfl, p, c, _, 10000, rfl, pen6, by omega, by decide, by decide, fun r H7 a7 b7 pen7 bt7 => ?_⟩⟩
        refine ⟨_, bt7 D _ hD6 nDp, (by simp only [List.length_map]; exact small1000 (by omega)), pen7.upd nDp nDc, fun b o e nb => (upd_ne (ne_of_none e hDn)).trans ((bt6.tr bt7) b o e nb), ns ++ [r], ?_, by simp [ly], ?_⟩
        · rw [upd_same, List.map_append]
          rfl
        · intro y hy
          rcases List.mem_append.mp hy with h | h
          · exact one y h
          · rw [List.mem_singleton.mp h]
            omega
      · rintro H6 ⟨pen6, bt6, ns, hD6, ly, one⟩
        exact q D ns _ hDn hD6 ⟨fun z => by rw [z] at ly; simp at ly; omega, by omega, one⟩ (pen6.mono (by omega)) bt6
end
/-! ### an entry of a word -/
theorem pen_l {H H' : Hp} {p c l : Addr} {n : Nat} {xs : List V} (pen : PenAt H p c n) (b : But p H H') (h : H l = some (.lst xs)) : H' l = some (.lst xs) := by
  obtain ⟨kvs, ns, a, x, g1, _⟩ := pen.ex
  exact b l _ h (ne_of h g1 (by intro z; cases z))
structure Wld (H : Hp) (a1 a2 a3 a4 : Addr) (PL GL HL : List Str) (ns : List Int) : Prop where
  h1 : StrsAt H a1 PL
  h2 : StrsAt H a2 GL
  h3 : H a3 = some (.lst (ns.map V.int))
  h4 : StrsAt H a4 HL
theorem Wld.by {H H' : Hp} {p c : Addr} {n : Nat} {a1 a2 a3 a4 : Addr} {PL GL HL : List Str} {ns : List Int} (x : Wld H a1 a2 a3 a4 PL GL HL ns) (pen : PenAt H p c n) (b : But p H H') : Wld H' a1 a2 a3 a4 PL GL HL ns := ⟨pen_l pen b x.h1, pen_l pen b x.h2, pen_l pen b x.h3, pen_l pen b x.h4⟩
def spEnt : Sp := fun vs H Q _ => ∃ (p c : Addr) (n : Nat) (wo : Addr) (wd nme : Str) (a1 a2 a3 a4 : Addr) (PL GL HL : List Str) (ns : List Int), vs = [.ref p, .ref wo, .str nme, .str wd] ∧ PenAt H p c n ∧ n ≤ 70000 ∧
  H wo = some (.tup [.ref a1, .ref a2, .ref a3, .ref a4]) ∧ Wld H a1 a2 a3 a4 PL GL HL ns ∧ MomL ns ∧ PL ≠ [] ∧ GL ≠ [] ∧ HL ≠ [] ∧ PL.length ≤ 100 ∧ GL.length ≤ 100 ∧ HL.length ≤ 100 ∧
  ∀ (tp : Addr) (e : Ent) (H' : Hp), H tp = none → H' tp = some (.tup e.vals) → e.name = nme → 0 ≤ e.moment → e.moment ≤ 9999 → e.From PL GL HL → PenAt H' p c (n + 30) → But p H H' → Q (.ref tp) H'
section
variable {P : Program} {w : World} {K : PySem.W.Frag} {mg : Str → Option Value} {base : Heap}
abbrev entN : List Str := ["_law_pen_here", "_law_world", "_law_name_here", "_law_word", "_law_places", "_law_goods", "_law_moments_here", "_law_hands", "_law_moment", "_law_good", "_law_at", "_law_one", "_law_step", "_law_other", "_law_price"]
theorem scEnt : FnScope entN ["_law_pen_here", "_law_world", "_law_name_here", "_law_word"] (defScope sEntry) := ⟨rfl, rfl, rfl, by decide +kernel, rfl, by decide +kernel, by decide +kernel⟩
set_option maxHeartbeats 8000000 in
theorem ok_ent {f fT fM : Addr} {fd fdT fdM : FuncData} (F : Fun K "_law_entry" "_law_entry" sEntry f fd) (T : TakeT P w K mg base fT fdT) (M : DefT P w K mg base "_law_many" 2 fM fdM ["_law_pen_here"] spMany) (ml : mg "len" = none) (mx : mg "max" = none) (mi : mg "int" = none) :
    FnOk P w K mg base CX0 3 f fd ["_law_pen_here", "_law_world", "_law_name_here", "_law_word"] spEnt := by
  refine F.ok scEnt (fun vs H Q E h => ?_) (fun cdv A outer s H vs Q E hr h => ?_)
  · obtain ⟨p, c, n, wo, wd, nme, a1, a2, a3, a4, PL, GL, HL, ns, rfl, _⟩ := h
    rfl
  · obtain ⟨p, c, n, wo, wd, nme, a1, a2, a3, a4, PL, GL, HL, ns, rfl, pen, hn, hwo, wl, mom, ne1, ne2, ne3, lp, lg, lh, q⟩ := h
    have nd := scEnt.nd
    have hr1 : Room 1 _ := hr.mono (by decide)
    refine ⟨_, pss_cons (ps_asg (pv 1) (pg_tup (by rfl) (pgs_cons (pg_name (i := 4) nd rfl (Or.inl rfl)) (pgs_cons (pg_name (i := 5) nd rfl (Or.inl rfl)) (pgs_cons (pg_name (i := 6) nd rfl (Or.inl rfl)) (pgs_cons (pg_name (i := 7) nd rfl (Or.inl rfl)) pgs_nil))))))
      (pss_cons (ps_set (i := 8) nd rfl (Or.inl rfl) (pe_ix ix_list (pv 6) (pe_call T.ok hr1 (by rfl) T.g T.kp T.b .nil pass0 (pa_cons (pv 0) (pa_cons (pe_callB call_len_seq (by rfl) ml PySem.boot_len (pa_cons (pv 6) pa_nil)) pa_nil))) (fun _ _ => rfl)))
      (pss_cons (ps_set (i := 9) nd rfl (Or.inl rfl) (pe_ix ix_list (pv 5) (pe_call T.ok hr1 (by rfl) T.g T.kp T.b .nil pass0 (pa_cons (pv 0) (pa_cons (pe_callB call_len_seq (by rfl) ml PySem.boot_len (pa_cons (pv 5) pa_nil)) pa_nil))) (fun _ _ => rfl)))
      (pss_cons (ps_set (i := 10) nd rfl (Or.inl rfl) (pe_call T.ok hr1 (by rfl) T.g T.kp T.b .nil pass0 (pa_cons (pv 0) (pa_cons (pe_callB call_len_seq (by rfl) ml PySem.boot_len (pa_cons (pv 4) pa_nil)) pa_nil))))
      (pss_cons (ps_set (i := 11) nd rfl (Or.inl rfl) (pe_ix ix_list (pv 4) (pv 10) (fun _ _ => rfl)))
      (pss_cons (ps_set (i := 12) nd rfl (Or.inl rfl) (pe_op op_add pe_int (pe_call T.ok hr1 (by rfl) T.g T.kp T.b .nil pass0 (pa_cons (pv 0) (pa_cons (pe_callB (call_max2 rfl) (by rfl) mx (by decide +kernel) (pa_cons pe_int (pa_cons (pe_op op_sub (pe_callB call_len_seq (by rfl) ml PySem.boot_len (pa_cons (pv 4) pa_nil)) pe_int) pa_nil))) pa_nil)))))
      (pss_cons (ps_set (i := 13) nd rfl (Or.inl rfl) (pe_ix ix_list (pv 4) (pe_op op_mod (pe_op op_add (pv 10) (pv 12)) (pe_callB call_len_seq (by rfl) ml PySem.boot_len (pa_cons (pv 4) pa_nil))) (fun _ _ => rfl)))
      (pss_cons (ps_if (pt_cmpR op_eq (pv 3) pe_str (nomark _)) (pss_one (ps_ret (pe_tup (pa_cons pe_str (pa_cons (pv 2) (pa_cons (pv 8) (pa_cons (pv 9) (pa_cons (pv 11) (pa_cons (pe_ix ix_list (pe_lst (pa_cons (pv 13) (pa_cons pe_str pa_nil)))
          (pe_callTy call_int1 (by rfl) mi (by decide +kernel) (pa_cons (pe_or (pe_cmpR op_eq (pv 11) (pv 13) (nomark _)) (pe_one (pe_cmpR op_eq (pe_call T.ok hr1 (by rfl) T.g T.kp T.b .nil pass0 (pa_cons (pv 0) (pa_cons pe_int pa_nil))) pe_int (nomark _)))) pa_nil)) (fun _ _ => rfl)) pa_nil))))))))) pss_nil)
      (C8.pss_cut (ps_if (PW.pt (pw_and (pt_cmpR op_eq (pv 3) pe_str (nomark _)) (pw_and1 (pt_cmpR op_ne (pv 11) (pv 13) (nomark _))))) (pss_one (ps_ret (pe_tup (pa_cons pe_str (pa_cons (pv 2) (pa_cons (pv 8) (pa_cons (pv 11) (pa_cons (pv 13) pa_nil)))))))) pss_nil)
      (C8.pss_cut (ps_if (PW.pt (pw_and (pt_cmpR op_eq (pv 3) pe_str (nomark _)) (pw_and1 (pt_cmpR op_ne (pv 11) (pv 13) (nomark _))))) (pss_one (ps_ret (pe_tup (pa_cons pe_str (pa_cons (pv 2) (pa_cons (pv 8) (pa_cons (pv 9) (pa_cons (pv 11) (pa_cons (pv 13) (pa_cons (pe_call M.ok hr (by rfl) M.g M.kp M.b .nil pass0 (pa_cons (pv 0) pa_nil)) pa_nil)))))))))) pss_nil)
      (pss_cons (ps_if (pt_cmpR op_eq (pv 3) pe_str (nomark _))
        (pss_cons (ps_set (i := 14) nd rfl (Or.inl rfl) (pe_call T.ok hr1 (by rfl) T.g T.kp T.b .nil pass0 (pa_cons (pv 0) (pa_cons pe_int pa_nil))))
        (C8.pss_cut (ps_if (pt_cmpR op_eq (pv 14) pe_int (nomark _)) (pss_one (ps_set (i := 14) nd rfl (Or.inl rfl) (pe_op op_sub (pe_call M.ok hr (by rfl) M.g M.kp M.b .nil pass0 (pa_cons (pv 0) pa_nil)) (pe_call T.ok hr1 (by rfl) T.g T.kp T.b .nil pass0 (pa_cons (pv 0) (pa_cons pe_int pa_nil)))))) pss_nil)
        (pss_one (ps_ret (pe_tup (pa_cons pe_str (pa_cons (pv 2) (pa_cons (pv 8) (pa_cons (pv 9) (pa_cons (pv 11) (pa_cons (pe_call M.ok hr (by rfl) M.g M.kp M.b .nil pass0 (pa_cons (pv 0) pa_nil)) (pa_cons (pv 14) pa_nil)))))))))))) pss_nil)
      (pss_cons (ps_if (pt_cmpR op_in_seq (pv 3) (pe_tup (pa_cons pe_str (pa_cons pe_str pa_nil))) (by rfl)) (pss_one (ps_ret (pe_tup (pa_cons pe_str (pa_cons (pv 2) (pa_cons (pv 8) (pa_cons (pv 9) (pa_cons (pv 11) (pa_cons (pe_call M.ok hr (by rfl) M.g M.kp M.b .nil pass0 (pa_cons (pv 0) pa_nil)) pa_nil))))))))) pss_nil)
      (pss_cons (ps_if (pt_cmpR op_eq (pv 3) pe_str (nomark _)) (pss_one (ps_ret (pe_tup (pa_cons pe_str (pa_cons (pv 2) (pa_cons (pv 8) (pa_cons (pv 9) (pa_cons (pv 11) (pa_cons pe_int (pa_cons (pe_ix ix_list (pv 7) (pe_call T.ok hr1 (by rfl) T.g T.kp T.b .nil pass0 (pa_cons (pv 0) (pa_cons (pe_callB call_len_seq (by rfl) ml PySem.boot_len (pa_cons (pv 7) pa_nil)) pa_nil))) (fun _ _ => rfl)) pa_nil)))))))))) pss_nil)
      (pss_one (ps_ret (pe_tup (pa_cons pe_str (pa_cons (pv 2) (pa_cons (pv 8) (pa_cons (pv 9) (pa_cons (pv 11) pa_nil)))))))))))))))))))), ?_⟩
    have p1 : 0 < PL.length := List.length_pos_iff.mpr ne1
    have g1 : 0 < GL.length := List.length_pos_iff.mpr ne2
    have k1 : 0 < HL.length := List.length_pos_iff.mpr ne3
    have m1 : 0 < ns.length := List.length_pos_iff.mpr mom.1
    have m12 := mom.2.1
    have lmap : ∀ ys : List Str, ((ys.map V.str).length : Int) = (ys.length : Int) := fun ys => by rw [List.length_map]
    have lmapi : ((ns.map V.int).length : Int) = (ns.length : Int) := by rw [List.length_map]
    refine ⟨_, rfl, wo, _, rfl, SqT.of hwo, rfl, _, _, rfl, _, _, rfl, _, _, rfl, _, _, rfl, rfl, ?_⟩
    refine ⟨_, rfl, _, rfl, _, rfl, a3, _, rfl, .inl (SqL.of wl.h3), p, c, n, _, rfl, pen, by omega, by rw [lmapi]; omega, by rw [lmapi]; omega, fun r1 H1 b1 d1 pen1 bt1 => ?_⟩
    rw [lmapi] at d1
    have w1 := wl.by pen bt1
    obtain ⟨mo, hmo, mm⟩ := at_ints b1 d1
    have mo0 := mom.2.2 mo mm
    refine ⟨a3, _, r1, _, rfl, rfl, SqL.of w1.h3, hmo, ?_⟩
    refine ⟨_, rfl, _, rfl, _, rfl, a2, _, rfl, .inl (SqL.of w1.h2), p, c, n + 1, _, rfl, pen1, by omega, by rw [lmap]; omega, by rw [lmap]; omega, fun r2 H2 b2 d2 pen2 bt2 => ?_⟩
    rw [lmap] at d2
    have w2 := w1.by pen1 bt2
    obtain ⟨good, hg, _, hg3⟩ := at_strs b2 d2
    refine ⟨a2, _, r2, _, rfl, rfl, SqL.of w2.h2, hg, ?_⟩
    refine ⟨_, rfl, _, rfl, a1, _, rfl, .inl (SqL.of w2.h1), p, c, n + 2, _, rfl, pen2, by omega, by rw [lmap]; omega, by rw [lmap]; omega, fun r3 H3 b3 d3 pen3 bt3 => ?_⟩
    rw [lmap] at d3
    have w3 := w2.by pen2 bt3
    obtain ⟨one, ho, ho2, ho3⟩ := at_strs b3 d3
    refine ⟨_, rfl, _, rfl, a1, _, r3, _, rfl, rfl, SqL.of w3.h1, ho, ?_⟩
    have mxb : (1 : Int) ≤ (if ((PL.map V.str).length : Int) - 1 > 1 then ((PL.map V.str).length : Int) - 1 else 1) ∧ (if ((PL.map V.str).length : Int) - 1 > 1 then ((PL.map V.str).length : Int) - 1 else 1) ≤ 100 := by
      rw [lmap]
      split <;> omega
    refine ⟨_, rfl, _, rfl, a1, _, rfl, .inl (SqL.of w3.h1), _, 1, rfl, rfl, 1, _, rfl, p, c, n + 3, _, rfl, pen3, by omega, by omega, by omega, fun r4 H4 b4 d4 pen4 bt4 => ⟨1, r4, rfl, rfl, ?_⟩⟩
    have w4 := w3.by pen3 bt4
    have x1 : 0 ≤ (r3 + (1 + r4)) % (PL.length : Int) := Int.emod_nonneg _ (by omega)
    have x2 : (r3 + (1 + r4)) % (PL.length : Int) < (PL.length : Int) := Int.emod_lt_of_pos _ (by omega)
    obtain ⟨other, hp, hp2, hp3⟩ := at_strs x1 x2
    refine ⟨_, rfl, _, rfl, _, rfl, r3, 1 + r4, rfl, rfl, _, rfl, a1, _, rfl, .inl (SqL.of w4.h1), _, (PL.length : Int), rfl, by rw [lmap], (by show (0 : Int) < PL.length; omega), a1, _, _, .str other, rfl, rfl, SqL.of w4.h1, hp, ?_⟩
    have btA : But p H H4 := bt1.tr (bt2.tr (bt3.tr bt4))
    have fin : ∀ (tp : Addr) (e : Ent) (H5 : Hp) (k : Nat), H5 tp = none → But p H4 H5 → PenAt H5 p c (n + 4 + k) → k ≤ 20 → e.name = nme → e.moment = mo → e.From PL GL HL → Q (.ref tp) (upd H5 tp (.tup e.vals)) := fun tp e H5 k ntp bt5 pen5 hk e1 e2 e3 =>
      q tp e _ ((btA.tr bt5).free ntp pen5.there) upd_same e1 (by rw [e2]; exact mo0.1) (by rw [e2]; exact mo0.2) e3 ((pen5.mono (by omega)).same (same_new ntp)) ((btA.tr bt5).tr (.of (same_new ntp)))
    have stay : ∀ {l : Addr} {o : HO}, H4 l = none → But p H4 (upd H4 l o) := fun nl => .of (same_new nl)
    refine ⟨_, rfl, rfl, _, rfl, ite2 (fun _ => ?_) (fun _ => ?_)⟩
    · refine ⟨_, rfl, _, rfl, _, rfl, _, rfl, _, rfl, (by show 2 ≤ sizeLine; decide), fun l nl => ?_⟩
      have s5 := @same_new _ _ (.lst [V.str other, .str ""]) nl
      refine ⟨_, rfl, _, rfl, rfl, _, rfl, ite2 (fun e => ?_) (fun e => ?_)⟩
      · refine .inr ⟨true, rfl, l, _, 1, _, rfl, rfl, SqL.of upd_same, atI_nat (j := 1) rfl, (by show 6 ≤ sizeLine; decide), fun tp ntp => ?_⟩
        exact fin tp (.some_ nme mo good one "") _ 0 ntp (.of s5) (pen4.same s5) (by decide) rfl rfl ⟨hg3, ho3, .inl rfl⟩
      · refine ⟨_, rfl, p, c, n + 4, 3, rfl, pen4.same s5, by omega, by decide, by decide, fun r6 H6 c6 d6 pen6 bt6 => ?_⟩
        have nlp : l ≠ p := fun z => pen4.there (z ▸ nl)
        have hl6 := bt6 l _ upd_same nlp
        have nee : one ≠ other := fun z => e (decide_eq_true (congrArg V.str z))
        by_cases z : r6 = 0
        · refine ⟨rfl, .inr ⟨true, congrArg (fun b => [V.bl b]) (decide_eq_true (congrArg V.int z)), l, _, 1, _, rfl, rfl, SqL.of hl6, atI_nat (j := 1) rfl, (by show 6 ≤ sizeLine; decide), fun tp ntp => ?_⟩⟩
          exact fin tp (.some_ nme mo good one "") _ 1 ntp ((But.of s5).tr bt6) pen6 (by decide) rfl rfl ⟨hg3, ho3, .inl rfl⟩
        · refine ⟨rfl, .inr ⟨false, congrArg (fun b => [V.bl b]) (decide_eq_false fun y => z (V.int.inj y)), l, _, 0, _, rfl, rfl, SqL.of hl6, atI_nat (j := 0) rfl, (by show 6 ≤ sizeLine; decide), fun tp ntp => ?_⟩⟩
          exact fin tp (.some_ nme mo good one other) _ 1 ntp ((But.of s5).tr bt6) pen6 (by decide) rfl rfl ⟨hg3, ho3, .inr ⟨hp3, fun _ => nee⟩⟩
    refine ⟨fun σ' H' => σ' = [some (.ref p), some (.ref wo), some (.str nme), some (.str wd), some (.ref a1), some (.ref a2), some (.ref a3), some (.ref a4), some (.int mo), some (.str good), some (.int r3), some (.str one), some (.int (1 + r4)), some (.str other), none] ∧ H' = H4, ?_, ?_⟩
    · refine ⟨_, rfl, rfl, _, rfl, ite2 (fun e => ?_) (fun _ => iteF ⟨rfl, rfl⟩)⟩
      refine ⟨_, rfl, _, rfl, rfl, _, rfl, ite2 (fun e2 => ?_) (fun _ => ⟨rfl, rfl⟩)⟩
      have nee : one ≠ other := fun z => by
        rw [decide_eq_true (congrArg V.str z)] at e2
        cases e2
      refine ⟨_, rfl, _, rfl, _, rfl, _, rfl, (by show 5 ≤ sizeLine; decide), fun tp ntp => ?_⟩
      exact fin tp (.swap nme mo one other) H4 0 ntp (.refl _ _) pen4 (by decide) rfl rfl ⟨ho3, hp3, fun _ => nee⟩
    rintro σ' H' ⟨rfl, rfl⟩
    refine ⟨fun σ' H'' => σ' = [some (.ref p), some (.ref wo), some (.str nme), some (.str wd), some (.ref a1), some (.ref a2), some (.ref a3), some (.ref a4), some (.int mo), some (.str good), some (.int r3), some (.str one), some (.int (1 + r4)), some (.str other), none] ∧ H'' = H', ?_, ?_⟩
    · refine ⟨_, rfl, rfl, _, rfl, ite2 (fun e => ?_) (fun _ => iteF ⟨rfl, rfl⟩)⟩
      refine ⟨_, rfl, _, rfl, rfl, _, rfl, ite2 (fun e2 => ?_) (fun _ => ⟨rfl, rfl⟩)⟩
      have nee : one ≠ other := fun z => by
        rw [decide_eq_true (congrArg V.str z)] at e2
        cases e2
      refine ⟨_, rfl, _, rfl, _, rfl, _, rfl, _, rfl, _, rfl, p, c, n + 4, rfl, pen4, by omega, fun k2 H5 c1 d1 pen5 bt5 => ⟨(by show 7 ≤ sizeLine; decide), fun tp ntp => ?_⟩⟩
      exact fin tp (.move nme mo good one other k2) H5 4 ntp bt5 pen5 (by decide) rfl rfl ⟨hg3, ho3, hp3, fun _ => nee, c1, d1⟩
    rintro σ' H'' ⟨rfl, rfl⟩
    refine ⟨_, rfl, rfl, _, rfl, ite2 (fun _ => ?_) (fun _ => ?_)⟩
    · refine ⟨_, rfl, p, c, n + 4, 3, rfl, pen4, by omega, by decide, by decide, fun r6 H6 c6 d6 pen6 bt6 => ?_⟩
      refine ⟨fun σ' H7 => ∃ pr : Int, σ' = [some (.ref p), some (.ref wo), some (.str nme), some (.str wd), some (.ref a1), some (.ref a2), some (.ref a3), some (.ref a4), some (.int mo), some (.str good), some (.int r3), some (.str one), some (.int (1 + r4)), some (.str other), some (.int pr)] ∧ 0 ≤ pr ∧ pr ≤ 1000000000 ∧ PenAt H7 p c (n + 11) ∧ But p H'' H7, ?_, ?_⟩
      · refine ⟨_, rfl, rfl, _, rfl, ite2 (fun _ => ?_) (fun _ => ⟨r6, rfl, c6, by omega, pen6.mono (by omega), bt6⟩)⟩
        refine ⟨_, rfl, p, c, n + 5, rfl, pen6, by omega, fun m2 H7 c7 d7 pen7 bt7 => ?_⟩
        refine ⟨_, rfl, p, c, n + 9, 2, rfl, pen7, by omega, by decide, by decide, fun r8 H8 c8 d8 pen8 bt8 => ⟨m2, r8, rfl, rfl, m2 - r8, rfl, by omega, by omega, pen8.mono (by omega), bt6.tr (bt7.tr bt8)⟩⟩
      · rintro σ' H7 ⟨pr, rfl, pr0, pr1, penP, btP⟩
        refine ⟨_, rfl, _, rfl, _, rfl, _, rfl, _, rfl, p, c, n + 11, rfl, penP, by omega, fun k2 H9 c9 d9 pen9 bt9 => ⟨_, rfl, (by show 7 ≤ sizeLine; decide), fun tp ntp => ?_⟩⟩
        exact fin tp (.come nme mo good one k2 pr) H9 11 ntp (btP.tr bt9) pen9 (by decide) rfl rfl ⟨hg3, ho3, c9, d9, pr0, pr1⟩
    refine ⟨_, rfl, (by show 2 ≤ sizeLine; decide), fun tq ntq => ?_⟩
    have s6 := @same_new _ _ (.tup [V.str "go", .str "move"]) ntq
    have hq : (upd H'' tq (.tup [V.str "go", .str "move"])) tq = some (.tup [V.str "go", .str "move"]) := upd_same
    generalize upd H'' tq (.tup [V.str "go", .str "move"]) = H6 at s6 hq
    have pen6 := pen4.same s6
    have bt6 : But p H'' H6 := .of s6
    have w6 := w4.by pen4 bt6
    refine ⟨tq, _, rfl, .inr (SqT.of hq), rfl, rfl, _, rfl, ite2 (fun _ => ?_) (fun _ => ?_)⟩
    · refine ⟨_, rfl, _, rfl, _, rfl, _, rfl, _, rfl, p, c, n + 4, rfl, pen6, by omega, fun k2 H7 c1 d1 pen7 bt7 => ⟨(by show 6 ≤ sizeLine; decide), fun tp ntp => ?_⟩⟩
      exact fin tp (.go nme mo good one k2) H7 4 ntp (bt6.tr bt7) pen7 (by decide) rfl rfl ⟨hg3, ho3, c1, d1⟩
    refine ⟨_, rfl, rfl, _, rfl, ite2 (fun _ => ?_) (fun _ => ?_)⟩
    · refine ⟨_, rfl, _, rfl, _, rfl, _, rfl, _, rfl, _, rfl, _, rfl, a4, _, rfl, .inl (SqL.of w6.h4), p, c, n + 4, _, rfl, pen6, by omega, by rw [lmap]; omega, by rw [lmap]; omega, fun r7 H7 b7 d7 pen7 bt7 => ?_⟩
      rw [lmap] at d7
      have w7 := w6.by pen6 bt7
      obtain ⟨hand, hh, _, hh3⟩ := at_strs b7 d7
      refine ⟨a4, _, r7, _, rfl, rfl, SqL.of w7.h4, hh, (by show 7 ≤ sizeLine; decide), fun tp ntp => ?_⟩
      exact fin tp (.count nme mo good one 0 hand) H7 1 ntp (bt6.tr bt7) pen7 (by decide) rfl rfl ⟨hg3, ho3, by decide, by decide, hh3⟩
    · refine ⟨_, rfl, _, rfl, _, rfl, _, rfl, (by show 5 ≤ sizeLine; decide), fun tp ntp => ?_⟩
      exact fin tp (.look nme mo good one) H6 0 ntp bt6 pen6 (by decide) rfl rfl ⟨hg3, ho3⟩
end
/-! ### the order of entries, by the law -/
def Ent.rank : Ent → Int
  | .swap .. => 0 | .come .. => 1 | .go .. => 1 | .move .. => 1 | .some_ .. => 1 | .count .. => 2 | .look .. => 2
def ordV (e : Ent) : List V := [.int e.moment, .int e.rank, .str e.name]
def ordD (e : Ent) : PyData := .tuple [.int e.moment, .int e.rank, .str e.name]
theorem ord_dp {K : PySem.W.Frag} {H : Hp} {tp : Addr} {e : Ent} (h : H tp = some (.tup (ordV e))) : Dp K H (.ref tp) (ordD e) := .tup (SqT.of h) (.cons (.int _) (.cons (.int _) (.cons (.str _) .nil)))
theorem ord_alike (e g : Ent) : PySem.W.alike (ordD e) (ordD g) = true := rfl
def spOrd : Sp := fun vs H Q _ => ∃ (a : Addr) (e : Ent), vs = [.ref a] ∧ H a = some (.tup e.vals) ∧ ∀ (tp : Addr) (H' : Hp), Same H H' → H' tp = some (.tup (ordV e)) → Q (.ref tp) H'
def rankW (x : Str) : Int := 1 - (if decide (V.str x = V.str "swap") = true then 1 else 0) + (if inV (V.str x) [V.str "count", V.str "look"] = true then 1 else 0)
theorem rank_own (e : Ent) : rankW e.word = e.rank := by
  have h1 : rankW "come" = 1 := by decide +kernel
  have h2 : rankW "go" = 1 := by decide +kernel
  have h3 : rankW "move" = 1 := by decide +kernel
  have h4 : rankW "some" = 1 := by decide +kernel
  have h5 : rankW "swap" = 0 := by decide +kernel
  have h6 : rankW "count" = 2 := by decide +kernel
  have h7 : rankW "look" = 2 := by decide +kernel
  cases e
  · exact h1
  · exact h2
  · exact h3
  · exact h4
  · exact h5
  · exact h6
  · exact h7
theorem at0 (e : Ent) : atI e.vals 0 = some (.str e.word) := atI_nat (j := 0) rfl
theorem at1 (e : Ent) : atI e.vals 1 = some (.str e.name) := atI_nat (j := 1) rfl
theorem at2 (e : Ent) : atI e.vals 2 = some (.int e.moment) := atI_nat (j := 2) rfl
/-! ### the order of entries by a dict; what a count tells -/
abbrev rkD : List (Key × V) := [(Sum.inr "swap", .int 0), (Sum.inr "count", .int 2), (Sum.inr "look", .int 2)]
theorem rank_words : ∀ x ∈ words7, (valV rkD (Sum.inr x)).getD (.int 1) = .int (rankW x) := by decide +kernel
theorem rank_get (e : Ent) : (valV rkD (Sum.inr e.word)).getD (.int 1) = .int e.rank := by rw [rank_words _ e.word_in, rank_own]
def spTold : Sp := fun vs H Q _ => ∃ (p c : Addr) (n : Nat) (m k : Int), vs = [.ref p, .int m, .int k] ∧ PenAt H p c n ∧ n ≤ 80000 ∧ 1 ≤ k ∧ k ≤ 40 ∧
  ∀ (r : Int) (H' : Hp), 0 ≤ r → r ≤ 1000000000 → PenAt H' p c (n + 6) → But p H H' → Q (.int r) H'
section
variable {P : Program} {w : World} {K : PySem.W.Frag} {mg : Str → Option Value} {base : Heap}
theorem scOwn : FnScope ["_law_entry_here"] ["_law_entry_here"] (defScope sOwn) := ⟨rfl, rfl, rfl, by decide +kernel, rfl, by decide +kernel, by decide +kernel⟩
theorem ok_own {f : Addr} {fd : FuncData} (F : Fun K "_law_order" "_law_order" sOwn f fd) : FnOk P w K mg base CX0 1 f fd ["_law_entry_here"] spOrd := by
  refine F.ok scOwn (fun vs H Q E h => ?_) (fun cdv A outer s H vs Q E hr h => ?_)
  · obtain ⟨a, e, rfl, _⟩ := h
    rfl
  · obtain ⟨a, e, rfl, ha, q⟩ := h
    have hu := hu_of hr
    refine ⟨_, pss_one (ps_ret (pe_tup (pa_cons (pe_ix ix_tup (pv 0) pe_int (fun _ _ => rfl)) (pa_cons (pe_dget2 hu (pe_disp (pps_cons pe_str pe_int (pps_cons pe_str pe_int (pps_cons pe_str pe_int pps_nil))) (by rfl) (by rfl) (fun z => by cases z) (by decide)) (pe_ix ix_tup (pv 0) pe_int (fun _ _ => rfl)) pe_int ⟨rfl, rfl, rfl, rfl⟩)
      (pa_cons (pe_ix ix_tup (pv 0) pe_int (fun _ _ => rfl)) pa_nil))))), ?_⟩
    refine ⟨_, rfl, a, _, 2, _, rfl, rfl, SqT.of ha, at2 e, fun d nd => ?_⟩
    have s1 := @same_new _ _ (.dK []) nd
    have s2 : Same H (upd (upd H d (.dK [])) d (.dK rkD)) := fun b o e => (upd_ne (ne_of_none e nd)).trans (s1 b o e)
    refine ⟨upd_same, rkD, rfl, (by show 3 ≤ 15; decide), ?_⟩
    refine ⟨d, rfl, .inl ⟨_, .inl upd_same⟩, _, rfl, a, _, 0, _, rfl, rfl, SqT.of (s2 _ _ ha), at0 e, valV rkD (Sum.inr e.word), .inl ⟨_, Sum.inr e.word, .inl upd_same, rfl, rfl⟩, ?_⟩
    rw [rank_get]
    refine ⟨_, rfl, a, _, 1, _, rfl, rfl, SqT.of (s2 _ _ ha), at1 e, (by show 3 ≤ sizeLine; decide), fun tp ntp => ?_⟩
    exact q tp _ (s2.trans (same_new ntp)) upd_same
theorem scTold : FnScope ["_law_pen_here", "_law_many_here", "_law_spoilt", "_law_way"] ["_law_pen_here", "_law_many_here", "_law_spoilt"] (defScope sTold) := ⟨rfl, rfl, rfl, by decide +kernel, rfl, by decide +kernel, by decide +kernel⟩
set_option maxHeartbeats 2000000 in
theorem ok_told {f fT fM : Addr} {fd fdT fdM : FuncData} (F : Fun K "_law_told" "_law_told" sTold f fd) (T : TakeT P w K mg base fT fdT) (M : DefT P w K mg base "_law_many" 2 fM fdM ["_law_pen_here"] spMany) (mn : mg "min" = none) (mx : mg "max" = none) :
    FnOk P w K mg base CX0 3 f fd ["_law_pen_here", "_law_many_here", "_law_spoilt"] spTold := by
  refine F.ok scTold (fun vs H Q E h => ?_) (fun cdv A outer s H vs Q E hr h => ?_)
  · obtain ⟨p, c, n, m, k, rfl, _⟩ := h
    rfl
  · obtain ⟨p, c, n, m, k, rfl, pen, hn, k1, k40, q⟩ := h
    have nd := scTold.nd
    have hr1 : Room 1 _ := hr.mono (by decide)
    refine ⟨_, C8.pss_cut (ps_if (pt_cmpR op_eq (pe_call T.ok hr1 (by rfl) T.g T.kp T.b .nil pass0 (pa_cons (pv 0) (pa_cons (pv 2) pa_nil))) pe_int (nomark _))
        (pss_cons (ps_set (i := 3) nd rfl (Or.inl rfl) (pe_call T.ok hr1 (by rfl) T.g T.kp T.b .nil pass0 (pa_cons (pv 0) (pa_cons pe_int pa_nil))))
        (pss_cons (ps_set (i := 1) nd rfl (Or.inl rfl) (pe_op op_add (pv 1) (pe_ix ix_list (pe_lst (pa_cons pe_int (pa_cons (pe_un un_neg pe_int) (pa_cons pe_int (pa_cons (pe_un un_neg pe_int) (pa_cons pe_int (pa_cons pe_int pa_nil))))))) (pv 3) (fun _ _ => rfl))))
        (pss_one (ps_if (pt_cmpR op_eq (pv 3) pe_int (nomark _)) (pss_one (ps_set (i := 1) nd rfl (Or.inl rfl) (pe_call M.ok hr (by rfl) M.g M.kp M.b .nil pass0 (pa_cons (pv 0) pa_nil)))) pss_nil)))) pss_nil)
      (pss_one (ps_ret (pe_callB (call_min2 rfl) (by rfl) mn (by decide +kernel) (pa_cons (pe_callB (call_max2 rfl) (by rfl) mx (by decide +kernel) (pa_cons (pv 1) (pa_cons pe_int pa_nil))) (pa_cons (pe_op op_pow pe_int pe_int) pa_nil))))), ?_⟩
    refine ⟨fun σ' H' => ∃ (x : Int) (y : Option V), σ' = [some (.ref p), some (.int x), some (.int k), y] ∧ PenAt H' p c (n + 6) ∧ But p H H', ?_, ?_⟩
    · refine ⟨_, rfl, _, rfl, p, c, n, k, rfl, pen, by omega, k1, by omega, fun r1 H1 a1 b1 pen1 bt1 => ⟨rfl, _, rfl, ite2 (fun _ => ?_) (fun _ => ⟨m, _, rfl, pen1.mono (by omega), bt1⟩)⟩⟩
      refine ⟨_, rfl, p, c, n + 1, 6, rfl, pen1, by omega, by decide, by decide, fun r2 H2 a2 b2 pen2 bt2 => ?_⟩
      refine ⟨_, rfl, 1, rfl, 7, rfl, (by show 6 ≤ sizeLine; decide), fun l nl => ?_⟩
      have s3 := @same_new _ _ (.lst [V.int 1, .int (-1), .int 7, .int (-7), .int 0, .int 0]) nl
      obtain ⟨y, hy, _⟩ := at_ints (ns := [1, -1, 7, -7, 0, 0]) (r := r2) a2 (by show r2 < 6; omega)
      refine ⟨_, rfl, l, _, r2, _, rfl, rfl, SqL.of upd_same, hy, m, y, rfl, rfl, ?_⟩
      refine ⟨_, rfl, rfl, _, rfl, ite2 (fun _ => ?_) (fun _ => ⟨_, _, rfl, (pen2.mono (by omega)).same s3, (bt1.tr bt2).tr (.of s3)⟩)⟩
      exact ⟨_, rfl, p, c, n + 2, rfl, pen2.same s3, by omega, fun r3 H3 a3 b3 pen3 bt3 => ⟨r3, _, rfl, pen3, (bt1.tr bt2).tr ((But.of s3).tr bt3)⟩⟩
    · rintro σ' H' ⟨x, y, rfl, pen', bt'⟩
      refine ⟨_, rfl, x, 0, rfl, 10, 9, rfl, rfl, ⟨by decide, by decide, by decide⟩, _, _, rfl, q _ _ ?_ ?_ pen' bt'⟩
      · show (0 : Int) ≤ if (1000000000 : Int) < (if 0 > x then 0 else x) then 1000000000 else (if 0 > x then 0 else x)
        split <;> (try split) <;> omega
      · show (if (1000000000 : Int) < (if 0 > x then 0 else x) then (1000000000 : Int) else (if 0 > x then 0 else x)) ≤ 1000000000
        split <;> (try split) <;> omega
end
/-! ### what stands at the places, behind an entry -/
theorem put_lenT {kvs : List (List Key × V)} {k : List Key} {v u : V} (e : valV kvs k = some u) : (putK kvs k v).length = kvs.length := by
  have h := valV_any k kvs
  rw [e] at h
  have h' : (kvs.any fun kv => decide (kv.1 = k)) = true := h
  unfold putK
  rw [if_pos h', List.length_map]
abbrev stk (x g : Str) : List Key := [Sum.inr x, Sum.inr g]
structure StockL (P G : List Str) (kvs : List (List Key × V)) : Prop where
  len : kvs.length ≤ 18
  val : ∀ x ∈ P, ∀ g ∈ G, ∃ i : Int, valV kvs (stk x g) = some (.int i)
theorem StockL.put {P G : List Str} {kvs : List (List Key × V)} (s : StockL P G kvs) {k : List Key} {u : V} (e : valV kvs k = some u) (i : Int) : StockL P G (putK kvs k (.int i)) := by
  refine ⟨by rw [put_lenT e]; exact s.len, fun x hx g hg => ?_⟩
  rw [valV_put]
  by_cases z : stk x g = k
  · rw [if_pos z]
    exact ⟨i, rfl⟩
  · rw [if_neg z]
    exact s.val x hx g hg
def StockAt (H : Hp) (d : Addr) (P G : List Str) : Prop := ∃ kvs, H d = some (.dT kvs) ∧ StockL P G kvs
def Bt2 (p d : Addr) (H H' : Hp) : Prop := ∀ b o, H b = some o → b ≠ p → b ≠ d → H' b = some o
theorem Bt2.tr {p d : Addr} {H H1 H2 : Hp} (a : Bt2 p d H H1) (b : Bt2 p d H1 H2) : Bt2 p d H H2 := fun c o e n m => b c o (a c o e n m) n m
theorem Bt2.of {p d : Addr} {H H' : Hp} (h : But p H H') : Bt2 p d H H' := fun b o e n _ => h b o e n
theorem Bt2.put {p d : Addr} {H H' : Hp} {o : HO} (h : Bt2 p d H H') : Bt2 p d H (upd H' d o) := fun b u e n m => (upd_ne m).trans (h b u e n m)
theorem StockAt.same {H H' : Hp} {d : Addr} {P G : List Str} (x : StockAt H d P G) (h : Same H H') : StockAt H' d P G := by
  obtain ⟨kvs, h1, h2⟩ := x
  exact ⟨kvs, h _ _ h1, h2⟩
theorem StockAt.but {H H' : Hp} {d p c : Addr} {n : Nat} {P G : List Str} (x : StockAt H d P G) (pen : PenAt H p c n) (h : But p H H') : StockAt H' d P G := by
  obtain ⟨kvs, h1, h2⟩ := x
  obtain ⟨kw, ns, a, l, g1, _⟩ := pen.ex
  exact ⟨kvs, h _ _ h1 (ne_of h1 g1 (by intro z; cases z)), h2⟩
theorem come_ent {e : Ent} (h : e.word = "come") : ∃ n m g p k r, e = .come n m g p k r := by
  cases e <;> first | exact ⟨_, _, _, _, _, _, rfl⟩ | (refine absurd h ?_; simp only [Ent.word]; decide +kernel)
theorem go_ent {e : Ent} (h : e.word = "go") : ∃ n m g p k, e = .go n m g p k := by
  cases e <;> first | exact ⟨_, _, _, _, _, rfl⟩ | (refine absurd h ?_; simp only [Ent.word]; decide +kernel)
theorem move_ent {e : Ent} (h : e.word = "move") : ∃ n m g o t k, e = .move n m g o t k := by
  cases e <;> first | exact ⟨_, _, _, _, _, _, rfl⟩ | (refine absurd h ?_; simp only [Ent.word]; decide +kernel)
theorem some_ent {e : Ent} (h : e.word = "some") : ∃ n m g o t, e = .some_ n m g o t := by
  cases e <;> first | exact ⟨_, _, _, _, _, rfl⟩ | (refine absurd h ?_; simp only [Ent.word]; decide +kernel)
theorem swap_ent {e : Ent} (h : e.word = "swap") : ∃ n m o t, e = .swap n m o t := by
  cases e <;> first | exact ⟨_, _, _, _, rfl⟩ | (refine absurd h ?_; simp only [Ent.word]; decide +kernel)
/-- changes of one good, told in a list -/
def ChgAt (H : Hp) (l : Addr) (e : Ent) (P G : List Str) : Prop := ∃ (cs : List Addr) (ps : List (Str × Int)), H l = some (.lst (cs.map V.ref)) ∧ Paired (fun a (x : Str × Int) => H a = some (.tup [.str x.1, .int x.2])) cs ps ∧
  (∀ x ∈ ps, x.1 = "" ∨ x.1 ∈ P) ∧ (ps ≠ [] → ∃ g, g ∈ G ∧ atI e.vals 3 = some (.str g))
def spDone : Sp := fun vs H Q _ => ∃ (p c : Addr) (n : Nat) (d te gl : Addr) (P G HL : List Str) (e : Ent), vs = [.ref p, .ref d, .ref te, .ref gl] ∧ PenAt H p c n ∧ n ≤ 80000 ∧ StockAt H d P G ∧ H te = some (.tup e.vals) ∧ H gl = some (.tup (G.map V.str)) ∧ e.From P G HL ∧
  ∀ H', StockAt H' d P G → PenAt H' p c (n + 1) → Bt2 p d H H' → Q .non H'
section
variable {P : Program} {w : World} {K : PySem.W.Frag} {mg : Str → Option Value} {base : Heap}
abbrev doneN : List Str := ["_law_pen_here", "_law_stock", "_law_entry_here", "_law_goods", "_law_word", "_law_good", "_law_one", "_law_other", "_law_changes", "_law_many_here", "_law_place"]
theorem scDone : FnScope doneN ["_law_pen_here", "_law_stock", "_law_entry_here", "_law_goods"] (defScope sDone) := ⟨rfl, rfl, rfl, by decide +kernel, rfl, by decide +kernel, by decide +kernel⟩
set_option maxHeartbeats 8000000 in
theorem ok_done {f fT : Addr} {fd fdT : FuncData} (F : Fun K "_law_done" "_law_done" sDone f fd) (T : TakeT P w K mg base fT fdT) : FnOk P w K mg base CX0 2 f fd ["_law_pen_here", "_law_stock", "_law_entry_here", "_law_goods"] spDone := by
  refine F.ok scDone (fun vs H Q E h => ?_) (fun cdv A outer s H vs Q E hr h => ?_)
  · obtain ⟨p, c, n, d, te, gl, Ps, G, HL, e, rfl, _⟩ := h
    rfl
  · obtain ⟨p, c, n, d, te, gl, Ps, G, HL, e, rfl, pen, hn, st, hte, hgl, frm, q⟩ := h
    have nd := scDone.nd
    have hu := hu_of hr
    refine ⟨_, pss_cons (ps_set (i := 4) nd rfl (Or.inl rfl) (pe_ix ix_tup (pv 2) pe_int (fun _ _ => rfl)))
      (C8.pss_cut (ps_if (pt_cmpR op_eq (pv 4) pe_str (nomark _)) (pss_one (ps_for PassesOwn.never rfl (pi_tup (pv 3)) (pg_name (i := 5) nd rfl (Or.inl rfl))
          (pss_cons (ps_set (i := 6) nd rfl (Or.inl rfl) (pe_tup (pa_cons (pe_ix ix_tup (pv 2) pe_int (fun _ _ => rfl)) (pa_cons (pv 5) pa_nil))))
          (pss_cons (ps_set (i := 7) nd rfl (Or.inl rfl) (pe_tup (pa_cons (pe_ix ix_tup (pv 2) pe_int (fun _ _ => rfl)) (pa_cons (pv 5) pa_nil))))
          (pss_one (ps_asg (pe_tup (pa_cons (pe_dget hu (pv 1) (pv 7) (fun _ _ => rfl)) (pa_cons (pe_dget hu (pv 1) (pv 6) (fun _ _ => rfl)) pa_nil))) (pg_tup (by rfl) (pgs_cons (pg_sub (pv 1) (pv 6) (set_dict hu)) (pgs_cons (pg_sub (pv 1) (pv 7) (set_dict hu)) pgs_nil))))))))) pss_nil)
      (pss_cons (ps_set (i := 8) nd rfl (Or.inl rfl) (pe_lst pa_nil))
      (C8.pss_cut (ps_if (pt_cmpR op_eq (pv 4) pe_str (nomark _)) (pss_one (ps_set (i := 8) nd rfl (Or.inl rfl) (pe_lst (pa_cons (pe_tup (pa_cons (pe_ix ix_tup (pv 2) pe_int (fun _ _ => rfl)) (pa_cons (pe_ix ix_tup (pv 2) pe_int (fun _ _ => rfl)) pa_nil))) pa_nil)))) pss_nil)
      (C8.pss_cut (ps_if (pt_cmpR op_eq (pv 4) pe_str (nomark _)) (pss_one (ps_set (i := 8) nd rfl (Or.inl rfl) (pe_lst (pa_cons (pe_tup (pa_cons (pe_ix ix_tup (pv 2) pe_int (fun _ _ => rfl)) (pa_cons (pe_op op_sub pe_int (pe_ix ix_tup (pv 2) pe_int (fun _ _ => rfl))) pa_nil))) pa_nil)))) pss_nil)
      (C8.pss_cut (ps_if (pt_cmpR op_eq (pv 4) pe_str (nomark _)) (pss_one (ps_set (i := 8) nd rfl (Or.inl rfl) (pe_lst (pa_cons (pe_tup (pa_cons (pe_ix ix_tup (pv 2) pe_int (fun _ _ => rfl)) (pa_cons (pe_op op_sub pe_int (pe_ix ix_tup (pv 2) pe_int (fun _ _ => rfl))) pa_nil)))
          (pa_cons (pe_tup (pa_cons (pe_ix ix_tup (pv 2) pe_int (fun _ _ => rfl)) (pa_cons (pe_ix ix_tup (pv 2) pe_int (fun _ _ => rfl)) pa_nil))) pa_nil))))) pss_nil)
      (C8.pss_cut (ps_if (pt_cmpR op_eq (pv 4) pe_str (nomark _)) (pss_cons (ps_set (i := 9) nd rfl (Or.inl rfl) (pe_op op_sub (pe_call T.ok hr (by rfl) T.g T.kp T.b .nil pass0 (pa_cons (pv 0) (pa_cons pe_int pa_nil))) pe_int))
          (pss_one (ps_set (i := 8) nd rfl (Or.inl rfl) (pe_lst (pa_cons (pe_tup (pa_cons (pe_ix ix_tup (pv 2) pe_int (fun _ _ => rfl)) (pa_cons (pe_op op_sub pe_int (pv 9)) pa_nil)))
          (pa_cons (pe_tup (pa_cons (pe_ix ix_tup (pv 2) pe_int (fun _ _ => rfl)) (pa_cons (pv 9) pa_nil))) pa_nil)))))) pss_nil)
      (pss_one (ps_for PassesOwn.never rfl (pi_list (pv 8)) (pg_tup (by rfl) (pgs_cons (pg_name (i := 10) nd rfl (Or.inl rfl)) (pgs_cons (pg_name (i := 9) nd rfl (Or.inl rfl)) pgs_nil)))
          (pss_one (ps_if (pt_cmpR op_ne (pv 10) pe_str (nomark _)) (pss_one (ps_dput hu (pv 1) (pe_tup (pa_cons (pv 10) (pa_cons (pe_ix ix_tup (pv 2) pe_int (fun _ _ => rfl)) pa_nil)))
            (pe_op op_add (pe_dget hu (pv 1) (pe_tup (pa_cons (pv 10) (pa_cons (pe_ix ix_tup (pv 2) pe_int (fun _ _ => rfl)) pa_nil))) (fun _ _ => rfl)) (pv 9)) rfl)) pss_nil)))))))))), ?_⟩
    have ntp : te ≠ p := by
      obtain ⟨kw, ns, a, l, g1, _⟩ := pen.ex
      exact ne_of hte g1 (by intro z; cases z)
    have ngp : gl ≠ p := by
      obtain ⟨kw, ns, a, l, g1, _⟩ := pen.ex
      exact ne_of hgl g1 (by intro z; cases z)
    have ndp : d ≠ p := by
      obtain ⟨kw, ns, a, l, g1, _⟩ := pen.ex
      obtain ⟨kvs, h1, _⟩ := st
      exact ne_of h1 g1 (by intro z; cases z)
    have ndc : d ≠ c := by
      obtain ⟨kw, ns, a, l, _, _, _, _, _, g6, _⟩ := pen.ex
      obtain ⟨kvs, h1, _⟩ := st
      exact ne_of h1 g6 (by intro z; cases z)
    have ntd : te ≠ d := by
      obtain ⟨kvs, h1, _⟩ := st
      exact ne_of hte h1 (by intro z; cases z)
    have ngd : gl ≠ d := by
      obtain ⟨kvs, h1, _⟩ := st
      exact ne_of hgl h1 (by intro z; cases z)
    have sm : ∀ {H1 H2 : Hp}, Same H1 H2 → Bt2 p d H1 H2 := fun h b o e _ _ => h b o e
    refine ⟨_, rfl, te, _, 0, _, rfl, rfl, SqT.of hte, at0 e, ?_⟩
    refine ⟨fun σ' H' => ∃ y5 y6 y7, σ' = [some (.ref p), some (.ref d), some (.ref te), some (.ref gl), some (.str e.word), y5, y6, y7, none, none, none] ∧ StockAt H' d Ps G ∧ PenAt H' p c n ∧ Bt2 p d H H', ?_, ?_⟩
    · refine ⟨_, rfl, rfl, _, rfl, ite2 (fun ew => ?_) (fun _ => ⟨_, _, _, rfl, st, pen, fun b o e _ _ => e⟩)⟩
      obtain ⟨nm, mm, o, t, rfl⟩ := swap_ent (V.str.inj (of_decide_eq_true ew))
      obtain ⟨hoP, htP, _⟩ := frm
      refine ⟨_, rfl, gl, rfl, ⟨_, SqT.of hgl⟩, ?_⟩
      refine for_tup (K := K) (a := gl) (xs := G.map V.str) (fun i σ H' => ∃ y5 y6 y7, σ = [some (.ref p), some (.ref d), some (.ref te), some (.ref gl), some (.str (Ent.swap nm mm o t).word), y5, y6, y7, none, none, none] ∧ StockAt H' d Ps G ∧ PenAt H' p c n ∧ Bt2 p d H H')
        ⟨_, _, _, rfl, st, pen, fun b o e _ _ => e⟩ (fun i σ H' _ z => by obtain ⟨_, _, _, _, _, _, z⟩ := z; exact SqT.of (z _ _ hgl ngp ngd)) ?_ (fun σ H' z => z)
      rintro i x σ H1 hx ⟨y5, y6, y7, rfl, ⟨kvs, hd, sk⟩, pen1, bt1⟩
      rw [List.getElem?_map] at hx
      obtain ⟨g, hgi, rfl⟩ := Option.map_eq_some_iff.mp hx
      have hg := List.mem_of_getElem? hgi
      have hte1 := bt1 _ _ hte ntp ntd
      obtain ⟨i1, v1⟩ := sk.val o hoP g hg
      obtain ⟨i2, v2⟩ := sk.val t htP g hg
      refine ⟨_, rfl, te, _, 3, _, rfl, rfl, SqT.of hte1, atI_nat (j := 3) rfl, _, rfl, (by show 2 ≤ sizeLine; decide), fun k1 nk1 => ?_⟩
      have s2 := @same_new _ _ (.tup [V.str o, .str g]) nk1
      have hk1 : (upd H1 k1 (.tup [V.str o, .str g])) k1 = some (.tup [V.str o, .str g]) := upd_same
      generalize upd H1 k1 (.tup [V.str o, .str g]) = H2 at s2 hk1
      refine ⟨_, rfl, te, _, 4, _, rfl, rfl, SqT.of (s2 _ _ hte1), atI_nat (j := 4) rfl, _, rfl, (by show 2 ≤ sizeLine; decide), fun k2 nk2 => ?_⟩
      have s3 := @same_new _ _ (.tup [V.str t, .str g]) nk2
      have hk2 : (upd H2 k2 (.tup [V.str t, .str g])) k2 = some (.tup [V.str t, .str g]) := upd_same
      generalize upd H2 k2 (.tup [V.str t, .str g]) = H3 at s3 hk2
      have s13 := s2.trans s3
      have d1 : DGet H3 d (.ref k1) (some (.int i1)) := by
        rw [← v1]
        exact DGet.t (s13 _ _ hd) (s3 _ _ hk1)
      have d2 : DGet H3 d (.ref k2) (some (.int i2)) := by
        rw [← v2]
        exact DGet.t (s13 _ _ hd) hk2
      refine ⟨_, rfl, _, rfl, d, _, rfl, d2, _, rfl, _, rfl, d, _, rfl, d1, (by show 2 ≤ sizeLine; decide), fun pq npq => ?_⟩
      have s4 := @same_new _ _ (.tup [V.int i2, .int i1]) npq
      have hpq : (upd H3 pq (.tup [V.int i2, .int i1])) pq = some (.tup [V.int i2, .int i1]) := upd_same
      generalize upd H3 pq (.tup [V.int i2, .int i1]) = H4 at s4 hpq
      have s14 := s13.trans s4
      have hd4 := s14 _ _ hd
      have hk14 := (s3.trans s4) _ _ hk1
      have hk24 := s4 _ _ hk2
      have sk2 := sk.put v1 i2
      obtain ⟨i3, v3⟩ := sk2.val t htP g hg
      refine ⟨pq, _, rfl, SqT.of hpq, rfl, _, _, rfl, _, rfl, _, rfl, d, _, rfl, DPut.t (k := stk o g) hd4 hk14 (small1000 (by have := sk.len; omega)), _, _, rfl, _, rfl, _, rfl, d, _, rfl, DPut.t (k := stk t g) upd_same ((upd_ne (ne_of hk24 hd4 (by intro z; cases z))).trans hk24) (small1000 (by have := sk2.len; omega)), rfl, ?_⟩
      exact ⟨_, _, _, rfl, ⟨_, upd_same, sk2.put v3 i1⟩, ((pen1.same s14).upd ndp ndc).upd ndp ndc, ((bt1.tr (sm s14)).put).put⟩
    rintro σ' H1 ⟨y5, y6, y7, rfl, st1, pen1, bt1⟩
    refine ⟨Nat.zero_le _, fun l0 nl0 => ?_⟩
    have s2 := @same_new _ _ (.lst []) nl0
    have hl0 : (upd H1 l0 (.lst [])) l0 = some (.lst []) := upd_same
    generalize upd H1 l0 (.lst []) = H2 at s2 hl0
    have ch0 : ChgAt H2 l0 e Ps G := ⟨[], [], hl0, .nil, fun x z => absurd z List.not_mem_nil, fun z => absurd rfl z⟩
    have st2 := st1.same s2
    have pen2 := pen1.same s2
    have bt2 := bt1.tr (sm s2)
    clear hl0 s2 nl0 st1 pen1 bt1
    have hteX := bt2 _ _ hte ntp ntd
    refine ⟨fun σ' H' => ∃ (l : Addr) (y9 : Option V), σ' = [some (.ref p), some (.ref d), some (.ref te), some (.ref gl), some (.str e.word), y5, y6, y7, some (.ref l), y9, none] ∧ StockAt H' d Ps G ∧ PenAt H' p c (n) ∧ Bt2 p d H H' ∧ ChgAt H' l e Ps G, ?_, ?_⟩
    · refine ⟨_, rfl, rfl, _, rfl, ite2 (fun ew => ?_) (fun _ => ⟨l0, _, rfl, st2, pen2, bt2, ch0⟩)⟩
      obtain ⟨nm, mm, g, pl, k, r, rfl⟩ := come_ent (V.str.inj (of_decide_eq_true ew))
      refine ⟨_, rfl, te, _, 4, _, rfl, rfl, SqT.of hteX, atI_nat (j := 4) rfl, _, rfl, te, _, 5, _, rfl, rfl, SqT.of hteX, atI_nat (j := 5) rfl, (by show 2 ≤ sizeLine; decide), fun t1 nt1 => ⟨(by show 1 ≤ sizeLine; decide), fun l nl => ?_⟩⟩
      have s3 := @same_new _ _ (.tup [V.str pl, .int k]) nt1
      have s4 := s3.trans (@same_new _ _ (.lst [V.ref t1]) nl)
      exact ⟨l, _, rfl, st2.same s4, pen2.same s4, bt2.tr (sm s4), [t1], [(pl, k)], upd_same, .cons (same_new nl _ _ upd_same) .nil, fun x z => .inr (by rw [List.mem_singleton.mp z]; exact frm.2.1), fun _ => ⟨g, frm.1, atI_nat (j := 3) rfl⟩⟩
    rintro σ' H3 ⟨l1, y9, rfl, st3, pen3, bt3, ch1⟩
    have hteX := bt3 _ _ hte ntp ntd
    refine ⟨fun σ' H' => ∃ (l : Addr) (y9 : Option V), σ' = [some (.ref p), some (.ref d), some (.ref te), some (.ref gl), some (.str e.word), y5, y6, y7, some (.ref l), y9, none] ∧ StockAt H' d Ps G ∧ PenAt H' p c (n) ∧ Bt2 p d H H' ∧ ChgAt H' l e Ps G, ?_, ?_⟩
    · refine ⟨_, rfl, rfl, _, rfl, ite2 (fun ew => ?_) (fun _ => ⟨l1, _, rfl, st3, pen3, bt3, ch1⟩)⟩
      obtain ⟨nm, mm, g, pl, k, rfl⟩ := go_ent (V.str.inj (of_decide_eq_true ew))
      refine ⟨_, rfl, te, _, 4, _, rfl, rfl, SqT.of hteX, atI_nat (j := 4) rfl, _, rfl, te, _, 5, _, rfl, rfl, SqT.of hteX, atI_nat (j := 5) rfl, 0, k, rfl, rfl, (by show 2 ≤ sizeLine; decide), fun t1 nt1 => ⟨(by show 1 ≤ sizeLine; decide), fun l nl => ?_⟩⟩
      have s3 := @same_new _ _ (.tup [V.str pl, .int (0 - k)]) nt1
      have s4 := s3.trans (@same_new _ _ (.lst [V.ref t1]) nl)
      exact ⟨l, _, rfl, st3.same s4, pen3.same s4, bt3.tr (sm s4), [t1], [(pl, 0 - k)], upd_same, .cons (same_new nl _ _ upd_same) .nil, fun x z => .inr (by rw [List.mem_singleton.mp z]; exact frm.2.1), fun _ => ⟨g, frm.1, atI_nat (j := 3) rfl⟩⟩
    rintro σ' H4 ⟨l2, y9, rfl, st4, pen4, bt4, ch2⟩
    have hteX := bt4 _ _ hte ntp ntd
    refine ⟨fun σ' H' => ∃ (l : Addr) (y9 : Option V), σ' = [some (.ref p), some (.ref d), some (.ref te), some (.ref gl), some (.str e.word), y5, y6, y7, some (.ref l), y9, none] ∧ StockAt H' d Ps G ∧ PenAt H' p c (n) ∧ Bt2 p d H H' ∧ ChgAt H' l e Ps G, ?_, ?_⟩
    · refine ⟨_, rfl, rfl, _, rfl, ite2 (fun ew => ?_) (fun _ => ⟨l2, _, rfl, st4, pen4, bt4, ch2⟩)⟩
      obtain ⟨nm, mm, g, o, t, k, rfl⟩ := move_ent (V.str.inj (of_decide_eq_true ew))
      refine ⟨_, rfl, te, _, 4, _, rfl, rfl, SqT.of hteX, atI_nat (j := 4) rfl, _, rfl, te, _, 6, _, rfl, rfl, SqT.of hteX, atI_nat (j := 6) rfl, 0, k, rfl, rfl, (by show 2 ≤ sizeLine; decide), fun t1 nt1 => ?_⟩
      have s3 := @same_new _ _ (.tup [V.str o, .int (0 - k)]) nt1
      have ht1 : (upd H4 t1 (.tup [V.str o, .int (0 - k)])) t1 = some (.tup [V.str o, .int (0 - k)]) := upd_same
      generalize upd H4 t1 (.tup [V.str o, .int (0 - k)]) = H5 at s3 ht1
      refine ⟨_, rfl, te, _, 5, _, rfl, rfl, SqT.of (s3 _ _ hteX), atI_nat (j := 5) rfl, _, rfl, te, _, 6, _, rfl, rfl, SqT.of (s3 _ _ hteX), atI_nat (j := 6) rfl, (by show 2 ≤ sizeLine; decide), fun t2 nt2 => ⟨(by show 2 ≤ sizeLine; decide), fun l nl => ?_⟩⟩
      have s5 := @same_new _ _ (.tup [V.str t, .int k]) nt2
      have s6 := @same_new _ _ (.lst [V.ref t1, .ref t2]) nl
      have s4 := s3.trans (s5.trans s6)
      refine ⟨l, _, rfl, st4.same s4, pen4.same s4, bt4.tr (sm s4), [t1, t2], [(o, 0 - k), (t, k)], upd_same, .cons (s6 _ _ (s5 _ _ ht1)) (.cons (s6 _ _ upd_same) .nil), fun x z => .inr ?_, fun _ => ⟨g, frm.1, atI_nat (j := 3) rfl⟩⟩
      simp only [List.mem_cons, List.not_mem_nil, or_false] at z
      rcases z with rfl | rfl
      · exact frm.2.1
      · exact frm.2.2.1
    rintro σ' H5 ⟨l3, y9, rfl, st5, pen5, bt5, ch3⟩
    have hteX := bt5 _ _ hte ntp ntd
    refine ⟨fun σ' H' => ∃ (l : Addr) (y9 : Option V), σ' = [some (.ref p), some (.ref d), some (.ref te), some (.ref gl), some (.str e.word), y5, y6, y7, some (.ref l), y9, none] ∧ StockAt H' d Ps G ∧ PenAt H' p c (n + 1) ∧ Bt2 p d H H' ∧ ChgAt H' l e Ps G, ?_, ?_⟩
    · refine ⟨_, rfl, rfl, _, rfl, ite2 (fun ew => ?_) (fun _ => ⟨l3, _, rfl, st5, pen5.mono (by omega), bt5, ch3⟩)⟩
      obtain ⟨nm, mm, g, o, t, rfl⟩ := some_ent (V.str.inj (of_decide_eq_true ew))
      refine ⟨_, rfl, p, c, n, 9, rfl, pen5, by omega, by decide, by decide, fun r H6 _ _ pen6 bt6 => ⟨r, 4, rfl, rfl, ?_⟩⟩
      have hte6 := bt6 _ _ hteX ntp
      refine ⟨_, rfl, te, _, 4, _, rfl, rfl, SqT.of hte6, atI_nat (j := 4) rfl, _, rfl, 0, r - 4, rfl, rfl, (by show 2 ≤ sizeLine; decide), fun t1 nt1 => ?_⟩
      have s3 := @same_new _ _ (.tup [V.str o, .int (0 - (r - 4))]) nt1
      have ht1 : (upd H6 t1 (.tup [V.str o, .int (0 - (r - 4))])) t1 = some (.tup [V.str o, .int (0 - (r - 4))]) := upd_same
      generalize upd H6 t1 (.tup [V.str o, .int (0 - (r - 4))]) = H7 at s3 ht1
      refine ⟨_, rfl, te, _, 5, _, rfl, rfl, SqT.of (s3 _ _ hte6), atI_nat (j := 5) rfl, _, rfl, (by show 2 ≤ sizeLine; decide), fun t2 nt2 => ⟨(by show 2 ≤ sizeLine; decide), fun l nl => ?_⟩⟩
      have s5 := @same_new _ _ (.tup [V.str t, .int (r - 4)]) nt2
      have s6 := @same_new _ _ (.lst [V.ref t1, .ref t2]) nl
      have s4 := s3.trans (s5.trans s6)
      refine ⟨l, _, rfl, (st5.but pen5 bt6).same s4, pen6.same s4, (bt5.tr (.of bt6)).tr (sm s4), [t1, t2], [(o, 0 - (r - 4)), (t, r - 4)], upd_same, .cons (s6 _ _ (s5 _ _ ht1)) (.cons (s6 _ _ upd_same) .nil), fun x z => ?_, fun _ => ⟨g, frm.1, atI_nat (j := 3) rfl⟩⟩
      simp only [List.mem_cons, List.not_mem_nil, or_false] at z
      rcases z with rfl | rfl
      · exact .inr frm.2.1
      · exact frm.2.2.imp id fun z => z.1
    rintro σ' H6 ⟨l4, y9, rfl, st6, pen6, bt6, cs, ps, hl4, pcs, inP, gd3⟩
    have nlp : l4 ≠ p := by
      obtain ⟨kw, ns, a, l, g1, _⟩ := pen6.ex
      exact ne_of hl4 g1 (by intro z; cases z)
    have nld : l4 ≠ d := by
      obtain ⟨kvs, h1, _⟩ := st6
      exact ne_of hl4 h1 (by intro z; cases z)
    refine ⟨_, rfl, l4, rfl, ⟨_, SqL.of hl4⟩, ?_⟩
    refine for_list (K := K) (a := l4) (xs := cs.map V.ref) (fun i σ H' => ∃ y9 y10, σ = [some (.ref p), some (.ref d), some (.ref te), some (.ref gl), some (.str e.word), y5, y6, y7, some (.ref l4), y9, y10] ∧ StockAt H' d Ps G ∧ PenAt H' p c (n + 1) ∧ Bt2 p d H6 H')
      ⟨_, _, rfl, st6, pen6, fun b o e _ _ => e⟩ (fun i σ H' _ z => by obtain ⟨_, _, _, _, _, z⟩ := z; exact SqL.of (z _ _ hl4 nlp nld)) ?_ ?_
    · rintro i x σ H7 hx ⟨z9, z10, rfl, st7, pen7, bt7⟩
      rw [List.getElem?_map] at hx
      obtain ⟨a, ha, rfl⟩ := Option.map_eq_some_iff.mp hx
      obtain ⟨⟨pl, v⟩, hpv, hav⟩ := paired_get pcs ha
      have mpv := List.mem_of_getElem? hpv
      have nap : a ≠ p := by
        obtain ⟨kw, ns, a', l, g1, _⟩ := pen6.ex
        exact ne_of hav g1 (by intro z; cases z)
      have nad : a ≠ d := by
        obtain ⟨kvs, h1, _⟩ := st6
        exact ne_of hav h1 (by intro z; cases z)
      obtain ⟨g, hgG, at3'⟩ := gd3 (fun z => by rw [z] at mpv; cases mpv)
      have hte7 := bt7 _ _ (bt6 _ _ hte ntp ntd) ntp ntd
      refine ⟨a, _, rfl, SqT.of (bt7 _ _ hav nap nad), rfl, _, _, rfl, _, _, rfl, rfl, ?_⟩
      refine ⟨_, rfl, rfl, _, rfl, ite2 (fun ne => ?_) (fun _ => ⟨_, _, rfl, st7, pen7, bt7⟩)⟩
      have npl : pl ≠ "" := fun z => by
        rw [decide_eq_true (congrArg V.str z)] at ne
        cases ne
      have plP : pl ∈ Ps := (inP _ mpv).resolve_left npl
      obtain ⟨kvs, hd, sk⟩ := st7
      obtain ⟨i1, v1⟩ := sk.val pl plP g hgG
      refine ⟨_, rfl, _, rfl, _, rfl, te, _, 3, _, rfl, rfl, SqT.of hte7, at3', (by show 2 ≤ sizeLine; decide), fun k1 nk1 => ?_⟩
      have s8 := @same_new _ _ (.tup [V.str pl, .str g]) nk1
      have hk1 : (upd H7 k1 (.tup [V.str pl, .str g])) k1 = some (.tup [V.str pl, .str g]) := upd_same
      generalize upd H7 k1 (.tup [V.str pl, .str g]) = H8 at s8 hk1
      have d1 : DGet H8 d (.ref k1) (some (.int i1)) := by
        rw [← v1]
        exact DGet.t (s8 _ _ hd) hk1
      refine ⟨d, _, rfl, d1, _, rfl, i1, v, rfl, rfl, _, rfl, _, rfl, _, rfl, te, _, 3, _, rfl, rfl, SqT.of (s8 _ _ hte7), at3', (by show 2 ≤ sizeLine; decide), fun k2 nk2 => ?_⟩
      have s9 := @same_new _ _ (.tup [V.str pl, .str g]) nk2
      have s89 := s8.trans s9
      refine ⟨d, _, rfl, DPut.t (k := stk pl g) (s89 _ _ hd) upd_same (small1000 (by have := sk.len; omega)), ?_⟩
      exact ⟨_, _, rfl, ⟨_, upd_same, sk.put v1 _⟩, (pen7.same s89).upd ndp ndc, (bt7.tr (sm s89)).put⟩
    · rintro σ H7 ⟨z9, z10, rfl, st7, pen7, bt7⟩
      exact q H7 st7 pen7 (bt6.tr bt7)
end
/-! ### sorted(..) of what gives texts -/
def leS (a b : Str) : Prop := a.cps.toList ≤ b.cps.toList
theorem leS_of {a b : Str} (h : ltCps b.cps.toList a.cps.toList = false) : leS a b := by
  rw [ltCps_eq] at h
  exact List.not_lt.mp (of_decide_eq_false h)
theorem str_ext {a b : Str} (h : a.cps.toList = b.cps.toList) : a = b := by
  cases a with
  | mk x => cases b with
    | mk y =>
      have : x = y := Array.toList_inj.mp h
      rw [this]
theorem leS_trans {a b c : Str} (h1 : leS a b) (h2 : leS b c) : leS a c := List.le_trans h1 h2
theorem leS_anti {a b : Str} (h1 : leS a b) (h2 : leS b a) : a = b := str_ext (List.le_antisymm h1 h2)
theorem rising_pw : ∀ (p : Str) (l : List Str), risingS p l = true → (p :: l).Pairwise leS
  | p, [], _ => List.pairwise_singleton _ _
  | p, x :: r, h => by
    have h' : (!ltCps x.cps.toList p.cps.toList && risingS x r) = true := h
    rw [Bool.and_eq_true] at h'
    have le : leS p x := leS_of (by simpa using h'.1)
    have ih := rising_pw x r h'.2
    refine List.pairwise_cons.mpr ⟨fun y hy => ?_, ih⟩
    rcases List.mem_cons.mp hy with rfl | hy
    · exact le
    · exact leS_trans le (List.rel_of_pairwise_cons ih hy)
theorem sorted_pw {l : List Str} (h : sortedS l = true) : l.Pairwise leS := by
  cases l with
  | nil => exact .nil
  | cons x r => exact rising_pw x r h
/-- two sorted lists of the same texts are one -/
theorem sorted_one {l r : List Str} (p : l.Perm r) (h1 : sortedS l = true) (h2 : sortedS r = true) : l = r :=
  List.Perm.eq_of_pairwise (fun a b _ _ x y => leS_anti x y) (sorted_pw h1) (sorted_pw h2) p
theorem sorted_by {prog : Program} {w : World} {A : Around} {E : Value → Shared → Prop} {s : Shared} {x : Value} {Q : Value → Shared → Prop}
    (h : wpAny (model prog w) A.in1 (collect x) (fun vs s1 => ∃ ss, StrsAre vs ss ∧ vs.length < 64 ∧ ∀ (out : Array Value) (ss' : List Str) (h' : Heap) (ep : Nat), StrsAre out.toList ss' → ss'.Perm ss → sortedS ss' = true →
      (∀ b o, s1.heap.get? b = some o → h'.get? b = some o) → h'.get? s1.heap.objs.size = some (seqObj "list" out ep) → Q (.ref s1.heap.objs.size) { s1 with heap := h' }) E s) :
    wpAny (model prog w) A (call (.builtin "sorted") [x]) Q E s := by
  refine Calls.call_function_entry kind_sorted plain_sorted entry_sorted (args_sorted1 _) ?_
  unfold Builtin.«sorted»
  refine wpAny_bind (m := checkCount "sorted" 1 1 _) (wpAny_pure (wpAny_bind (wpAny_mono h (fun vs s1 ⟨ss, hS, h64, hq⟩ => ?_) fun _ _ e => e)))
  have hoL : (s1.heap.push (seqObj "list" vs.toArray 0)).get? s1.heap.objs.size = some (seqObj "list" vs.toArray 0) := Heap.get?_push_size _ rfl
  refine wpAny_bind (wpAny_newList (wpAny_bind (wpAny_holding (wpAny_call_entry slot_list_sort ⟨_, hoL, rfl⟩ entry_list_sort (list_sort_treeK strKind_oneLt hoL hS.keysOf (fun v1 v2 rest e => keyKind_strs (by rw [← e]; exact hS)) h64 fun st' hp hs => ⟨_, rfl, ?_⟩) (args_list_sort _)))))
  obtain ⟨ss', h1, h2, h3⟩ := sorted_out_str hS hp hs
  obtain ⟨ep, he⟩ := sortedHeap_at (out := (arrOf st').map (·.2)) hoL
  refine wpAny_pure ⟨_, rfl, hq _ ss' _ ep h1 h2 h3 (fun b o e => ?_) he⟩
  have lt := Heap.lt_size e
  rw [sortedHeap_old (Nat.ne_of_lt lt) (by rw [Heap.size_push]; exact Nat.lt_succ_of_lt lt)]
  exact Heap.get?_push_of_some _ e
/-- of a tuple of texts -/
theorem cr_sortedTS {X : Cx} : CallR X (.builtin "sorted") (fun vs H Q => ∃ (a : Addr) (xs : List Str), vs = [.ref a] ∧ SqT X.K H a (xs.map V.str) ∧ xs.length < 64 ∧
    ∀ (ys : List Str) (p : Addr), ys.Perm xs → sortedS ys = true → H p = none → Q (.ref p) (upd H p (.lst (ys.map V.str)))) := by
  rintro pins s σ H vs us Q I r ⟨a, xs, rfl, hs, h64, q⟩
  rw [Vals.ref1 r]
  obtain ⟨its, rv, ⟨o, e1, e2, n, e3⟩, hz⟩ := I.tuple hs
  have l0 := rv.length
  rw [List.length_map] at l0
  refine sorted_by (wpAny_collect_seq a (.inr rfl) e1 e2 e3 (fun h1 k1 => ⟨xs, ?_, ?_, fun out ys h' ep g1 g2 g3 k2 g4 => ?_⟩) (by rw [List.size_toArray, ← rv.length]; exact hz))
  · exact rv.strs
  · show its.length < 64
    rw [← l0]
    exact h64
  · have I1 := I.kept (t' := s.toks) k1
    have hlen : (ys.map V.str).length ≤ sizeLine := by rw [List.length_map, g2.length_eq]; exact small64 h64
    exact ⟨.ref h1.objs.size, upd H h1.objs.size (.lst (ys.map V.str)), I1.laid (t' := s.toks) k2 (Nat.le_refl _) ⟨hlen, out.toList, ep, vals_of_strs g1, by rw [g4]⟩, rfl, q ys _ g2 g3 (I1.hok.fresh (Nat.le_refl _))⟩
/-! ### is_name -/
def signB (c : Nat) : Bool := decide (c ∈ abc.cps.toList)
def nameB (z : Str) : Bool := decide (1 ≤ z.length) && decide (z.length ≤ 8) && z.cps.toList.all signB
theorem nameB_in {z : Str} (h1 : (1 : Int) ≤ (z.length : Int)) (h2 : (z.length : Int) ≤ 8) : nameB z = z.cps.toList.all signB := by
  unfold nameB
  rw [decide_eq_true (show 1 ≤ z.length by omega), decide_eq_true (show z.length ≤ 8 by omega)]
  rfl
theorem nameB_long {z : Str} (h : ¬ (z.length : Int) ≤ 8) : nameB z = false := by
  unfold nameB
  rw [decide_eq_false (show ¬ z.length ≤ 8 by omega), Bool.and_false]
  rfl
theorem nameB_short {z : Str} (h : ¬ (1 : Int) ≤ (z.length : Int)) : nameB z = false := by
  unfold nameB
  rw [decide_eq_false (show ¬ 1 ≤ z.length by omega)]
  rfl
/-! ### defs that are called while nothing is being shown: the guards are known -/
structure FnG (P : Program) (w : World) (K : PySem.W.Frag) (mg : Str → Option Value) (base : Heap) (k : Nat) (f : Addr) (fd : FuncData) (ps : List Str) (sp : Sp) : Prop where
  many : ∀ vs H Q E, sp vs H Q E → vs.length = ps.length
  goes : ∀ (B : Around) (st : List Env) (s : Shared) (H : Hp) (as : Args) (us : List Value) (vs : List V) (Q : VK) (E : XK), B.guards = some [] → Room k B → Env0 P w K mg base B st s H →
    BindsTo s fd as (ps.zip us) → Vals vs us → sp vs H Q E → codeAny (model P w) B (.call (.ref f) as) (CR CX0 st P w H s Q E) s
section
variable {P : Program} {w : World} {K : PySem.W.Frag} {mg : Str → Option Value} {base : Heap}
theorem FnG.of {k : Nat} {f : Addr} {fd : FuncData} {ps : List Str} {sp : Sp} (F : FnOk P w K mg base CX0 k f fd ps sp) : FnG P w K mg base k f fd ps sp :=
  ⟨F.len, fun B st s H as us vs Q E _ => F.run B st s H as us vs Q E⟩
theorem Fun.okG {x qual : Str} {st : Stmt} {f : Addr} {fd : FuncData} {N ps : List Str} {k : Nat} {sp : Sp} (F : Fun K x qual st f fd) (S : FnScope N ps (defScope st)) (many : ∀ vs H Q E, sp vs H Q E → vs.length = ps.length)
    (body : ∀ (cdv : Value) (B : Around) (fs : List Env) (s : Shared) (H : Hp) (vs : List V) (Q : VK) (E : XK), B.guards = some [] → Room k (B.deeper (envOfC qual (defScope st) s.heap.objs.size f cdv)) → sp vs H Q E →
      ∃ t, PSs (cxOf CX0 P w K mg base N qual (defScope st) f cdv B fs s H E).nox (defBody st) t ∧ t { nx := fun _ H' => Q .non H', rt := Q } (start N vs) H) : FnG P w K mg base (k + 1) f fd ps sp := by
  obtain ⟨oc, od, kV, doc, pm, an, cdv, ct, osl, rfl, lk, hcd⟩ := F.ex
  refine ⟨many, fun B fs s H as us vs Q E hg hr e0 hb r hsp => ?_⟩
  have old : ∀ b o, base.get? b = some o → s.heap.get? b = some o := fun b o e => (e0.bs b o e).1
  have KX := e0.mod.kin.keeps old
  obtain ⟨t, pt, ht⟩ := body cdv B fs s H vs Q E hg (hr.deeper _) hsp
  refine codeAny_call_function hr.depth (KX _ _ lk) rfl S.co S.gen rfl (PySem.W.codeRec_of KX hcd) (hb _ _ _ _ ?_)
  refine wpAny_newFunctionEnv_cells S.kind ?_ ?_
  · rintro ⟨n, v⟩ hy
    have hn := (List.of_mem_zip hy).1
    exact (S.par n hn).imp id fun q => ⟨q, PySem.W.cellsFrom_some _ _ _ (.inl q)⟩
  · rintro env rfl s1 x
    have I := inv_start (CX := CX0) (E := E) S hr.hd e0 (many _ _ _ _ hsp) r x
    refine ⟨(e0.mod.nolimit.keeps old).keeps x.toInCall.keep, codeAny_func (wpAny_mono (pt.nox.run [] s1 _ H _ I ht) ?_ fun e s' hs => hs)⟩
    rintro fl s' hs
    cases fl with
    | ret u =>
      obtain ⟨v, σ', H', J, rv, q⟩ := hs
      exact ⟨v, H', J.os, J.bare, J.base, J.hok, rv, q⟩
    | next =>
      obtain ⟨σ', H', J, q⟩ := hs
      exact ⟨.non, H', J.os, J.bare, J.base, J.hok, rfl, q⟩
    | brk =>
      obtain ⟨_, _, _, q⟩ := hs
      exact False.elim q
    | cont =>
      obtain ⟨_, _, _, q⟩ := hs
      exact False.elim q
end
/-- f(e, ..): a def of this kind -/
theorem pe_callG {X : Cx} {k : Nat} {f : Addr} {fd : FuncData} {ps : List Str} {sp : Sp} {x : Str} {p pos : Pos} {e : Expr} {es : List Expr} {t : TA} (F : FnG X.prog X.w X.K X.mg X.base k f fd ps sp) (hG : X.A.guards = some []) (hr : Room k X.A) (hg : Gl X x) (hm : X.mg x = some (.ref f))
    (hk : PySem.W.keepIn X.K (.ref f) = true) (hb : Binds X.K fd ps []) (ha : PA X (e :: es) t) (hdb : (x == ("__debug__" : Str)) = false := by decide) (he : starEach (e :: es) X.env = (false, eval e X.env) :: starEach es X.env := by rfl)
    (hpl : (backTo pos (starEach es X.env)).any (·.1) = false := by rfl) : PE X (.Call (.Name x p) (e :: es) [] pos) (tCall sp [] E0 t) := by
  refine ⟨fun pins s σ H Q I h => wpAny_Call_Name_kw (ld_glob I hg hm ?_ hdb)⟩
  refine PySem.W.callWith_K (h₀ := X.base) I.ok.mod.kin hk (thn (ha.run pos pins s σ H _ I h) ?_) he hpl
  rintro us s1 ⟨vs, H1, I1, r, q⟩
  rw [List.append_nil] at q
  have hl : us.length = ps.length := r.length.symm.trans (F.many _ _ _ _ q)
  have bd := hb s1 us I1.kIn (by rw [List.append_nil]; exact hl)
  rw [List.append_nil] at bd
  refine ⟨I1.kIn, wpAny_call (codeAny_mono (F.goes X.A X.stack s1 H1 ⟨us, []⟩ us vs Q E0 hG hr I1.env0 bd r q) ?_)⟩
  rintro r2 s2 hq
  cases r2 with
  | error e => exact False.elim hq
  | ok fl =>
    cases fl with
    | ret u => exact I1.after hq
    | next => exact False.elim hq
    | brk => exact False.elim hq
    | cont => exact False.elim hq
/-! ### the top's call of the law, for a law that shows things -/
def topH (K : PySem.W.Frag) (a : Addr) (o : Obj) (xs : List V) (cs : List (Addr × Addr)) : Hp := fun b =>
  if b ∈ cs.map (·.2) then some (.tbl #[]) else if b = a ∧ K.lookup a = none then some (.frz o (.lst xs)) else none
section
variable {P : Program} {w : World} {K : PySem.W.Frag} {mg mb : Str → Option Value} {a : Addr} {o : Obj} {cs : List (Addr × Addr)} {s₁ : Shared} {vs : List Value} {ns : List Int}
theorem topH_tab {xs : List V} {p : Addr × Addr} (hp : p ∈ cs) : topH K a o xs cs p.2 = some (.tbl #[]) := if_pos (List.mem_map.mpr ⟨p, hp, rfl⟩)
theorem topH_cases {xs : List V} {b : Addr} {u : HO} (h : topH K a o xs cs b = some u) : (b ∈ cs.map (·.2) ∧ u = .tbl #[]) ∨ (b = a ∧ K.lookup a = none ∧ u = .frz o (.lst xs)) := by
  unfold topH at h
  split at h
  · rename_i hb
    exact .inl ⟨hb, (Option.some.inj h).symm⟩
  · split at h
    · rename_i hb
      exact .inr ⟨hb.1, hb.2, (Option.some.inj h).symm⟩
    · cases h
theorem top_call {fa : Addr} {k : Nat} {fd : FuncData} {x : Str} {sp : Sp}
    (KX : K.In s₁.heap) (hns : s₁.heap.Ns mainGlobals mg) (hb : s₁.heap.Ns builtinsNs mb) (hbb : ∀ x : Str, x ≠ "__name__" → mb x = bootBuiltins x) (hlim : s₁.heap.NoLimit) (hg : s₁.gens = #[])
    (hT : ∀ p ∈ cs, s₁.heap.get? p.2 = some { cls := .none, data := .fields #[] }) (nT : ∀ p ∈ cs, K.lookup p.2 = none) (C : ∀ p ∈ cs, PySem.W.CodeHd s₁.heap p.1 p.2)
    (hbm : ∃ (bm : Addr) (ob : Obj), mg "__builtins__" = some (.ref bm) ∧ bm ≠ builtinsNs ∧ s₁.heap.get? bm = some ob ∧ ob.cls = .type "module" ∧ ob.dict = some builtinsNs ∧ ob.data = .plain)
    (ha : s₁.heap.get? a = some { cls := .type "list", data := .seq vs.toArray }) (hi : IntsAre vs ns) (hl : ns.length ≤ sizeLine) (hr : Room k callerA)
    (F : ∀ base : Heap, K.In base → base.Ns mainGlobals mg → (∀ p ∈ cs, LamX.TabB base mg p.1 p.2) → FnG P w K mg base k fa fd [x] sp) (hbind : ∀ (s : Shared) (u : Value), BindsTo s fd ⟨[u], []⟩ [(x, u)])
    (hsp : ∀ H : Hp, (∀ p ∈ cs, H p.2 = some (.tbl #[])) → SqL K H a (ns.map V.int) → sp [.ref a] H (fun v _ => v = .bl true) fun _ _ _ => False) :
    codeAny (model P w) callerA (.call (.ref fa) ⟨[.ref a], []⟩) (fun r s' => r = .ok (.ret (.bool true)) ∧ OldK s₁.heap s'.heap ∧ s'.os = s₁.os ∧ AllBare s'.gens) s₁ := by
  have tabAt : ∀ b : Addr, b ∈ cs.map (·.2) → s₁.heap.get? b = some { cls := .none, data := .fields #[] } := fun b hb => by
    obtain ⟨p, hp, rfl⟩ := List.mem_map.mp hb
    exact hT p hp
  have naT : a ∉ cs.map (·.2) := fun z => by
    have q := (tabAt a z).symm.trans ha
    cases q
  have rv := vals_ints hi
  let H : Hp := topH K a { cls := .type "list", data := .seq vs.toArray } (ns.map V.int) cs
  have hH : ∀ p ∈ cs, H p.2 = some (.tbl #[]) := fun p hp => topH_tab hp
  -- what is tracked is a list or a table
  have free : ∀ {b : Addr} {ob : Obj}, s₁.heap.get? b = some ob → (∀ us n, ob.data ≠ .seq us n) → ob.data ≠ .fields #[] → H b = none := fun {b ob} e h1 h2 => by
    cases q : H b with
    | none => rfl
    | some u =>
      rcases topH_cases q with ⟨hb, _⟩ | ⟨rfl, _, _⟩
      · rw [tabAt b hb] at e
        cases e
        exact absurd rfl h2
      · rw [ha] at e
        cases e
        exact absurd rfl (h1 _ _)
  have dic : ∀ {b : Addr} {m : Str → Option Value}, s₁.heap.Ns b m → (hidT s₁.heap H).Ns b m := fun {b m} ⟨ob, es, ep, e, d, r⟩ =>
    ⟨ob, es, ep, hidT_get e (free e (fun us n z => by rw [d] at z; cases z) fun z => by rw [d] at z; cases z), d, r⟩
  have hK : K.In (hidT s₁.heap H) := fun b ob e => hidT_get (KX b ob e) (by
    cases q : H b with
    | none => rfl
    | some u =>
      rcases topH_cases q with ⟨hb, _⟩ | ⟨rfl, n, _⟩
      · obtain ⟨p, hp, rfl⟩ := List.mem_map.mp hb
        rw [nT p hp] at e
        cases e
      · rw [n] at e
        cases e)
  have hok : HOk P w H s₁.heap := fun b u q => by
    rcases topH_cases q with ⟨hb, rfl⟩ | ⟨rfl, _, rfl⟩
    · exact tabAt b hb
    · exact ⟨ha, by rw [List.length_map]; exact hl, vs, _, rv, ha⟩
  have hS : SqL K H a (ns.map V.int) := by
    cases hk : K.lookup a with
    | some ob =>
      have e := (KX a ob hk).symm.trans ha
      cases e
      exact .inr ⟨_, vs.toArray, _, hk, rfl, rfl, rfl, by rw [List.size_toArray, hi.length]; exact hl, by simpa using rv⟩
    | none => exact .inl (.inr ⟨{ cls := .type "list", data := .seq vs.toArray }, (if_neg naT).trans (if_pos ⟨rfl, hk⟩)⟩)
  have hM : L2.Mod K mg (hidT s₁.heap H) := ⟨hK, dic hns, ⟨mb, dic hb, hbb⟩, let ⟨mc, h1, h2⟩ := hlim; ⟨mc, dic h1, h2⟩⟩
  have TB : ∀ p ∈ cs, LamX.TabB (hidT s₁.heap H) mg p.1 p.2 := fun p hp => by
    have hTp := hT p hp
    obtain ⟨og, eg, pg, g1, g2, _⟩ := hns
    refine ⟨?_, ?_, fun z => ?_⟩
    · obtain ⟨ob, us, file, tf, flags, tg, inF, text, tt, e1, r1, r2, r3, r4⟩ := C p hp
      refine ⟨ob, us, file, tf, flags, tg, inF, text, tt, hidT_get e1 (free e1 (fun us n z => ?_) fun z => ?_), r1, r2, r3, r4⟩
      · rw [r2] at z
        cases z
      · rw [r2] at z
        cases z
        simp at r3
    · obtain ⟨bm, ob, b1, b2, b3, b4, b5, b6⟩ := hbm
      refine ⟨bm, ob, b1, b2, fun z => ?_, fun z => ?_, hidT_get b3 (free b3 (fun us n z => by rw [b6] at z; cases z) fun z => by rw [b6] at z; cases z), b4, b5, b6⟩
      · rw [z, g1] at b3
        cases b3
        rw [g2] at b6
        cases b6
      · rw [z, hTp] at b3
        cases b3
        cases b6
    · rw [z, hTp] at g1
      cases g1
      cases g2
  have e0 : Env0 P w K mg (hidT s₁.heap H) callerA [] s₁ H := ⟨rfl, hM, fun b ob e => of_hidT e, Nat.le_of_eq (hidT_size _ _), trivial, (fun b hb => nomatch (show b ∈ ([] : List Addr) from hb)), hok, .of_eq hg⟩
  refine codeAny_mono ((F _ hK (dic hns) TB).goes callerA [] s₁ H ⟨[.ref a], []⟩ [.ref a] [.ref a] _ _ rfl hr e0 (hbind s₁ (.ref a)) (.cons rfl .nil) (hsp H hH hS)) ?_
  rintro r s' h
  cases r with
  | error e => exact False.elim h
  | ok fl =>
    cases fl with
    | next => exact False.elim h
    | brk => exact False.elim h
    | cont => exact False.elim h
    | ret u =>
      obtain ⟨v, H', os, bare, un, hok', r', rfl⟩ := h
      obtain rfl : u = Value.bool true := r'
      have stays : ∀ b ob, b ∉ cs.map (·.2) → s₁.heap.get? b = some ob → s'.heap.get? b = some ob := fun b ob nb e => by
        cases q : H b with
        | none => exact un.keep b ob e q (fun z => nomatch (show b ∈ ([] : List Addr) from z)) (by simp)
        | some u =>
          rcases topH_cases q with ⟨z, _⟩ | ⟨rfl, _, rfl⟩
          · exact absurd z nb
          · rw [ha] at e
            cases e
            exact (hok' _ _ (un.frzs _ _ _ q)).1
      have grown : ∀ b ∈ cs.map (·.2), ∃ p ∈ cs, b = p.2 ∧ ∃ more : Array Value, s'.heap.get? b = some { cls := .none, data := .fields more } := fun b hb => by
        obtain ⟨p, hp, rfl⟩ := List.mem_map.mp hb
        obtain ⟨more, z⟩ := un.tbls p.2 #[] (hH p hp)
        exact ⟨p, hp, rfl, _, hok' p.2 _ z⟩
      refine ⟨rfl, ⟨fun b ob e => ?_, fun b ob e => ?_⟩, os, bare⟩
      · by_cases hb : b ∈ cs.map (·.2)
        · obtain ⟨p, hp, rfl, more, hm⟩ := grown b hb
          rw [hT p hp] at e
          cases e
          exact .inr (.inl ⟨((C p hp).tab (hT p hp)).isCodeTable, rfl, #[], more, rfl, by rw [Array.empty_append]; exact hm⟩)
        · exact .inl (stays b ob hb e)
      · by_cases hb : b ∈ cs.map (·.2)
        · obtain ⟨p, hp, rfl, more, hm⟩ := grown b hb
          exact ⟨_, hm⟩
        · exact ⟨ob, stays b ob hb e⟩
end
/-- what is known of a law that shows things -/
def LawG (l : PySem.W.OpenLaw) (w : World) (K : PySem.W.Frag) (k n : Nat) (x : Str) (mg : Str → Option Value) (fa : Addr) (h : Heap) : Prop :=
  ∃ (fd : FuncData) (cs : List (Addr × Addr)) (sp : Sp), ((∀ p ∈ cs, h.get? p.2 = some { cls := .none, data := .fields #[] }) ∧ (∀ p ∈ cs, K.lookup p.2 = none) ∧ ∀ p ∈ cs, PySem.W.CodeHd h p.1 p.2) ∧ (∀ (s : Shared) (u : Value), BindsTo s fd ⟨[u], []⟩ [(x, u)]) ∧
    (∀ (H : Hp) (a : Addr) (ns : List Int), ns.length ≤ n → (∀ p ∈ cs, H p.2 = some (.tbl #[])) → SqL K H a (ns.map V.int) → sp [.ref a] H (fun v _ => v = .bl true) fun _ _ _ => False) ∧
    ∀ base : Heap, K.In base → base.Ns mainGlobals mg → (∀ p ∈ cs, LamX.TabB base mg p.1 p.2) → FnG l.prog w K mg base k fa fd [x] sp
theorem end_G {l : PySem.W.OpenLaw} {n k : Nat} {q : Program} {loose : List Str} {XP : (Str → Option Value) → Heap → Prop} {YP : World → Heap → Prop} {d : PySem.DefRec} {K : Params → PySem.W.Frag} {x : Str}
    (hn : l.most = some n) (hn2 : n ≤ sizeLine) (hdf : d.params.defaults = []) (hr : Room k callerA)
    (hY : ∀ (w : World) (h : Heap), YP w h → (K w.params).In h)
    (F : ∀ (w : World) (s0 : Shared) (mg mb : Str → Option Value) (fa : Addr) (h : Heap), PySem.W.Ground q loose [] XP w s0 mg mb h → (K w.params).In h → mg d.name = some (.ref fa) → LawG l w (K w.params) k n x mg fa h) :
    PySem.W.WalkO q loose XP YP l.row.toRowW d [] (fun f vs => PySem.call f vs) := by
  refine Att.attach_callB hn hdf fun w s0 s1 mg mb fa o pm cd doc a vs ns G Y ho hd hcd hmg hobj hints hlen hbits hg => ?_
  have KX := hY w _ Y
  obtain ⟨fd, cs, sp, ⟨hT, nT, C⟩, hb, hsp, hF⟩ := F w s0 mg mb fa _ G KX hmg
  exact top_call KX G.T.g G.T.b G.T.builtins G.T.nolimit hg hT nT C G.T.bmain hobj hints (Nat.le_trans hlen hn2) hr hF hb (fun H hH hS => hsp H a ns hlen hH hS)
/-! ### repr of data -/
theorem cr_repr {X : Cx} (hG : X.A.guards = some []) (hu : X.A.units + 64 < cLine) : CallR X (.builtin "repr") (fun vs H Q => ∃ (a : Addr) (d : PyData), vs = [.ref a] ∧ Dp X.K H (.ref a) d ∧ d.showable = true ∧ d.hasDict = false ∧ d.depth ≤ 60 ∧ d.shown.length ≤ sizeLine ∧ Q (.str d.shown) H) := by
  rintro pins s σ H vs us Q I r ⟨a, d, rfl, hd, sh, nd, dp, sz, q⟩
  rw [Vals.ref1 r]
  obtain ⟨as, rd⟩ := Dp.reads I d (.ref a) (.ref a) hd rfl
  exact repr_of_reads' rd sh (PyData.noDict_hsm nd) hG (by omega) (fun _ _ e => e) (fun h' u tk hk => ⟨.str d.shown, H, I.kept hk, ⟨_, rfl⟩, q⟩) sz
/-! ### sorted(xs, key=f), f a def whose answers are data -/
mutual
theorem Dp.on {K : PySem.W.Frag} {H H' : Hp} (s : Same H H') : ∀ {v : V} {d : PyData}, Dp K H v d → Dp K H' v d
  | _, _, .non => .non
  | _, _, .bl b => .bl b
  | _, _, .int i => .int i
  | _, _, .str x => .str x
  | _, _, .lst h r => .lst (h.imp (fun z => z.imp (s _ _) fun ⟨o, e⟩ => ⟨o, s _ _ e⟩) id) (DpAll.on s r)
  | _, _, .tup h r => .tup (h.imp (fun z => z.imp (s _ _) fun ⟨o, e⟩ => ⟨o, s _ _ e⟩) id) (DpAll.on s r)
theorem DpAll.on {K : PySem.W.Frag} {H H' : Hp} (s : Same H H') : ∀ {vs : List V} {ds : List PyData}, DpAll K H vs ds → DpAll K H' vs ds
  | _, _, .nil => .nil
  | _, _, .cons h r => .cons (Dp.on s h) (DpAll.on s r)
end
theorem DpAll.snoc {K : PySem.W.Frag} {H : Hp} {v : V} {d : PyData} : ∀ {vs : List V} {ds : List PyData}, DpAll K H vs ds → Dp K H v d → DpAll K H (vs ++ [v]) (ds ++ [d])
  | _, _, .nil, h => .cons h .nil
  | _, _, .cons a r, h => .cons a (DpAll.snoc r h)
theorem DpAll.len {K : PySem.W.Frag} {H : Hp} : ∀ {vs : List V} {ds : List PyData}, DpAll K H vs ds → vs.length = ds.length
  | _, _, .nil => rfl
  | _, _, .cons _ r => congrArg Nat.succ (DpAll.len r)
theorem vals_snoc {v : V} {u : Value} : ∀ {vs : List V} {us : List Value}, Vals vs us → RelV v u → Vals (vs ++ [v]) (us ++ [u])
  | _, _, .nil, h => .cons h .nil
  | _, _, .cons a r, h => .cons a (vals_snoc r h)
theorem vals_get {vs : List V} {us : List Value} (h : Vals vs us) : ∀ {i : Nat} {u : Value}, us[i]? = some u → ∃ v, vs[i]? = some v ∧ RelV v u := by
  induction h with
  | nil => intro i u e; cases e
  | cons a r ih =>
    intro i u e
    cases i with
    | zero => exact ⟨_, rfl, by rw [← Option.some.inj e]; exact a⟩
    | succ n => exact ih (i := n) e
theorem each_dp {X : Cx} {pins : List (Addr × Obj)} {σ : L2.St} {H : Hp} {s : Shared} (I : Inv X pins σ H s) : ∀ {vs : List V} {ds : List PyData} {us : List Value}, DpAll X.K H vs ds → Vals vs us → PySem.W.EachIs (fun v d => ∃ as, Reads s.heap v d as) us ds
  | _, _, _, .nil, .nil => .nil
  | _, _, _, .cons h r, .cons a t => .cons (Dp.reads I _ _ _ h a) (each_dp I r t)
theorem each_pairs : ∀ {es : List (V × PyData)} {us : List Value}, Vals (es.map (·.1)) us → PySem.W.EachIs (fun v (e : V × PyData) => RelV e.1 v) us es
  | [], _, .nil => .nil
  | _ :: _, _, .cons a t => .cons a (each_pairs t)
theorem pairs_each : ∀ {es : List (V × PyData)} {us : List Value}, PySem.W.EachIs (fun v (e : V × PyData) => RelV e.1 v) us es → Vals (es.map (·.1)) us
  | [], _, .nil => .nil
  | _ :: _, _, .cons a t => .cons a (pairs_each t)
abbrev keyed (es : List (V × PyData)) : List (V × PyData) := es.mergeSort (PySem.W.dataLe false fun e => e.2)
def rSortK (K : PySem.W.Frag) (f : Addr) (sp : Sp) : List V → List V → Hp → VK → Prop := fun vs zs H Q => ∃ (l : Addr) (es : List (V × PyData)), vs = [.ref l] ∧ zs = [.ref f] ∧ SqL K H l (es.map (·.1)) ∧ PySem.W.AllAlike (es.map (·.2)) ∧ PySem.W.Sortable (es.map (·.2)) ∧ (∀ e ∈ es, e.2.depth ≤ 60) ∧
  (∀ e ∈ es, ∀ H1, Same H H1 → ∀ Q1 : VK, (∀ v H2, Same H1 H2 → Dp K H2 v e.2 → Q1 v H2) → sp [e.1] H1 Q1 E0) ∧ ∀ (p : Addr) (H1 : Hp), H p = none → Same H H1 → H1 p = some (.lst ((keyed es).map (·.1))) → Q (.ref p) H1
theorem cr_sortK {X : Cx} {k : Nat} {f : Addr} {fd : FuncData} {p1 : Str} {sp : Sp} (F : FnOk X.prog X.w X.K X.mg X.base CX0 k f fd [p1] sp) (hr : Room (k + 2) X.A) (hb : Binds X.K fd [p1] []) : CallRK X (.builtin "sorted") [Str.ofString "key"] (rSortK X.K f sp) := by
  rintro pins s σ H vs zs us ws Q I r rz ⟨l, es, rfl, rfl, hs, al, so, dp, key, q⟩
  obtain rfl := Vals.ref1 r
  obtain rfl := Vals.ref1 rz
  obtain ⟨its, rv, hl, hz⟩ := I.list hs
  have hlen : its.length = es.length := by rw [← rv.length, List.length_map]
  have hZ : its.length ≤ sizeLine := by rw [← rv.length]; exact hz
  have rB : Room k X.A.in1.in1 := hr.in1.in1
  have uB : X.A.in1.in1.units + 64 < cLine := rB.units
  refine PySem.W.sorted_of_sort (vs := its) hl.isList hZ (PyProof.Rows.ksk_s1 _ _) (fun _ => PyProof.Rows.ksk_l1 _ _) fun E' => ?_
  show wpAny _ X.A.in1.in1 (Builtin.«list.sort» ⟨[.ref (s.heap.objs.size + 1)], [(Str.ofString "key", .ref f)]⟩) _ _ _
  rw [PyProof.Rows.ksk_t1]
  generalize ha : s.heap.objs.size + 1 = a
  have ho : (PySem.W.copyHeap s.heap its).get? a = some (seqObj "list" its.toArray 0) := by rw [← ha]; exact PySem.W.copyHeap_at s.heap its
  obtain ⟨e1, ho1⟩ : ∃ e1, ((PySem.W.copyHeap s.heap its).update a (Obj.mapSeq fun _ => (#[] : Array Value))).get? a = some (seqObj "list" #[] e1) := ⟨_, get?_update_seq ho fun _ => #[]⟩
  have hsz0 : a < (PySem.W.copyHeap s.heap its).objs.size := Heap.lt_size ho
  unfold PyProof.Rows.ksk_tree
  refine wpAny_bind (listItems_at ho rfl ?_)
  refine wpAny_bind (listUpdate_at ho rfl ?_ (by rw [List.size_toArray]; exact hZ) (Nat.zero_le _))
  refine wpAny_bind (seqEpoch_at ho1 rfl ?_)
  refine wpAny_bind (wpAny_newTuple ?_ hZ)
  refine wpAny_bind (wpAny_newList ?_ (Nat.zero_le _))
  refine wpAny_holding ?_
  generalize hk : (((PySem.W.copyHeap s.heap its).update a (Obj.mapSeq fun _ => (#[] : Array Value))).push (seqObj "tuple" its.toArray 0)).objs.size = kS
  generalize hg : (((PySem.W.copyHeap s.heap its).update a (Obj.mapSeq fun _ => (#[] : Array Value))).push (seqObj "tuple" its.toArray 0)).push (seqObj "list" #[] 0) = g
  have size_g : s.heap.objs.size < kS := by
    rw [← hk, size_push', Heap.size_update]
    omega
  have hka : kS ≠ a := by
    rw [← hk, size_push', Heap.size_update]
    omega
  have old : ∀ b o, s.heap.get? b = some o → g.get? b = some o := fun b o e => by
    rw [← hg]
    refine Heap.get?_push_of_some _ (Heap.get?_push_of_some _ ((Heap.get?_update_ne _ _ _ _ (Nat.ne_of_lt ?_)).trans (PySem.W.copyHeap_old e)))
    exact Nat.lt_of_lt_of_le (Heap.lt_size e) (by omega)
  have ga : g.get? a = some (seqObj "list" #[] e1) := by
    rw [← hg]
    exact Heap.get?_push_of_some _ (Heap.get?_push_of_some _ ho1)
  have gk : g.get? kS = some (seqObj "list" #[] 0) := by
    rw [← hg, ← hk]
    exact Heap.get?_push_size _ rfl
  have fa : ∀ {H1 : Hp}, H1 a = none → FpOk X pins H1 a := fun n => I.fpOk (by omega) n
  have fk : ∀ {H1 : Hp}, H1 kS = none → FpOk X pins H1 kS := fun n => I.fpOk (by omega) n
  -- the two lists of the sort are held as pins
  have pin : ∀ {H1 : Hp} {s1 : Shared} {kA : Array Value} {n : Nat}, Inv X pins σ H1 s1 → H1 a = none → H1 kS = none → s1.heap.get? a = some (seqObj "list" #[] e1) → s1.heap.get? kS = some (seqObj "list" kA n) → Inv X (pins ++ [(a, seqObj "list" #[] e1), (kS, seqObj "list" kA n)]) σ H1 s1 := fun {H1 s1 kA n} J na nk ea ek => by
    refine J.pins_of fun p hp => ?_
    rcases List.mem_append.mp hp with h | h
    · exact J.pin p (List.mem_append_right _ h)
    · rcases List.mem_cons.mp h with rfl | h
      · exact ⟨ea, na, (fa na).2.1, (fa na).2.2.1, fun v z => by cases z⟩
      · rw [List.mem_singleton.mp h]
        exact ⟨ek, nk, (fk nk).2.1, (fk nk).2.2.1, fun v z => by cases z⟩
  have I0 : Inv X pins σ H { s with heap := g } := I.kept (t' := s.toks) old
  have na0 : H a = none := I.hok.fresh (by omega)
  have nk0 : H kS = none := I.hok.fresh (by omega)
  unfold PyProof.Rows.ksk_rest
  refine wpAny_bind (wpAny_rule ?_)
  first
    | rw [List.forIn_toArray]
    | (rw [← Array.forIn_toList]; simp only [List.toList_toArray])
  refine wpAny_bind (PyProof.Rows.ksk_fold (fun i s' => ∃ H1 kA n kv, Same H H1 ∧ Inv X (pins ++ [(a, seqObj "list" #[] e1), (kS, seqObj "list" kA n)]) σ H1 s' ∧ Vals kv kA.toList ∧ DpAll X.K H1 kv ((es.take i).map (·.2))) its 0 _
    ⟨H, #[], 0, [], fun _ _ e => e, pin I0 na0 nk0 ga gk, .nil, .nil⟩ ?step ?done)
  case step =>
    rintro j u s1 hu ⟨H1, kA, n, kv, sm, J, vk, dk⟩
    rw [Nat.zero_add] at dk ⊢
    obtain ⟨v, hv, rel⟩ := vals_get rv hu
    rw [List.getElem?_map] at hv
    obtain ⟨e, he, rfl⟩ := Option.map_eq_some_iff.mp hv
    have pa := J.pin (a, seqObj "list" #[] e1) (by simp)
    have pk := J.pin (kS, seqObj "list" kA n) (by simp)
    have hj : j < its.length := (List.getElem?_eq_some_iff.mp hu).1
    have ck : kA.size ≤ its.length := by
      have h1 : kv.length = kA.size := vk.length.trans Array.length_toList
      have h2 := DpAll.len dk
      rw [List.length_map, List.length_take] at h2
      omega
    have E1 := J.env0
    have sp1 := key e (List.mem_of_getElem? he) H1 sm (fun v H2 => Same H1 H2 ∧ Dp X.K H2 v e.2) fun v H2 h1 h2 => ⟨h1, h2⟩
    refine wpAny_bind (wpAny_attempt ?_)
    refine wpAny_call (codeAny_mono (F.run X.A.in1.in1 X.stack s1 H1 ⟨[u], []⟩ [u] [e.1] _ E0 rB ⟨E1.frames, E1.mod, E1.bs, E1.bsz, E1.funs, E1.frf, E1.hok, E1.bare⟩ (hb s1 [u] J.kIn rfl) (.cons rel .nil) sp1) ?_)
    rintro r s2 hq
    cases r with
    | error e => exact False.elim hq
    | ok fl =>
      cases fl with
      | next => exact False.elim hq
      | brk => exact False.elim hq
      | cont => exact False.elim hq
      | ret x =>
        obtain ⟨v2, H2, J2, rel2, sm2, dp2⟩ := J.after hq
        have pa2 := J2.pin (a, seqObj "list" #[] e1) (by simp)
        have pk2 := J2.pin (kS, seqObj "list" kA n) (by simp)
        have J3 : Inv X pins σ H2 s2 := J2.unpinned
        obtain ⟨c2, hc2⟩ : ∃ c2, (s2.heap.update kS (Obj.mapSeq (·.push x))).get? kS = some (seqObj "list" (kA.push x) c2) := ⟨_, get?_update_seq pk2.1 (·.push x)⟩
        have sb := Heap.SameBut.update s2.heap kS (Obj.mapSeq (·.push x))
        show wpAny _ _ _ _ _ _
        refine wpAny_bind (listUpdate_at pk2.1 rfl ?_ (Nat.le_trans ck hZ) (Nat.le_trans (Nat.le_of_eq (Array.size_push ..)) (Nat.succ_le_succ (Nat.le_trans ck hZ))))
        have J4 : Inv X pins σ H2 { s2 with heap := s2.heap.update kS (Obj.mapSeq (·.push x)), toks := s2.toks } := J3.turnedL (ch := [kS]) (fun b o hb e => (sb.2 b (fun z => hb (by simp [z]))).trans e) fun b hb => by rw [List.mem_singleton.mp hb]; exact fk pk2.2.1
        refine wpAny_pure ⟨rfl, H2, kA.push x, c2, kv ++ [v2], fun b o e => sm2 b o (sm b o e), pin J4 pa2.2.1 pk2.2.1 ((sb.2 a hka.symm).trans pa2.1) hc2, ?_, ?_⟩
        · rw [Array.toList_push]
          exact vals_snoc vk rel2
        · rw [List.take_add_one, he, List.map_append]
          exact DpAll.snoc (DpAll.on sm2 dk) dp2
  case done =>
    rintro s1 ⟨H1, kA, n, kv, sm, J, vk, dk⟩
    have pa := J.pin (a, seqObj "list" #[] e1) (by simp)
    have pk := J.pin (kS, seqObj "list" kA n) (by simp)
    have J1 : Inv X pins σ H1 s1 := J.unpinned
    rw [Nat.zero_add, hlen, List.take_length] at dk
    have hk1 := each_dp J dk vk
    have sz : kA.size = its.length := by
      have h1 : kv.length = kA.size := vk.length.trans Array.length_toList
      have h2 := DpAll.len dk
      rw [List.length_map] at h2
      omega
    have hu : ∀ d, d ∈ es.map (·.2) → X.A.in1.in1.units + d.depth < cLine := fun d hd => by
      obtain ⟨e, he, rfl⟩ := List.mem_map.mp hd
      have := dp e he
      omega
    obtain ⟨G, g1, g2⟩ := L2.restrict s1.heap fun b => decide (b ≠ kS)
    have kp : PySem.W.KeepsBut a G s1.heap := fun b o _ e => by
      by_cases z : b = kS
      · rw [g2 b (decide_eq_false fun h => h z)] at e
        cases e
      · rw [g1 b (decide_eq_true z)] at e
        exact e
    refine wpAny_bind (listItems_at pk.1 rfl ?_)
    refine PySem.W.keyH_end (κ := PySem.W.dataKind s1.heap (es.map (·.2))) (h₁ := G) kp (g2 kS (decide_eq_false fun h => h rfl)) pk.1 pa.1 hka (PySem.W.SortsAt.data hk1 al so hu) sz hZ fun h3 tk3 c k3 n3 => ⟨rfl, ?_⟩
    have ko : PySem.W.KeyedOut false (es.map (·.2)) its (PySem.W.sortVals (PySem.W.dataKind s1.heap (es.map (·.2))) false kA.toList its) := ⟨s1.heap, kA.toList, al, rfl, hk1⟩
    have out := pairs_each (PySem.W.keyedOut_each (fun e : V × PyData => e.2) ko (each_pairs rv))
    have J2 : Inv X pins σ H1 { s1 with heap := h3, toks := tk3 } := J1.turnedL (ch := [a, kS]) (fun b o hb e => k3 b o (fun z => hb (by simp [z])) ((g1 b (decide_eq_true fun z => hb (by simp [z]))).trans e)) fun b hb => by
      rcases List.mem_cons.mp hb with rfl | h
      · exact fa pa.2.1
      · rw [List.mem_singleton.mp h]
        exact fk pk.2.1
    have lo : ((keyed es).map (·.1)).length ≤ sizeLine := by
      rw [List.length_map, List.length_mergeSort, ← hlen]
      exact hZ
    refine ⟨.ref a, upd H1 a (.lst ((keyed es).map (·.1))), J2.take (it := a) (fun b o _ e => e) (fa pa.2.1) ⟨lo, _, c, out, n3⟩, rfl, q a _ na0 (fun b o e => (upd_ne (ne_of_none e na0)).trans (sm b o e)) upd_same⟩
/-! ### {**d, k: v, l: w} -/
section
variable {prog : Program} {w : World} {K : Type} [DecidableEq K] {knd : KeyKind prog w K} {A : Around} {E : Value → Shared → Prop} {s : Shared}
theorem put_pairs {d : Addr} {kvs : List (K × Value)} {k : K} {key v : Value} {Q : Unit → Shared → Prop} (hkey : knd.is k key = true) (hm : s.heap.DictOf knd d kvs) (hsz : kvs.length ≤ sizeLine)
    (hQ : ∀ h', h'.DictOf knd d (stored kvs k v) → Heap.SameBut d s.heap h' → Q () { s with heap := h' }) : wpAny (model prog w) A (dictPut d (knd.hash k) key v) Q E s := by
  obtain ⟨o, es, ep, ho, hc, hd, hk, hp, hn⟩ := hm
  have sz : es.size = kvs.length := by rw [← hp.length, Array.length_toList]
  have idx : (es.findIdx? fun e => knd.is k e.key) = kvs.findIdx? fun kv => decide (kv.1 = k) := by
    rw [← hp.findIdx k]
    obtain ⟨l⟩ := es
    simp
  unfold dictPut
  refine wpAny_bind (wpAny_dictFind_of hkey ho hd hk ?_)
  cases hi : es.findIdx? fun e => knd.is k e.key with
  | some i =>
    have any : (kvs.any fun kv => decide (kv.1 = k)) = true := any_of_findIdx_some (idx ▸ hi)
    refine wpAny_updateDict ho hd (hQ _ ⟨_, _, ep, Heap.get?_update_self _ ho (Obj.isFreed_of_dict (Obj.data_mapDict hd _)), hc.mapDict _, Obj.data_mapDict hd _, hk.modify _ _, ?_, ?_⟩ (Heap.SameBut.update ..))
    · have q := hp.modify hn (k := k) (i := i) (by rw [← hi]; obtain ⟨l⟩ := es; simp) v
      rw [stored, if_pos any]
      obtain ⟨l⟩ := es
      simpa using q
    · rw [stored, if_pos any, keys_map_store]
      exact hn
  | none =>
    have out : k ∉ kvs.map (·.1) := not_mem_of_findIdx_none (idx ▸ hi)
    have no : ¬ (kvs.any fun kv => decide (kv.1 = k)) = true := fun z => by
      obtain ⟨kv, h1, h2⟩ := List.any_eq_true.mp z
      exact out (List.mem_map.mpr ⟨kv, h1, of_decide_eq_true h2⟩)
    refine wpAny_updateDictKeys (hz := by rw [sz]; exact hsz) ho hd (hQ _ ⟨_, _, ep + 1, Heap.get?_update_self _ ho (Obj.isFreed_of_dict (Obj.data_mapDictKeys hd _)), hc.mapDictKeys _, Obj.data_mapDictKeys hd _, hk.push hkey _, ?_, ?_⟩ (Heap.SameBut.update ..))
    · have q := hp.append hkey (knd.hash k) v
      rw [stored, if_neg no]
      obtain ⟨l⟩ := es
      simpa using q
    · rw [stored, if_neg no, List.map_append, List.nodup_append]
      refine ⟨hn, by simp, fun a ha b hb e => out ?_⟩
      rw [List.map_cons, List.map_nil, List.mem_singleton] at hb
      have z : a = k := e.trans hb
      rw [← z]
      exact ha
theorem merge_pairs {d a : Addr} {kvs more : List (K × Value)} {Q : Unit → Shared → Prop} (hda : d ≠ a) (hS : (a == sysModules) = false) (hd : s.heap.DictOf knd d kvs) (ha : s.heap.DictOf knd a more) (hsz : kvs.length + more.length ≤ sizeLine)
    (hQ : ∀ h', h'.DictOf knd d (merged kvs more) → Heap.SameBut d s.heap h' → Q () { s with heap := h' }) : wpAny (model prog w) A (mergeMapping d (.ref a) false) Q E s := by
  obtain ⟨oa, ea, pa, ha1, ha2, ha3, ha4, ha5, ha6⟩ := id ha
  obtain ⟨od, ed, pd, hd1, hd2, hd3, hd4, hd5, hd6⟩ := id hd
  have len : ea.size = more.length := by rw [← ha5.length, Array.length_toList]
  unfold mergeMapping
  refine wpAny_bind (wpAny_isInstance ha.typeIs isSubtype_dict_dict ?_)
  rw [if_pos rfl]
  refine wpAny_bind (wpAny_specialOf ha.typeIs PySem.F.slot_dict_iter.lookup ?_)
  refine wpAny_bind (wpAny_pure ?_)
  rw [show (some (Value.builtin "dict.__iter__") == some (Value.builtin "dict.__iter__")) = true by decide]
  dsimp only
  rw [if_neg (by rw [hS]; exact Bool.false_ne_true)]
  have loop : wpAny (model prog w) A (do
      let l ← dictEntries a
      let size : Nat := l.size
      let epoch ← dictEpoch a
      forIn (List.range size) PUnit.unit fun i (_ : PUnit) => (do
          let l' ← dictEntries a
          match l'[i]? with
          | some e => do
            holding [e.key, e.val] (dictPut d e.hash e.key e.val)
            let p ← dictEpoch a
            if (p != epoch) = true then do
                (unsupported "dict.changed-during-merge" : Sem PUnit)
                pure (ForInStep.yield PUnit.unit)
              else pure (ForInStep.yield PUnit.unit)
          | x => do
            (unsupported "dict.changed-during-merge" : Sem PUnit)
            pure (ForInStep.yield PUnit.unit) : Sem (ForInStep PUnit))
      pure ()) Q E s := by
    refine wpAny_bind (wpAny_dictEntries ha1 ha3 ?_)
    refine wpAny_bind (wpAny_dictEpoch ha1 ha3 ?_)
    refine wpAny_bind (wpAny_forIn_list _ (fun rest _ s' => ∃ h' i, s' = { s with heap := h' } ∧ rest = List.range' i (ea.size - i) ∧ i ≤ ea.size ∧ h'.DictOf knd d (merged kvs (more.take i)) ∧ Heap.SameBut d s.heap h') _ ?_ ?_ _ _
      ⟨s.heap, 0, rfl, List.range_eq_range' .., Nat.zero_le _, hd, Heap.SameBut.refl _ _⟩)
    · rintro x rest b s' ⟨h', i, rfl, hr, hi, hd', hs'⟩
      have lt : i < ea.size := by
        rcases Nat.lt_or_ge i ea.size with h | h
        · exact h
        · rw [Nat.sub_eq_zero_of_le h] at hr
          cases hr
      rw [show ea.size - i = (ea.size - (i + 1)) + 1 by omega, List.range'_succ] at hr
      obtain ⟨rfl, rfl⟩ := List.cons.inj hr
      have ha1' : h'.get? a = some oa := (hs'.2 a hda.symm).trans ha1
      refine wpAny_bind (wpAny_dictEntries (s := { s with heap := h' }) ha1' ha3 ?_)
      rw [Array.getElem?_eq_getElem lt]
      obtain ⟨⟨k, v⟩, hkv⟩ : ∃ kv, more[x]? = some kv := ⟨_, List.getElem?_eq_getElem (by omega)⟩
      obtain ⟨hkey, hval⟩ := ha5.get? (e := ea[x]) (by simp [lt]) hkv
      obtain ⟨k', hkey', hhash⟩ := ha4 ea[x] (Array.getElem_mem lt)
      obtain rfl : k' = k := knd.inj _ _ _ hkey' hkey
      dsimp only at hval ⊢
      rw [hhash, hval]
      have le : (merged kvs (more.take x)).length ≤ sizeLine := by
        have h1 := merged_length_le kvs (more.take x)
        rw [List.length_take] at h1
        omega
      refine wpAny_bind (wpAny_holding (put_pairs (s := { s with heap := h' }) hkey' hd' le fun h2 hd2 hs2 => ?_))
      refine wpAny_bind (wpAny_dictEpoch (s := { s with heap := h2 }) ((hs2.2 a hda.symm).trans ha1') ha3 ?_)
      rw [if_neg (by simp)]
      refine wpAny_pure ⟨h2, x + 1, rfl, rfl, lt, ?_, ?_⟩
      · rw [merged_take_succ _ _ _ _ hkv]
        exact hd2
      · exact hs'.trans hs2
    · rintro b s' ⟨h', i, rfl, hr, hi, hd', hs'⟩
      have e : i = ea.size := by
        rcases Nat.lt_or_ge i ea.size with h | h
        · rw [show ea.size - i = (ea.size - (i + 1)) + 1 by omega, List.range'_succ] at hr
          cases hr
        · omega
      rw [e, len, List.take_length] at hd'
      exact wpAny_pure (hQ h' hd' hs')
  refine wpAny_bind (wpAny_dictEntries hd1 hd3 ?_)
  split
  · refine wpAny_bind (wpAny_dictEntries ha1 ha3 ?_)
    refine wpAny_bind ?_
    rw [← Array.forIn_toList]
    refine wpAny_forIn_list _ (fun rest _ s' => s' = s ∧ ∀ e ∈ rest, carriedByValue e.key = true) _ ?_ ?_ _ _ ⟨rfl, fun e he => ?_⟩
    · rintro e rest b s' ⟨rfl, h⟩
      have hc := h e List.mem_cons_self
      cases hk : e.key with
      | ref z =>
        rw [hk] at hc
        cases hc
      | _ => exact wpAny_pure ⟨rfl, fun e he => h e (List.mem_cons_of_mem _ he)⟩
    · rintro b s' ⟨rfl, _⟩
      exact loop
    · obtain ⟨k, h1, _⟩ := ha4 e (Array.mem_toList_iff.mp he)
      exact knd.byValue _ _ h1
  · exact loop
end
theorem display2 (m k1 v1 k2 v2 : Sem Value) : dictDisplay [(none, m), (some k1, v1), (some k2, v2)] = (do
    let d ← alloc { cls := .type "dict", data := .dict #[] }
    let x ← holding [.ref d] m
    (((holding [.ref d, x] (mergeMapping d x false)).onRaise fun y => do let _ ← holding [.ref d, x, y] (runValue (.builtin "proto.let_go" {}))).tryCatch fun e => do
        if ← isInstance e (.type "AttributeError") then
          rule "dict.display.not-a-mapping"; raiseError "TypeError" s!"'{← typeNameOf x}' object is not a mapping"
        throw e).onRaise fun y => do let _ ← holding [.ref d, y] (runValue (.builtin "proto.let_go" {}))
    let sub ← holding [.ref d] (subDict [(k1, v1), (k2, v2)])
    (holding [.ref d, .ref sub] (mergeMapping d (.ref sub) false)).onRaise fun y => do let _ ← holding [.ref d, y] (runValue (.builtin "proto.let_go" {}))
    pure (.ref d)) := by
  unfold dictDisplay
  simp
/-- {**d, k: v, l: w}: a new dict with d's pairs, then the others -/
def tDispM (t0 : TE) (trs : List (TE × TE)) : TE := fun σ H Q => ∀ p, H p = none → t0 σ (upd H p (.dK [])) fun x H1 => ∃ (a : Addr) (kvs : List (Key × V)), x = .ref a ∧ a ≠ p ∧ Rd H1 a (.dK kvs) ∧ H1 p = some (.dK []) ∧
  ∀ q, upd H1 p (.dK (mergeK [] kvs)) q = none → tPairs trs σ (upd (upd H1 p (.dK (mergeK [] kvs))) q (.dK [])) fun ps H2 => H2 q = some (.dK []) ∧ H2 p = some (.dK (mergeK [] kvs)) ∧ q ≠ p ∧ kvs.length + 15 ≤ 1000 ∧
    ∃ more : List (Key × V), ps = more.map (fun kv => (kV kv.1, kv.2)) ∧ more.length ≤ 15 ∧ Q (.ref p) (upd (upd H2 q (.dK (mergeK [] more))) p (.dK (mergeK (mergeK [] kvs) (mergeK [] more))))
theorem pe_dispM {X : Cx} {pos : Pos} {e0 k1 v1 k2 v2 : Expr} {t0 : TE} {trs : List (TE × TE)} (h0 : PE X e0 t0) (h : PPs X pos [some k1, some k2] [v1, v2] trs) : PE X (.Dict [none, some k1, some k2] [e0, v1, v2] pos) (tDispM t0 trs) := by
  refine ⟨fun pins s σ H Q I q => ?_⟩
  rw [arm_eval_Dict]
  refine wpAny_bind (wpAny_standAt ?_)
  show wpAny _ _ (dictDisplay [(none, do let x ← eval e0 X.env; standAt pos; pure x), (some (eval k1 X.env), do let x ← eval v1 X.env; standAt pos; pure x), (some (eval k2 X.env), do let x ← eval v2 X.env; standAt pos; pure x)]) _ _ _
  rw [display2]
  refine wpAny_bind (wpAny_alloc ?_)
  have fresh := I.hok.fresh (Nat.le_refl s.heap.objs.size)
  have I1 := I.laid (a := s.heap.objs.size) (o := .dK []) (h' := s.heap.push { cls := .type "dict", data := .dict #[] }) (t' := s.toks) (fun _ _ q => Heap.get?_push_of_some _ q) (Nat.le_refl _) (dk_empty s.heap I.big)
  generalize hp : s.heap.objs.size = p at *
  refine wpAny_bind (wpAny_holding (wpAny_bind (thn (h0.run pins _ σ _ _ I1 (q p fresh)) ?_)))
  rintro u s1 ⟨x, H1, I2, rx, a, kvs, rfl, nap, hx, hpE, q1⟩
  obtain rfl : u = Value.ref a := rx
  refine wpAny_bind (wpAny_standAt (wpAny_pure ?_))
  obtain ⟨za, aS, va, ra, da⟩ := dk_rd I2.hok hx
  obtain ⟨zp, pS, vp, rp, dp⟩ := dk_of I2.hok hpE
  cases rp
  refine wpAny_bind (wpAny_onRaise (wpAny_tryCatch (wpAny_onRaise (wpAny_holding (merge_pairs (knd := mixKind X.prog X.w) (fun z => nap z.symm) aS dp da (by rw [List.length_nil, Nat.zero_add, ← ra.length]; exact za) fun h1 d1 sb1 => ?_)))))
  have hz1 : (mergeK [] kvs).length ≤ sizeLine := by
    have := length_mergeK kvs []
    rw [List.length_nil] at this
    omega
  have I3 : Inv X pins σ (upd H1 p (.dK (mergeK [] kvs))) { s1 with heap := h1, toks := s1.toks } := d_write I2 (by rw [hpE]; exact True.intro) sb1 (let ⟨q, _, _, hq, _⟩ := d1; ⟨q, hq⟩) (dk_new hz1 pS (ra.merge .nil) d1)
  -- the pairs, in a dict of their own
  have fresh2 := I3.hok.fresh (Nat.le_refl h1.objs.size)
  have I4 := I3.laid (a := h1.objs.size) (o := .dK []) (h' := h1.push { cls := .type "dict", data := .dict #[] }) (t' := s1.toks) (fun _ _ q => Heap.get?_push_of_some _ q) (Nat.le_refl _) (dk_empty h1 I3.big)
  refine wpAny_bind (wpAny_holding ?_)
  show wpAny _ _ (subDict (pairTrees [some k1, some k2] [v1, v2] X.env pos)) _ _ _
  refine wpAny_subDict (knd := mixKind X.prog X.w) (show 2 ≤ 15 by decide) (thn (h.run pins _ σ _ _ I4 (q1 _ fresh2)) ?_)
  rintro ws s2 ⟨ps, H2, I5, rel, eq, ep, nqp, small, more, rfl, lm, q2⟩
  obtain ⟨rs, c, rk⟩ := carries_of (P := X.prog) (w := X.w) rel
  obtain ⟨zq, qS, vq, rq, dq⟩ := dk_of I5.hok eq
  cases rq
  refine ⟨rs, c, dq, fun h3 d3 sb3 => ?_⟩
  have hz2 : (mergeK [] more).length ≤ sizeLine := by
    have := length_mergeK more []
    rw [List.length_nil] at this
    rw [sizeLine_eq]
    omega
  have rm : KV (mergeK [] more) (merged [] rs) := rk.merge .nil
  have I6 : Inv X pins σ (upd H2 h1.objs.size (.dK (mergeK [] more))) { s2 with heap := h3, toks := s2.toks + ws.length } := d_write I5 (by rw [eq]; exact True.intro) sb3 (let ⟨q, _, _, hq, _⟩ := d3; ⟨q, hq⟩) (dk_new hz2 qS rm d3)
  have ep6 : upd H2 h1.objs.size (.dK (mergeK [] more)) p = some (.dK (mergeK [] kvs)) := (upd_ne (fun z => nqp z.symm)).trans ep
  obtain ⟨zp6, _, vp6, rp6, dp6⟩ := dk_of I6.hok ep6
  have ks : (mergeK [] kvs).length ≤ kvs.length := by
    have := length_mergeK kvs []
    rw [List.length_nil] at this
    omega
  have ms : (mergeK [] more).length ≤ more.length := by
    have := length_mergeK more []
    rw [List.length_nil] at this
    omega
  refine wpAny_bind (wpAny_onRaise (wpAny_holding (merge_pairs (knd := mixKind X.prog X.w) (fun z => nqp z.symm) qS dp6 d3 (by rw [← rp6.length, ← rm.length, sizeLine_eq]; omega) fun h4 d4 sb4 => wpAny_pure ?_)))
  have hz3 : (mergeK (mergeK [] kvs) (mergeK [] more)).length ≤ sizeLine := by
    have := length_mergeK (mergeK [] more) (mergeK [] kvs)
    rw [sizeLine_eq]
    omega
  exact ⟨.ref p, _, d_write (t' := s2.toks + ws.length) I6 (by rw [ep6]; exact True.intro) sb4 (let ⟨q, _, _, hq, _⟩ := d4; ⟨q, hq⟩) (dk_new hz3 pS (rm.merge rp6) d4), rfl, q2⟩
/-! ### places_of -/
namespace Ent
def places : Ent → List Str
  | come _ _ _ p _ _ => [p]
  | go _ _ _ p _ => [p]
  | move _ _ _ o t _ => [o, t]
  | some_ _ _ _ o t => if t = "" then [o] else [o, t]
  | swap _ _ o t => [o, t]
  | count _ _ _ p _ _ => [p]
  | look _ _ _ p => [p]
end Ent
def spPlaces : Sp := fun vs H Q _ => ∃ (a : Addr) (e : Ent), vs = [.ref a] ∧ H a = some (.tup e.vals) ∧ ∀ (tp : Addr) (H' : Hp), Same H H' → H' tp = some (.tup (e.places.map V.str)) → Q (.ref tp) H'
theorem cut_mid {xs : List V} {i j : Nat} (h : j ≤ xs.length) (hi : i ≤ j) : cutV xs (some (i : Int)) (some (j : Int)) = (xs.drop i).take (j - i) := by
  unfold cutV
  rw [HT.sIx_nat, HT.sIx_nat, Nat.min_eq_left h, Nat.min_eq_left (Nat.le_trans hi h)]
theorem no_whole {n i j : Nat} (h : i ≤ n) (hi : 0 < i) : ¬ (HT.sIx n 0 (some (i : Int)) = 0 ∧ HT.sIx n n (some (j : Int)) = n) := by
  rw [HT.sIx_nat, Nat.min_eq_left h]
  omega
theorem cut_take {xs : List V} {k : Nat} : cutV xs none (some (k : Int)) = xs.take k := by
  unfold cutV
  rw [HT.sIx_none, HT.sIx_nat]
  show (xs.drop 0).take (min k xs.length - 0) = xs.take k
  rw [List.drop_zero, Nat.sub_zero]
  by_cases h : k ≤ xs.length
  · rw [Nat.min_eq_left h]
  · rw [Nat.min_eq_right (by omega), List.take_length, List.take_of_length_le (by omega)]
/-! ### houses -/
def TK (H H' : Hp) : Prop := ∀ a xs, H a = some (.tup xs) → H' a = some (.tup xs)
theorem TK.of {H H' : Hp} (s : Same H H') : TK H H' := fun a xs e => s a _ e
theorem TK.tr {H H1 H2 : Hp} (a : TK H H1) (b : TK H1 H2) : TK H H2 := fun c xs e => b c xs (a c xs e)
theorem TK.but {H H' : Hp} {p c : Addr} {n : Nat} (pen : PenAt H p c n) (b : But p H H') : TK H H' := fun a xs e => by
  obtain ⟨kvs, ns', a', x', g1, _⟩ := pen.ex
  exact b a _ e (ne_of e g1 (by intro z; cases z))
theorem TK.upd {H : Hp} {l : Addr} {o : HO} (n : ∀ xs, H l ≠ some (.tup xs)) : TK H (upd H l o) := fun a xs e => by
  by_cases z : a = l
  · rw [z] at e
    exact absurd e (n xs)
  · exact (upd_ne z).trans e
/-- each address holds its entry -/
inductive EntsAt (H : Hp) : List Addr → List Ent → Prop
  | nil : EntsAt H [] []
  | cons {a : Addr} {e : Ent} {as : List Addr} {es : List Ent} : H a = some (.tup e.vals) → EntsAt H as es → EntsAt H (a :: as) (e :: es)
theorem EntsAt.on {H H' : Hp} (k : TK H H') {as : List Addr} {es : List Ent} (h : EntsAt H as es) : EntsAt H' as es := by
  induction h with
  | nil => exact .nil
  | cons a _ ih => exact .cons (k _ _ a) ih
theorem EntsAt.len {H : Hp} {as : List Addr} {es : List Ent} (h : EntsAt H as es) : as.length = es.length := by
  induction h with
  | nil => rfl
  | cons _ _ ih => simp [ih]
theorem EntsAt.snoc {H : Hp} {a : Addr} {e : Ent} {as : List Addr} {es : List Ent} (h : EntsAt H as es) (q : H a = some (.tup e.vals)) : EntsAt H (as ++ [a]) (es ++ [e]) := by
  induction h with
  | nil => exact .cons q .nil
  | cons a _ ih => exact .cons a ih
theorem EntsAt.get {H : Hp} {as : List Addr} {es : List Ent} (h : EntsAt H as es) : ∀ {i : Nat} {a : Addr}, as[i]? = some a → ∃ e, es[i]? = some e ∧ H a = some (.tup e.vals) := by
  induction h with
  | nil => intro i a q; cases q
  | @cons a0 e0 as es q _ ih =>
    intro i a z
    cases i with
    | zero => exact ⟨e0, rfl, by rw [← Option.some.inj z]; exact q⟩
    | succ n => exact ih (i := n) z
structure HouseAt (H : Hp) (h : Addr) (P G : List Str) (es : List Ent) : Prop where
  ex : ∃ (hp hg he : Addr) (tps : List Addr), H h = some (.tup [.ref hp, .ref hg, .ref he]) ∧ H hp = some (.tup (P.map V.str)) ∧ H hg = some (.tup (G.map V.str)) ∧ H he = some (.tup (tps.map V.ref)) ∧ EntsAt H tps es
theorem HouseAt.on {H H' : Hp} (k : TK H H') {h : Addr} {P G : List Str} {es : List Ent} (x : HouseAt H h P G es) : HouseAt H' h P G es := by
  obtain ⟨hp, hg, he, tps, h1, h2, h3, h4, h5⟩ := x.ex
  exact ⟨hp, hg, he, tps, k _ _ h1, k _ _ h2, k _ _ h3, k _ _ h4, h5.on k⟩
/-- what holds of a house that a law makes -/
structure Good (P G : List Str) (es : List Ent) (m : Nat) : Prop where
  nd : P.Nodup
  ne : P ≠ []
  le : P.length ≤ 6
  nm : ∀ y ∈ P, nameB y = true
  ge : G ≠ []
  gl : G.length ≤ 3
  gn : ∀ y ∈ G, nameB y = true
  gd : G.Nodup
  many : es.length = m
  nms : (es.map Ent.name).Nodup
  ps : sortedS P = true
  ents : ∀ e ∈ es, nameB e.name = true ∧ 0 ≤ e.moment ∧ e.moment ≤ 9999 ∧ ∃ HL : List Str, (∀ y ∈ HL, nameB y = true) ∧ e.From P G HL
theorem From.perm {e : Ent} {P P' G G' HL : List Str} (h : e.From P G HL) (p : P'.Perm P) (g : G'.Perm G) : e.From P' G' HL := by
  have nd : P'.Nodup → P.Nodup := fun z => p.nodup_iff.mp z
  cases e with
  | come n m gg pl k r => exact ⟨g.mem_iff.mpr h.1, p.mem_iff.mpr h.2.1, h.2.2⟩
  | go n m gg pl k => exact ⟨g.mem_iff.mpr h.1, p.mem_iff.mpr h.2.1, h.2.2⟩
  | move n m gg o t k => exact ⟨g.mem_iff.mpr h.1, p.mem_iff.mpr h.2.1, p.mem_iff.mpr h.2.2.1, fun z => h.2.2.2.1 (nd z), h.2.2.2.2⟩
  | some_ n m gg o t => exact ⟨g.mem_iff.mpr h.1, p.mem_iff.mpr h.2.1, h.2.2.imp id fun z => ⟨p.mem_iff.mpr z.1, fun q => z.2 (nd q)⟩⟩
  | swap n m o t => exact ⟨p.mem_iff.mpr h.1, p.mem_iff.mpr h.2.1, fun z => h.2.2 (nd z)⟩
  | count n m gg pl k hd => exact ⟨g.mem_iff.mpr h.1, p.mem_iff.mpr h.2.1, h.2.2⟩
  | look n m gg pl => exact ⟨g.mem_iff.mpr h.1, p.mem_iff.mpr h.2⟩
/-! the house as data -/
def dV : V → PyData
  | .str x => .str x
  | .int i => .int i
  | _ => .none
def entD (e : Ent) : PyData := .tuple (e.vals.map dV)
def houseD (P G : List Str) (es : List Ent) : PyData := .tuple [.tuple (P.map .str), .tuple (G.map .str), .tuple (es.map entD)]
theorem dp_strs {K : PySem.W.Frag} {H : Hp} : ∀ ys : List Str, DpAll K H (ys.map V.str) (ys.map PyData.str)
  | [] => .nil
  | y :: r => .cons (.str y) (dp_strs r)
theorem dp_ent {K : PySem.W.Frag} {H : Hp} {a : Addr} {e : Ent} (h : H a = some (.tup e.vals)) : Dp K H (.ref a) (entD e) := by
  refine .tup (SqT.of h) ?_
  cases e <;> (repeat' (first | exact .nil | refine .cons (.str _) ?_ | refine .cons (.int _) ?_))
theorem dp_ents {K : PySem.W.Frag} {H : Hp} {as : List Addr} {es : List Ent} (h : EntsAt H as es) : DpAll K H (as.map V.ref) (es.map entD) := by
  induction h with
  | nil => exact .nil
  | cons a _ ih => exact .cons (dp_ent a) ih
theorem HouseAt.dp {K : PySem.W.Frag} {H : Hp} {h : Addr} {P G : List Str} {es : List Ent} (x : HouseAt H h P G es) : Dp K H (.ref h) (houseD P G es) := by
  obtain ⟨hp, hg, he, tps, h1, h2, h3, h4, h5⟩ := x.ex
  exact .tup (SqT.of h1) (.cons (.tup (SqT.of h2) (dp_strs P)) (.cons (.tup (SqT.of h3) (dp_strs G)) (.cons (.tup (SqT.of h4) (dp_ents h5)) .nil)))
/-! its text isn't long -/
structure Short (d : PyData) (n k : Nat) : Prop where
  sh : d.showable = true
  nd : d.hasDict = false
  ls : d.leavesShort 13 = true
  bk : d.bulk ≤ n
  dp : d.depth ≤ k
theorem short_str {y : Str} (h : nameB y = true ∨ y = "" ∨ y ∈ words7) : Short (.str y) 8 0 := by
  have lo : y.cps.toList.all (fun c => decide (c < 16 ^ 8)) = true ∧ y.cps.size ≤ 8 := by
    rcases h with h | rfl | h
    · unfold nameB at h
      rw [Bool.and_eq_true, Bool.and_eq_true] at h
      have l8 : y.length ≤ 8 := of_decide_eq_true h.1.2
      refine ⟨List.all_eq_true.mpr fun c hc => decide_eq_true ?_, l8⟩
      have q : ∀ c ∈ abc.cps.toList, c < 16 ^ 8 := by decide +kernel
      exact q c (of_decide_eq_true (List.all_eq_true.mp h.2 c hc))
    · exact ⟨rfl, Nat.zero_le _⟩
    · simp only [words7, List.mem_cons, List.not_mem_nil, or_false] at h
      rcases h with rfl | rfl | rfl | rfl | rfl | rfl | rfl <;> exact ⟨by decide +kernel, by decide +kernel⟩
  exact ⟨rfl, rfl, lo.1, lo.2, Nat.zero_le _⟩
theorem short_int {i : Int} (h0 : 0 ≤ i) (h1 : i ≤ 1000000000) : Short (.int i) 8 0 := by
  have e : (PyData.shown (.int i)).length ≤ 13 := Nat.le_trans (toString_length_le h0 (k := 10) (by decide) (by omega)) (by decide)
  refine ⟨?_, rfl, decide_eq_true e, Nat.zero_le _, Nat.zero_le _⟩
  show decide (i.natAbs.log2 < 1920) = true
  refine decide_eq_true ?_
  by_cases z : i.natAbs = 0
  · rw [z]
    decide
  · exact Nat.lt_trans ((Nat.log2_lt z).mpr (show i.natAbs < 2 ^ 30 by omega)) (by decide)
theorem short_all {n k : Nat} : ∀ {ds : List PyData}, (∀ d ∈ ds, Short d n k) → PyData.showableAll ds = true ∧ PyData.hasDictAll ds = false ∧ PyData.leavesShortAll 13 ds = true ∧ PyData.bulkAll ds ≤ ds.length * (n + 1) ∧ PyData.depthAll ds ≤ k
  | [], _ => ⟨rfl, rfl, rfl, Nat.le_of_eq (by simp [PyData.bulkAll]), Nat.zero_le _⟩
  | d :: ds, h => by
    have h1 := h d List.mem_cons_self
    obtain ⟨a1, a2, a3, a4, a5⟩ := short_all fun x hx => h x (List.mem_cons_of_mem _ hx)
    refine ⟨?_, ?_, ?_, ?_, ?_⟩
    · rw [PyData.showableAll, h1.sh, a1]
      rfl
    · rw [PyData.hasDictAll, h1.nd, a2]
      rfl
    · rw [PyData.leavesShortAll, h1.ls, a3]
      rfl
    · rw [PyData.bulkAll, List.length_cons, Nat.succ_mul]
      have := h1.bk
      omega
    · rw [PyData.depthAll]
      exact Nat.max_le.mpr ⟨h1.dp, a5⟩
theorem short_tup {n k m : Nat} {ds : List PyData} (h : ∀ d ∈ ds, Short d n k) (l : ds.length * (n + 1) ≤ m) : Short (.tuple ds) m (k + 1) := by
  obtain ⟨a1, a2, a3, a4, a5⟩ := short_all h
  refine ⟨?_, ?_, ?_, ?_, ?_⟩
  · rw [PyData.showable]; exact a1
  · rw [PyData.hasDict]; exact a2
  · rw [PyData.leavesShort]; exact a3
  · rw [PyData.bulk]; omega
  · rw [PyData.depth]; omega
theorem Short.mono {d : PyData} {n k n' k' : Nat} (h : Short d n k) (hn : n ≤ n') (hk : k ≤ k') : Short d n' k' := ⟨h.sh, h.nd, h.ls, Nat.le_trans h.bk hn, Nat.le_trans h.dp hk⟩
theorem Short.fits {d : PyData} {n k : Nat} (h : Short d n k) (hn : n ≤ 100000) : d.shown.length ≤ sizeLine := by
  have q := PyData.shown_le_bulk 13 (by decide) d h.ls
  have := h.bk
  rw [sizeLine_eq]
  omega
theorem short_names {ys : List Str} (h : ∀ y ∈ ys, nameB y = true) (l : ys.length ≤ 31) : Short (.tuple (ys.map .str)) 300 1 := by
  refine short_tup (n := 8) (k := 0) (fun d hd => ?_) (by rw [List.length_map]; omega)
  obtain ⟨y, hy, rfl⟩ := List.mem_map.mp hd
  exact short_str (.inl (h y hy))
theorem short_ent {e : Ent} {P G HL : List Str} (nn : nameB e.name = true) (m0 : 0 ≤ e.moment) (m1 : e.moment ≤ 9999) (hP : ∀ y ∈ P, nameB y = true) (hG : ∀ y ∈ G, nameB y = true) (hH : ∀ y ∈ HL, nameB y = true) (h : e.From P G HL) : Short (entD e) 70 1 := by
  have w : ∀ {x : Str}, x ∈ words7 → Short (.str x) 8 0 := fun hx => short_str (.inr (.inr hx))
  have n : ∀ {x : Str}, nameB x = true → Short (.str x) 8 0 := fun hx => short_str (.inl hx)
  have mo : Short (.int e.moment) 8 0 := short_int m0 (by omega)
  refine short_tup (n := 8) (k := 0) (fun d hd => ?_) (by rw [List.length_map]; cases e <;> simp [Ent.vals, Ent.rest])
  obtain ⟨v, hv, rfl⟩ := List.mem_map.mp hd
  cases e with
  | come nm m g pl k r =>
    obtain ⟨h1, h2, h3, h4, h5, h6⟩ := h
    simp only [Ent.vals, Ent.rest, List.mem_cons, List.not_mem_nil, or_false] at hv
    rcases hv with rfl | rfl | rfl | rfl | rfl | rfl | rfl
    · exact w (Ent.word_in _)
    · exact n nn
    · exact mo
    · exact n (hG _ h1)
    · exact n (hP _ h2)
    · exact short_int (by omega) h4
    · exact short_int h5 h6
  | go nm m g pl k =>
    obtain ⟨h1, h2, h3, h4⟩ := h
    simp only [Ent.vals, Ent.rest, List.mem_cons, List.not_mem_nil, or_false] at hv
    rcases hv with rfl | rfl | rfl | rfl | rfl | rfl
    · exact w (Ent.word_in _)
    · exact n nn
    · exact mo
    · exact n (hG _ h1)
    · exact n (hP _ h2)
    · exact short_int (by omega) h4
  | move nm m g o t k =>
    obtain ⟨h1, h2, h3, h4, h5, h6⟩ := h
    simp only [Ent.vals, Ent.rest, List.mem_cons, List.not_mem_nil, or_false] at hv
    rcases hv with rfl | rfl | rfl | rfl | rfl | rfl | rfl
    · exact w (Ent.word_in _)
    · exact n nn
    · exact mo
    · exact n (hG _ h1)
    · exact n (hP _ h2)
    · exact n (hP _ h3)
    · exact short_int (by omega) h6
  | some_ nm m g o t =>
    obtain ⟨h1, h2, h3⟩ := h
    simp only [Ent.vals, Ent.rest, List.mem_cons, List.not_mem_nil, or_false] at hv
    rcases hv with rfl | rfl | rfl | rfl | rfl | rfl
    · exact w (Ent.word_in _)
    · exact n nn
    · exact mo
    · exact n (hG _ h1)
    · exact n (hP _ h2)
    · rcases h3 with rfl | h3
      · exact short_str (.inr (.inl rfl))
      · exact n (hP _ h3.1)
  | swap nm m o t =>
    obtain ⟨h1, h2, h3⟩ := h
    simp only [Ent.vals, Ent.rest, List.mem_cons, List.not_mem_nil, or_false] at hv
    rcases hv with rfl | rfl | rfl | rfl | rfl
    · exact w (Ent.word_in _)
    · exact n nn
    · exact mo
    · exact n (hP _ h1)
    · exact n (hP _ h2)
  | count nm m g pl k hd =>
    obtain ⟨h1, h2, h3, h4, h5⟩ := h
    simp only [Ent.vals, Ent.rest, List.mem_cons, List.not_mem_nil, or_false] at hv
    rcases hv with rfl | rfl | rfl | rfl | rfl | rfl | rfl
    · exact w (Ent.word_in _)
    · exact n nn
    · exact mo
    · exact n (hG _ h1)
    · exact n (hP _ h2)
    · exact short_int h3 h4
    · exact n (hH _ h5)
  | look nm m g pl =>
    obtain ⟨h1, h2⟩ := h
    simp only [Ent.vals, Ent.rest, List.mem_cons, List.not_mem_nil, or_false] at hv
    rcases hv with rfl | rfl | rfl | rfl | rfl
    · exact w (Ent.word_in _)
    · exact n nn
    · exact mo
    · exact n (hG _ h1)
    · exact n (hP _ h2)
theorem Good.short {P G : List Str} {es : List Ent} {m : Nat} (g : Good P G es m) (hm : m ≤ 31) : Short (houseD P G es) 10000 3 := by
  refine short_tup (n := 3000) (k := 2) (fun d hd => ?_) (by show 3 * 3001 ≤ 10000; decide)
  simp only [List.mem_cons, List.not_mem_nil, or_false] at hd
  rcases hd with rfl | rfl | rfl
  · exact (short_names g.nm (Nat.le_trans g.le (by decide))).mono (by decide) (by decide)
  · exact (short_names g.gn (Nat.le_trans g.gl (by decide))).mono (by decide) (by decide)
  · refine short_tup (n := 70) (k := 1) (fun d hd => ?_) (by rw [List.length_map, g.many]; omega)
    obtain ⟨e, he, rfl⟩ := List.mem_map.mp hd
    obtain ⟨e1, e2, e3, HL, e4, e5⟩ := g.ents e he
    exact short_ent e1 e2 e3 g.nm g.gn e4 e5
/-! ### a house whose tuple of entries is just a tuple, with nothing beside -/
def TF (H H' : Hp) : Prop := TK H H' ∧ ∀ a o xs, H a = some (.frz o (.tup xs)) → H' a = some (.frz o (.tup xs))
theorem TF.of {H H' : Hp} (s : Same H H') : TF H H' := ⟨TK.of s, fun a o xs e => s a _ e⟩
theorem TF.tr {H H1 H2 : Hp} (a : TF H H1) (b : TF H1 H2) : TF H H2 := ⟨a.1.tr b.1, fun c o xs e => b.2 c o xs (a.2 c o xs e)⟩
theorem TF.but {H H' : Hp} {p c : Addr} {n : Nat} (pen : PenAt H p c n) (b : But p H H') : TF H H' := ⟨TK.but pen b, fun a o xs e => by
  obtain ⟨kvs, ns', a', x', g1, _⟩ := pen.ex
  exact b a _ e (ne_of e g1 (by intro z; cases z))⟩
theorem sqt_fz {K : PySem.W.Frag} {H : Hp} {a : Addr} {o : Obj} {xs : List V} (h : H a = some (.frz o (.tup xs))) : SqT K H a xs := .inl (.inr ⟨o, h⟩)
theorem sqt_same {K : PySem.W.Frag} {H H' : Hp} {a : Addr} {xs : List V} (h : SqT K H a xs) (s : Same H H') : SqT K H' a xs := by
  rcases h with (h | ⟨o, h⟩) | h
  · exact .inl (.inl (s _ _ h))
  · exact .inl (.inr ⟨o, s _ _ h⟩)
  · exact .inr h
structure HouseF (H : Hp) (h : Addr) (P G : List Str) (es : List Ent) : Prop where
  ex : ∃ (hp hg he : Addr) (tps : List Addr) (o : Obj), H h = some (.tup [.ref hp, .ref hg, .ref he]) ∧ H hp = some (.tup (P.map V.str)) ∧ H hg = some (.tup (G.map V.str)) ∧ (H he = some (.frz o (.tup (tps.map V.ref))) ∧ o.dict = none) ∧ EntsAt H tps es
theorem HouseF.on {H H' : Hp} (k : TF H H') {h : Addr} {P G : List Str} {es : List Ent} (x : HouseF H h P G es) : HouseF H' h P G es := by
  obtain ⟨hp, hg, he, tps, o, g1, g2, g3, ⟨g4, g6⟩, g5⟩ := x.ex
  exact ⟨hp, hg, he, tps, o, k.1 _ _ g1, k.1 _ _ g2, k.1 _ _ g3, ⟨k.2 _ _ _ g4, g6⟩, g5.on k.1⟩
theorem HouseF.dp {K : PySem.W.Frag} {H : Hp} {h : Addr} {P G : List Str} {es : List Ent} (x : HouseF H h P G es) : Dp K H (.ref h) (houseD P G es) := by
  obtain ⟨hp, hg, he, tps, o, g1, g2, g3, ⟨g4, g6⟩, g5⟩ := x.ex
  exact .tup (SqT.of g1) (.cons (.tup (SqT.of g2) (dp_strs P)) (.cons (.tup (SqT.of g3) (dp_strs G)) (.cons (.tup (sqt_fz g4) (dp_ents g5)) .nil)))
/-- tuple(xs) of a list: it is known to the last -/
theorem call_tuple_fz {X : Cx} : CallR X (.type "tuple") (fun xs H Q => ∃ p ys, xs = [V.ref p] ∧ SqL X.K H p ys ∧ ∀ l (o : Obj), H l = none → o.dict = none → Q (.ref l) (upd H l (.frz o (.tup ys)))) := by
  rintro pins z τ G xs us W I r ⟨p, ys, rfl, hq, q⟩
  obtain ⟨u, rfl, rx⟩ := vals1 r
  obtain rfl : u = Value.ref p := rx
  obtain ⟨its, rv, pl, hz⟩ := I.list hq
  have hlen := rv.length
  refine call_tuple_list pl.isList (fun h' kp => ?_) (by simp only [List.size_toArray] <;> omega)
  have I1 : Inv X pins τ G { z with heap := h' } := I.kept (t' := z.toks) kp
  have new : (h'.push { cls := .type "tuple", data := .seq its.toArray }).get? h'.objs.size = some { cls := .type "tuple", data := .seq its.toArray } := Heap.get?_push_size _ rfl
  exact ⟨.ref h'.objs.size, _, I1.laid (o := .frz { cls := .type "tuple", data := .seq its.toArray } (.tup ys)) (t' := z.toks) (fun b o e => Heap.get?_push_of_some _ e) (Nat.le_refl _) ⟨new, hz, its, rv, IsTup.new _ _⟩, rfl, q _ _ (I1.hok.fresh (Nat.le_refl _)) rfl⟩
/-- a part of a tuple, made or the same -/
theorem sl_F {X : Cx} : SlR X (fun x lo hi H Q => ∃ (a : Addr) (xs : List V), x = V.ref a ∧ SqT X.K H a xs ∧ ∀ (b : Addr) (H' : Hp), Same H H' → SqT X.K H' b (cutV xs lo hi) → Q (.ref b) H') := by
  rintro pins z τ G x v vl vu lo hi sl W I rx hs pl pu ⟨a, xs, rfl, ha, q⟩
  refine sl_tupA pins z τ G _ v vl vu _ _ sl W I rx hs pl pu ⟨a, xs, rfl, ha, fun w => q a G (fun _ _ e => e) ?_, fun _ p np => q p _ (same_new np) (SqT.of upd_same)⟩
  have : cutV xs lo hi = xs := by
    unfold cutV
    rw [w.1, w.2, List.drop_zero, Nat.sub_zero, List.take_length]
  rw [this]
  exact ha
/-- the method of a tuple that is known to the last -/
theorem pe_bmF {X : Cx} {o e : Expr} {es : List Expr} {to : TE} {t : TA} {name : Str} {apos cpos : Pos} {id : String} {r : V → List V → Hp → VK → Prop} (slot : Slot "tuple" name id) (hty : typeOf (.builtin id) = pure (.type "method_descriptor")) (hm : MtR X id r) (ho : PE X o to) (ha : PA X (e :: es) t)
    (hbase : attributeBase o name X.env (eval o X.env) = eval o X.env := by rfl)
    (hfew : ((backTo cpos (starEach (e :: es) X.env)).all (fun y => !y.1) && (backToKw cpos (keywordEach [] X.env)).all (fun y => y.1.isSome) && decide ((e :: es).length + ([] : List Keyword).length + (if ([] : List Keyword).isEmpty then 0 else 1) < 30)) = true := by rfl)
    (hline : (apos.endLine == cpos.line) = true := by rfl) (hst : starEach (e :: es) X.env = (false, eval e X.env) :: starEach es X.env := by rfl) (hpl : (backTo cpos (starEach es X.env)).any (·.1) = false := by rfl) :
    PE X (.Call (.Attribute o name apos) (e :: es) [] cpos) (fun τ G W => to τ G fun x G1 => (∃ a ob xs, x = V.ref a ∧ G1 a = some (.frz ob (.tup xs)) ∧ ob.dict = none) ∧ t τ G1 fun ys G2 => r x ys G2 W) := by
  constructor
  intro pins z τ G W I h
  refine wpAny_Call_method_late hbase hfew hline rfl (thn (ho.run pins z τ G _ I h) fun v z1 hx => ?_)
  obtain ⟨x, G1, I1, r1, ⟨a, ob, xs, rfl, ea, nodict⟩, q1⟩ := hx
  obtain rfl : v = Value.ref a := r1
  obtain ⟨ga, _, its, _, o', g1, g2, n, g3⟩ := (show ObjOk X.prog X.w G1 z1.heap a (.frz ob (.tup xs)) from I1.hok a _ ea)
  rw [ga] at g1
  obtain rfl := Option.some.inj g1
  refine ⟨"tuple", id, PySem.F.plainAttrs_tuple, slot, hty, ⟨_, ga, g2⟩, fun b eb => ?_, ?_⟩
  · cases eb
    exact ⟨_, ga, nodict⟩
  · have run := ha.run cpos pins z1 τ G1 _ I1 q1
    rw [hst] at run ⊢
    refine Calls.callWith_builtin (by show (false || (backTo cpos (starEach es X.env)).any (·.1)) = false; rw [hpl]; rfl) (Calls.evalArgs_plain (thn run fun us z2 hy => ?_))
    obtain ⟨ys, G2, I2, r2, q2⟩ := hy
    exact hm pins z2 τ G2 (.ref a) ys (.ref a) us W I2 rfl r2 q2
/-! ### tracks -/
def swp (o t x : Str) : Str := if x = o then t else if x = t then o else x
theorem swp_swp (o t x : Str) : swp o t (swp o t x) = x := by
  unfold swp
  by_cases h1 : x = o
  · rw [if_pos h1]
    by_cases h2 : t = o
    · rw [if_pos h2, h2, h1]
    · rw [if_neg h2, if_pos rfl, h1]
  · rw [if_neg h1]
    by_cases h2 : x = t
    · rw [if_pos h2, if_pos rfl, h2]
    · rw [if_neg h2, if_neg h1, if_neg h2]
def swE : Ent → Str → Str
  | .swap _ _ o t => swp o t
  | _ => id
theorem swE_swE (e : Ent) (x : Str) : swE e (swE e x) = x := by
  cases e with
  | swap n m o t => exact swp_swp o t x
  | _ => rfl
def tau (es : List Ent) : Str → Str := es.foldl (fun τ e x => τ (swE e x)) id
def dlt (es : List Ent) : Str → Str := es.foldl (fun δ e x => swE e (δ x)) id
theorem tau_snoc (es : List Ent) (e : Ent) : tau (es ++ [e]) = fun x => tau es (swE e x) := by
  unfold tau
  rw [List.foldl_append]
  rfl
theorem dlt_snoc (es : List Ent) (e : Ent) : dlt (es ++ [e]) = fun x => swE e (dlt es x) := by
  unfold dlt
  rw [List.foldl_append]
  rfl
theorem take_snoc {α : Type} {l : List α} {i : Nat} {x : α} (h : l[i]? = some x) : l.take (i + 1) = l.take i ++ [x] := by
  rw [List.take_add_one, h]
  rfl
theorem td_n (es : List Ent) : ∀ n, n ≤ es.length → ∀ x, tau (es.take n) (dlt (es.take n) x) = x ∧ dlt (es.take n) (tau (es.take n) x) = x
  | 0, _, x => ⟨rfl, rfl⟩
  | n + 1, h, x => by
    have e : es[n]? = some es[n] := List.getElem?_eq_getElem (by omega)
    rw [take_snoc e, tau_snoc, dlt_snoc]
    have ih := td_n es n (by omega)
    refine ⟨?_, ?_⟩
    · show tau (es.take n) (swE _ (swE _ (dlt (es.take n) x))) = x
      rw [swE_swE]
      exact (ih x).1
    · show swE _ (dlt (es.take n) (tau (es.take n) (swE _ x))) = x
      rw [(ih _).2, swE_swE]
theorem swE_in {P : List Str} {e : Ent} {G HL : List Str} (h : e.From P G HL) {x : Str} (hx : x ∈ P) : swE e x ∈ P := by
  cases e with
  | swap n m o t =>
    show swp o t x ∈ P
    unfold swp
    split
    · exact h.2.1
    · split
      · exact h.1
      · exact hx
  | _ => exact hx
theorem in_n {P : List Str} {es : List Ent} (h : ∀ e ∈ es, ∀ x ∈ P, swE e x ∈ P) : ∀ n, n ≤ es.length → ∀ x ∈ P, tau (es.take n) x ∈ P ∧ dlt (es.take n) x ∈ P
  | 0, _, x, hx => ⟨hx, hx⟩
  | n + 1, hn, x, hx => by
    have e : es[n]? = some es[n] := List.getElem?_eq_getElem (by omega)
    have ih := in_n h n (by omega)
    rw [take_snoc e, tau_snoc, dlt_snoc]
    have me : es[n] ∈ es := List.getElem_mem _
    exact ⟨(ih _ (h _ me x hx)).1, h _ me _ (ih x hx).2⟩
/-! dicts from places to texts -/
def kvT (P : List Str) (τ : Str → Str) : List (Key × V) := P.map fun p => ((Sum.inr p : Key), V.str (τ p))
theorem valV_kvT {P : List Str} {τ : Str → Str} {x : Str} (h : x ∈ P) : valV (kvT P τ) (Sum.inr x) = some (.str (τ x)) := by
  induction P with
  | nil => cases h
  | cons p r ih =>
    unfold valV kvT
    rw [List.map_cons, List.find?_cons]
    by_cases e : p = x
    · rw [decide_eq_true (congrArg Sum.inr e), e]
      rfl
    · rw [decide_eq_false fun z => e (Sum.inr.inj z)]
      rcases List.mem_cons.mp h with z | z
      · exact absurd z.symm e
      · exact ih z
theorem any_kvT {P : List Str} {τ : Str → Str} {x : Str} : ((kvT P τ).any fun kv => decide (kv.1 = (Sum.inr x : Key))) = decide (x ∈ P) := by
  unfold kvT
  rw [List.any_map]
  by_cases h : x ∈ P
  · rw [decide_eq_true h]
    exact List.any_eq_true.mpr ⟨x, h, decide_eq_true rfl⟩
  · rw [decide_eq_false h]
    rw [List.any_eq_false]
    intro p hp z
    exact h (Sum.inr.inj (of_decide_eq_true z) ▸ hp)
theorem put_in {P : List Str} {τ : Str → Str} {x y : Str} (h : x ∈ P) : putK (kvT P τ) (Sum.inr x) (.str y) = kvT P fun z => if z = x then y else τ z := by
  unfold putK
  rw [any_kvT, decide_eq_true h, if_pos rfl]
  unfold kvT
  rw [List.map_map]
  refine List.map_congr_left fun p _ => ?_
  show (if (Sum.inr p : Key) = Sum.inr x then ((Sum.inr p : Key), V.str y) else (Sum.inr p, V.str (τ p))) = (Sum.inr p, V.str (if p = x then y else τ p))
  by_cases e : p = x
  · rw [if_pos (congrArg Sum.inr e), if_pos e]
  · rw [if_neg fun z => e (Sum.inr.inj z), if_neg e]
theorem put_new {P : List Str} {τ : Str → Str} {x : Str} (h : x ∉ P) : putK (kvT P τ) (Sum.inr x) (.str (τ x)) = kvT (P ++ [x]) τ := by
  unfold putK
  rw [any_kvT, decide_eq_false h, if_neg (by decide)]
  unfold kvT
  rw [List.map_append]
  rfl
theorem merge_kvT {τ : Str → Str} : ∀ {R P : List Str}, (P ++ R).Nodup → mergeK (kvT P τ) (kvT R τ) = kvT (P ++ R) τ
  | [], P, _ => by
    rw [List.append_nil]
    rfl
  | x :: R, P, h => by
    show mergeK (putK (kvT P τ) (Sum.inr x) (.str (τ x))) (kvT R τ) = _
    have nx : x ∉ P := fun z => (List.nodup_append.mp h).2.2 x z x List.mem_cons_self rfl
    rw [put_new nx, merge_kvT (by rw [List.append_assoc]; exact h), List.append_assoc]
    rfl
theorem merge0 {P : List Str} {τ : Str → Str} (h : P.Nodup) : mergeK [] (kvT P τ) = kvT P τ := merge_kvT (P := []) h
theorem merge2 {P : List Str} {τ : Str → Str} {o t : Str} (ho : o ∈ P) (ht : t ∈ P) (ne : o ≠ t) (h : P.Nodup) :
    mergeK (mergeK [] (kvT P τ)) (mergeK [] [((Sum.inr o : Key), V.str (τ t)), (Sum.inr t, .str (τ o))]) = kvT P fun x => τ (swp o t x) := by
  have e : mergeK [] [((Sum.inr o : Key), V.str (τ t)), (Sum.inr t, .str (τ o))] = [((Sum.inr o : Key), V.str (τ t)), (Sum.inr t, .str (τ o))] := by
    show putK [((Sum.inr o : Key), V.str (τ t))] (Sum.inr t) (.str (τ o)) = _
    unfold putK
    rw [List.any_cons, List.any_nil, decide_eq_false fun z => ne (Sum.inr.inj z)]
    rfl
  rw [e, merge0 h]
  show putK (putK (kvT P τ) (Sum.inr o) (.str (τ t))) (Sum.inr t) (.str (τ o)) = _
  rw [put_in ho, put_in ht]
  unfold kvT
  refine List.map_congr_left fun p _ => ?_
  show (_, V.str (if p = t then τ o else if p = o then τ t else τ p)) = (_, V.str (τ (swp o t p)))
  unfold swp
  by_cases h1 : p = o
  · rw [if_neg (fun z => ne (h1.symm.trans z)), if_pos h1, if_pos h1]
  · by_cases h2 : p = t
    · rw [if_pos h2, if_neg h1, if_pos h2]
    · rw [if_neg h2, if_neg h1, if_neg h1, if_neg h2]
theorem len_kvT (P : List Str) (τ : Str → Str) : (kvT P τ).length = P.length := List.length_map ..
theorem dc_keys {d : Addr} {od : Obj} {kvs : List (Key × V)} {g : TG} {tt : TT} {tk tv : TE} {vs : List Nat} {σ : L2.St} {H1 : Hp} {D : Addr} {Qd : Hp → Prop} (Pv : Nat → Hp → Prop) (h0 : Pv 0 (upd H1 D (.dK []))) (hl : ∀ i H, Pv i H → H d = some (.frz od (.dK kvs)))
    (hs : ∀ i k v H, kvs[i]? = some (k, v) → Pv i H → g (kV k) (wipe σ vs) H fun σ2 H2 => wipe σ2 vs = wipe σ vs ∧ tt σ2 H2 fun b H3 =>
      if b = true then tk σ2 H3 fun y H4 => tv σ2 H4 fun z H5 => ∃ kvs k, y = kV k ∧ H5 D = some (.dK kvs) ∧ kvs.length < sizeLine ∧ Pv (i + 1) (upd H5 D (.dK (putK kvs k z))) else Pv (i + 1) H3) (hd : ∀ H, Pv kvs.length H → Qd H) :
    ∃ W : Nat → Nat → Hp → Prop, (∃ m, W 0 m (upd H1 D (.dK []))) ∧ ∀ i m H, W i m H →
      ((Itk d od kvs).stop i H ∧ Qd H) ∨ ((Itk d od kvs).go i H ∧ ∃ Nx : Hp → Prop, (∀ H', Nx H' → ∃ m', m' < m ∧ W (i + 1) m' H') ∧ ∀ x H', (Itk d od kvs).yld i H x H' → g x (wipe σ vs) H' fun σ2 H2 => wipe σ2 vs = wipe σ vs ∧ tt σ2 H2 fun b H3 =>
        if b = true then tk σ2 H3 fun y H4 => tv σ2 H4 fun z H5 => ∃ kvs k, y = kV k ∧ H5 D = some (.dK kvs) ∧ kvs.length < sizeLine ∧ Nx (upd H5 D (.dK (putK kvs k z))) else Nx H3) := by
  refine ⟨fun i m H => m = kvs.length - i ∧ i ≤ kvs.length ∧ Pv i H, ⟨kvs.length, rfl, Nat.zero_le _, h0⟩, ?_⟩
  rintro i m H ⟨rfl, hi, p⟩
  have q := hl i H p
  by_cases lt : i < kvs.length
  · refine .inr ⟨⟨q, lt⟩, Pv (i + 1), fun H' p' => ⟨kvs.length - (i + 1), by omega, rfl, lt, p'⟩, ?_⟩
    rintro x H' ⟨rfl, k, v, e, rfl⟩
    exact hs i k v _ e p
  · obtain rfl : i = kvs.length := by omega
    exact .inl ⟨⟨q, Nat.le_refl _⟩, hd H p⟩
/-- which swaps are of the house -/
abbrev SwOk (P : List Str) (e : Ent) : Prop := ∀ n m o t, e = .swap n m o t → o ∈ P ∧ t ∈ P ∧ o ≠ t
theorem Good.sw {P G : List Str} {es : List Ent} {m : Nat} (g : Good P G es m) {e : Ent} (he : e ∈ es) : SwOk P e := fun n mo o t z => by
  subst z
  obtain ⟨_, _, _, HL, _, f⟩ := g.ents _ he
  exact ⟨f.1, f.2.1, f.2.2 g.nd⟩
theorem Good.inn {P G : List Str} {es : List Ent} {m : Nat} (g : Good P G es m) : ∀ e ∈ es, ∀ x ∈ P, swE e x ∈ P := fun e he x hx => by
  obtain ⟨_, _, _, HL, _, f⟩ := g.ents e he
  exact swE_in f hx
theorem sw_ent {e : Ent} (h : e.word = "swap") : ∃ n m o t, e = .swap n m o t := by
  cases e with
  | come n m g p k r => exact absurd h (show ("come" : Str) ≠ "swap" by decide +kernel)
  | go n m g p k => exact absurd h (show ("go" : Str) ≠ "swap" by decide +kernel)
  | move n m g o t k => exact absurd h (show ("move" : Str) ≠ "swap" by decide +kernel)
  | some_ n m g o t => exact absurd h (show ("some" : Str) ≠ "swap" by decide +kernel)
  | swap n m o t => exact ⟨n, m, o, t, rfl⟩
  | count n m g p k hd => exact absurd h (show ("count" : Str) ≠ "swap" by decide +kernel)
  | look n m g p => exact absurd h (show ("look" : Str) ≠ "swap" by decide +kernel)
def spFirst : Sp := fun vs H Q _ => ∃ (h : Addr) (P G : List Str) (es : List Ent) (m : Nat), vs = [.ref h] ∧ HouseAt H h P G es ∧ Good P G es m ∧ ∀ (d : Addr) (H' : Hp), Same H H' → H' d = some (.dK (kvT P id)) → Q (.ref d) H'
def spExch : Sp := fun vs H Q _ => ∃ (d a : Addr) (P : List Str) (τ : Str → Str) (e : Ent), vs = [.ref d, .ref a] ∧ H d = some (.dK (kvT P τ)) ∧ H a = some (.tup e.vals) ∧ SwOk P e ∧ P.Nodup ∧ P.length ≤ 6 ∧
  ∀ (d' : Addr) (H' : Hp), Same H H' → H' d' = some (.dK (kvT P fun x => τ (swE e x))) → Q (.ref d') H'
def spBehind : Sp := fun vs H Q _ => ∃ (h : Addr) (P G : List Str) (es : List Ent) (m k : Nat), vs = [.ref h, .int k] ∧ HouseAt H h P G es ∧ Good P G es m ∧ k ≤ m ∧ m ≤ 30 ∧ ∀ (d : Addr) (H' : Hp), Same H H' → H' d = some (.dK (kvT P (tau (es.take k)))) → Q (.ref d) H'
def spTrackAt : Sp := fun vs H Q _ => ∃ (h : Addr) (P G : List Str) (es : List Ent) (m k : Nat) (x : Str), vs = [.ref h, .str x, .int k] ∧ HouseAt H h P G es ∧ Good P G es m ∧ k ≤ m ∧ m ≤ 30 ∧ x ∈ P ∧ ∀ H', Same H H' → Q (.str (tau (es.take k) x)) H'
def spPlaceOf : Sp := fun vs H Q _ => ∃ (h : Addr) (P G : List Str) (es : List Ent) (m k : Nat) (x : Str), vs = [.ref h, .str x, .int k] ∧ HouseAt H h P G es ∧ Good P G es m ∧ k ≤ m ∧ m ≤ 30 ∧ x ∈ P ∧ ∀ H', Same H H' → Q (.str (dlt (es.take k) x)) H'
/-- t[:k]: some tuple of the first so many -/
def rSlTo : V → Option Int → Option Int → Hp → VK → Prop := fun x lo hi H Q => ∃ (a : Addr) (xs : List V) (k : Nat), x = .ref a ∧ H a = some (.tup xs) ∧ lo = none ∧ hi = some (k : Int) ∧ ∀ (b : Addr) (H' : Hp), Same H H' → H' b = some (.tup (xs.take k)) → Q (.ref b) H'
theorem sl_to {X : Cx} : SlR X rSlTo := by
  rintro pins s σ H x v vl vu lo hi sl Q I rx hs pl pu ⟨a, xs, k, rfl, ha, rfl, rfl, q⟩
  refine sl_tupA pins s σ H _ v vl vu _ _ sl Q I rx hs pl pu ⟨a, xs, rfl, SqT.of ha, fun z => q a H (fun _ _ e => e) ?_, fun _ p np => q p _ (same_new np) ?_⟩
  · have := z.2
    rw [HT.sIx_nat] at this
    rw [ha, List.take_of_length_le (by omega)]
  · rw [upd_same, cut_take]
/-! ### entries along their tracks -/
def Ent.mp (τ : Str → Str) : Ent → Ent
  | .come n m g p k r => .come n m g (τ p) k r
  | .go n m g p k => .go n m g (τ p) k
  | .move n m g o t k => .move n m g (τ o) (τ t) k
  | .some_ n m g o t => .some_ n m g (τ o) (if t = "" then "" else τ t)
  | .swap n m o t => .swap n m (τ o) (τ t)
  | .count n m g p k h => .count n m g (τ p) k h
  | .look n m g p => .look n m g (τ p)
/-- the i-th entry along the tracks -/
def alg (es : List Ent) (i : Nat) : Ent := (es.getD i (.look "" 0 "" "")).mp (tau (es.take i))
def along (es : List Ent) : List Ent := (List.range es.length).map (alg es)
theorem along_len (es : List Ent) : (along es).length = es.length := by simp [along]
theorem along_at {es : List Ent} {i : Nat} {e : Ent} (h : es[i]? = some e) : (along es)[i]? = some (e.mp (tau (es.take i))) := by
  have lt : i < es.length := (List.getElem?_eq_some_iff.mp h).1
  unfold along
  rw [List.getElem?_map, List.getElem?_range lt]
  show some (alg es i) = _
  unfold alg
  rw [List.getD_eq_getElem?_getD, h]
  rfl
def spWithPl : Sp := fun vs H Q _ => ∃ (a b : Addr) (e : Ent) (τ : Str → Str), vs = [.ref a, .ref b] ∧ H a = some (.tup e.vals) ∧ H b = some (.tup ((e.places.map τ).map V.str)) ∧
  (∀ y ∈ e.places, τ y ≠ "") ∧ ∀ (t : Addr) (H' : Hp), Same H H' → H' t = some (.tup (e.mp τ).vals) → Q (.ref t) H'
theorem cut_head {xs : List V} {k : Nat} : cutV xs none (some (k : Int)) = xs.take k := by
  unfold cutV
  rw [HT.sIx_nat]
  show (xs.drop 0).take (min k xs.length - 0) = _
  rw [List.drop_zero, Nat.sub_zero, ← List.take_eq_take_min]
theorem cut_tail {xs : List V} {k : Nat} : cutV xs (some (k : Int)) none = xs.drop k := by
  unfold cutV
  rw [HT.sIx_nat, HT.sIx_none]
  by_cases h : k ≤ xs.length
  · rw [Nat.min_eq_left h, List.take_of_length_le (by rw [List.length_drop]; exact Nat.le_refl _)]
  · rw [Nat.min_eq_right (by omega), List.drop_of_length_le (by omega), List.drop_of_length_le (by omega), List.take_nil]
/-- a part of a tuple, made or the same -/
def rSlS : V → Option Int → Option Int → Hp → VK → Prop := fun x lo hi H Q => ∃ (a : Addr) (xs : List V), x = .ref a ∧ H a = some (.tup xs) ∧ ∀ (b : Addr) (H' : Hp), Same H H' → H' b = some (.tup (cutV xs lo hi)) → Q (.ref b) H'
theorem sl_S {X : Cx} : SlR X rSlS := by
  rintro pins s σ H x v vl vu lo hi sl Q I rx hs pl pu ⟨a, xs, rfl, ha, q⟩
  refine sl_tupA pins s σ H _ v vl vu _ _ sl Q I rx hs pl pu ⟨a, xs, rfl, SqT.of ha, fun z => q a H (fun _ _ e => e) ?_, fun _ p np => q p _ (same_new np) upd_same⟩
  rw [ha]
  unfold cutV
  rw [z.1, z.2, List.drop_zero, Nat.sub_zero, List.take_length]
/-- tuples one behind the other -/
theorem op_catS {X : Cx} : OpR X (binaryOp .Add) (fun x y H Q => ∃ (a b : Addr) (xs ys : List V), x = .ref a ∧ y = .ref b ∧ H a = some (.tup xs) ∧ H b = some (.tup ys) ∧ xs ≠ [] ∧ xs.length + ys.length ≤ sizeLine ∧
    ∀ (t : Addr) (H' : Hp), Same H H' → H' t = some (.tup (xs ++ ys)) → Q (.ref t) H') := by
  rintro pins s σ H x y v u Q I rx ry ⟨a, b, xs, ys, rfl, rfl, ha, hb, ne, hz, q⟩
  refine op_catT pins s σ H _ _ v u Q I rx ry ⟨a, b, xs, ys, rfl, rfl, SqT.of ha, SqT.of hb, ne, hz, fun z => q a H (fun _ _ e => e) ?_, fun _ p np => q p _ (same_new np) upd_same⟩
  rw [ha, z, List.append_nil]
theorem vals_len_e (e : Ent) : 5 ≤ e.vals.length ∧ e.vals.length ≤ 7 := by cases e <;> simp [Ent.vals, Ent.rest]
theorem places_le (e : Ent) : e.places.length ≤ 2 ∧ 1 ≤ e.places.length := by
  cases e with
  | some_ n m g o t =>
    by_cases z : t = ""
    · rw [show Ent.places (.some_ n m g o t) = [o] from if_pos z]
      exact ⟨by simp, by simp⟩
    · rw [show Ent.places (.some_ n m g o t) = [o, t] from if_neg z]
      exact ⟨by simp, by simp⟩
  | _ => exact ⟨by simp [Ent.places], by simp [Ent.places]⟩
theorem mp_vals3 {τ : Str → Str} {n : Str} {m : Int} {o t : Str} : (Ent.swap n m o t).vals.take 3 ++ ((Ent.swap n m o t).places.map τ).map V.str ++ (Ent.swap n m o t).vals.drop (3 + (((Ent.swap n m o t).places.map τ).map V.str).length) = ((Ent.swap n m o t).mp τ).vals := rfl
theorem mp_vals4 {τ : Str → Str} {e : Ent} (h : e.word ≠ "swap") : e.vals.take 4 ++ (e.places.map τ).map V.str ++ e.vals.drop (4 + ((e.places.map τ).map V.str).length) = (e.mp τ).vals := by
  cases e with
  | swap n m o t => exact absurd rfl h
  | some_ n m g o t =>
    by_cases z : t = ""
    · subst z
      simp [Ent.places, Ent.mp, Ent.vals, Ent.rest]
      exact ⟨rfl, rfl, rfl⟩
    · rw [show Ent.places (.some_ n m g o t) = [o, t] from if_neg z, show Ent.mp τ (.some_ n m g o t) = .some_ n m g (τ o) (τ t) from congrArg (Ent.some_ n m g (τ o)) (if_neg z)]
      rfl
  | _ => rfl
/-! ### the house with its counts told -/
/-- the same entry, but for what a count tells -/
def recount (e e' : Ent) : Prop := e' = e ∨ ∃ n m g pl k k' h, e = .count n m g pl k h ∧ e' = .count n m g pl k' h ∧ 0 ≤ k' ∧ k' ≤ 1000000000
theorem recount.from {e e' : Ent} (r : recount e e') {P G HL : List Str} (h : e.From P G HL) : e'.From P G HL := by
  rcases r with rfl | ⟨n, m, g, pl, k, k', hd, rfl, rfl, h0, h1⟩
  · exact h
  · exact ⟨h.1, h.2.1, h0, h1, h.2.2.2.2⟩
theorem recount.name {e e' : Ent} (r : recount e e') : e'.name = e.name := by
  rcases r with rfl | ⟨n, m, g, pl, k, k', hd, rfl, rfl, _⟩ <;> rfl
theorem recount.moment {e e' : Ent} (r : recount e e') : e'.moment = e.moment := by
  rcases r with rfl | ⟨n, m, g, pl, k, k', hd, rfl, rfl, _⟩ <;> rfl
theorem count_ent {e : Ent} (h : e.word = "count") : ∃ n m g p k hd, e = .count n m g p k hd := by
  cases e <;> first | exact ⟨_, _, _, _, _, _, rfl⟩ | (refine absurd h ?_; simp only [Ent.word]; decide +kernel)
def spLCnt : Sp := fun vs H Q _ => ∃ (p c : Addr) (n : Nat) (h : Addr) (P G : List Str) (es : List Ent) (k : Int), vs = [.ref p, .ref h, .int k] ∧ PenAt H p c n ∧ n ≤ 60000 ∧ HouseAt H h P G es ∧ P.length ≤ 6 ∧ G.length ≤ 3 ∧ es.length ≤ 30 ∧ 1 ≤ k ∧ k ≤ 40 ∧
  (∀ e ∈ es, ∃ HL, e.From P G HL) ∧ ∀ (h' : Addr) (es' : List Ent) (H' : Hp), Paired recount es es' → HouseF H' h' P G es' → PenAt H' p c (n + 300) → But p H H' → Q (.ref h') H'
theorem put_leT {kvs : List (List Key × V)} {k : List Key} {v : V} : (putK kvs k v).length ≤ kvs.length + 1 := by
  unfold putK
  split
  · rw [List.length_map]
    exact Nat.le_succ _
  · rw [List.length_append]
    exact Nat.le_refl _
theorem val_put {kvs : List (List Key × V)} {k j : List Key} {v : Int} (h : ∃ i : Int, valV kvs j = some (.int i)) : ∃ i : Int, valV (putK kvs k (.int v)) j = some (.int i) := by
  rw [valV_put]
  by_cases z : j = k
  · rw [if_pos z]
    exact ⟨v, rfl⟩
  · rw [if_neg z]
    exact h
section
variable {P : Program} {w : World} {K : PySem.W.Frag} {mg : Str → Option Value} {base : Heap}
abbrev lcN : List Str := ["_law_pen_here", "_law_house_here", "_law_spoilt", "_law_stock", "_law_place", "_law_good", "_law_found", "_law_entry_here", "_law_many_here"]
theorem scLC : FnScope lcN ["_law_pen_here", "_law_house_here", "_law_spoilt"] (defScope sLCounted) := ⟨rfl, rfl, rfl, by decide +kernel, rfl, by decide +kernel, by decide +kernel⟩
set_option maxHeartbeats 8000000 in
theorem ok_lcnt {f fT fD fO : Addr} {fd fdT fdD fdO : FuncData} (F : Fun K "_law_counted" "_law_counted" sLCounted f fd) (T : TakeT P w K mg base fT fdT)
    (DN : DefT P w K mg base "_law_done" 2 fD fdD ["_law_pen_here", "_law_stock", "_law_entry_here", "_law_goods"] spDone) (TO : DefT P w K mg base "_law_told" 3 fO fdO ["_law_pen_here", "_law_many_here", "_law_spoilt"] spTold) (mt : mg "tuple" = none) :
    FnOk P w K mg base CX0 4 f fd ["_law_pen_here", "_law_house_here", "_law_spoilt"] spLCnt := by
  refine F.ok scLC (fun vs H Q E h => ?_) (fun cdv A outer s H vs Q E hr h => ?_)
  · obtain ⟨p, c, n, h, Ps, G, es, k, rfl, _⟩ := h
    rfl
  · obtain ⟨p, c, n, h, Ps, G, es, k, rfl, pen, hn, ho, lP, lG, lE, k1, k40, frm, q⟩ := h
    have nd := scLC.nd
    have hu := hu_of hr
    have hr1 : Room 1 _ := hr.mono (by decide)
    have hr2 : Room 2 _ := hr.mono (by decide)
    refine ⟨_, pss_cons (ps_set (i := 3) nd rfl (Or.inl rfl) pe_dnewT)
      (pss_cons (ps_for PassesOwn.never rfl (pi_tup (pe_ix ix_tup (pv 1) pe_int (fun _ _ => rfl))) (pg_name (i := 4) nd rfl (Or.inl rfl))
        (pss_one (ps_for PassesOwn.never rfl (pi_tup (pe_ix ix_tup (pv 1) pe_int (fun _ _ => rfl))) (pg_name (i := 5) nd rfl (Or.inl rfl))
          (pss_one (ps_dput hu (pv 3) (pe_tup (pa_cons (pv 4) (pa_cons (pv 5) pa_nil))) (pe_op op_add pe_int (pe_call T.ok hr1 (by rfl) T.g T.kp T.b .nil pass0 (pa_cons (pv 0) (pa_cons pe_int pa_nil)))) rfl)))))
      (pss_cons (ps_set (i := 6) nd rfl (Or.inl rfl) (pe_lst pa_nil))
      (pss_cons (ps_for PassesOwn.never rfl (pi_tup (pe_ix ix_tup (pv 1) pe_int (fun _ _ => rfl))) (pg_name (i := 7) nd rfl (Or.inl rfl))
        (C8.pss_cut (ps_if (pt_cmpR op_eq (pe_ix ix_tup (pv 7) pe_int (fun _ _ => rfl)) pe_str (nomark _))
          (pss_cons (ps_set (i := 8) nd rfl (Or.inl rfl) (pe_call TO.ok hr (by rfl) TO.g TO.kp TO.b .nil pass0 (pa_cons (pv 0) (pa_cons (pe_dget hu (pv 3) (pe_tup (pa_cons (pe_ix ix_tup (pv 7) pe_int (fun _ _ => rfl)) (pa_cons (pe_ix ix_tup (pv 7) pe_int (fun _ _ => rfl)) pa_nil))) (fun _ _ => rfl)) (pa_cons (pv 2) pa_nil)))))
          (pss_one (ps_set (i := 7) nd rfl (Or.inl rfl) (pe_op op_catS (pe_op op_catS (pe_slice sl_S (pv 7) po_none (po_some pe_int)) (pe_tup (pa_cons (pv 8) pa_nil))) (pe_slice sl_S (pv 7) (po_some pe_int) po_none)))))
          (pss_one (ps_expr (pe_call DN.ok hr2 (by rfl) DN.g DN.kp DN.b .nil pass0 (pa_cons (pv 0) (pa_cons (pv 3) (pa_cons (pv 7) (pa_cons (pe_ix ix_tup (pv 1) pe_int (fun _ _ => rfl)) pa_nil))))))))
        (pss_one (ps_expr (pe_bm PySem.F.plainAttrs_list PySem.F.slot_list_append PySem.F.type_list_append mt_append (pv 6) (pa_cons (pv 7) pa_nil))))))
      (pss_one (ps_ret (pe_tup (pa_cons (pe_ix ix_tup (pv 1) pe_int (fun _ _ => rfl)) (pa_cons (pe_ix ix_tup (pv 1) pe_int (fun _ _ => rfl)) (pa_cons (pe_callTy call_tuple_fz (by rfl) mt (by decide +kernel) (pa_cons (pv 6) pa_nil)) pa_nil))))))))), ?_⟩
    refine fun d nd0 => ?_
    have s1 := @same_new _ _ (.dT []) nd0
    have hd1 : (upd H d (.dT [])) d = some (.dT []) := upd_same
    generalize upd H d (.dT []) = H1 at s1 hd1
    have pen1 := pen.same s1
    obtain ⟨hp, hg, he, tps, g1, g2, g3, g4, g5⟩ := (ho.on (TK.of s1)).ex
    have ndp : d ≠ p := by
      obtain ⟨kw, ns, a, l, g1, _⟩ := pen1.ex
      exact ne_of hd1 g1 (by intro z; cases z)
    have ndc : d ≠ c := by
      obtain ⟨kw, ns, a, l, _, _, _, _, _, g6, _⟩ := pen1.ex
      exact ne_of hd1 g6 (by intro z; cases z)
    have tk : ∀ {H' : Hp}, Bt2 p d H1 H' → TK H1 H' := fun b a xs e => by
      refine b _ _ e ?_ (ne_of e hd1 (by intro z; cases z))
      obtain ⟨kw, ns, a', l, g1, _⟩ := pen1.ex
      exact ne_of e g1 (by intro z; cases z)
    have sm : ∀ {H1 H2 : Hp}, Same H1 H2 → Bt2 p d H1 H2 := fun h b o e _ _ => h b o e
    refine ⟨_, rfl, h, _, 0, _, rfl, rfl, SqT.of g1, atI_nat (j := 0) rfl, hp, rfl, ⟨_, SqT.of g2⟩, ?_⟩
    refine for_tup (K := K) (a := hp) (xs := Ps.map V.str) (fun i σ H' => ∃ y4 y5, σ = [some (.ref p), some (.ref h), some (.int k), some (.ref d), y4, y5, none, none, none] ∧ PenAt H' p c (n + 3 * i) ∧ Bt2 p d H1 H' ∧ ∃ kvs, H' d = some (.dT kvs) ∧ kvs.length ≤ 3 * i ∧ ∀ x ∈ Ps.take i, ∀ g ∈ G, ∃ v : Int, valV kvs (stk x g) = some (.int v))
      ⟨_, _, rfl, pen1, fun b o e _ _ => e, [], hd1, Nat.le_refl _, fun x hx => absurd hx (by simp)⟩ (fun i σ H' _ z => by obtain ⟨_, _, _, _, z, _⟩ := z; exact SqT.of (tk z _ _ g2)) ?_ ?_
    · rintro i x σ H2 hx ⟨y4, y5, rfl, pen2, bt2, kvs, hd2, lk2, va2⟩
      rw [List.getElem?_map] at hx
      obtain ⟨x, hxi, rfl⟩ := Option.map_eq_some_iff.mp hx
      have lti : i < Ps.length := (List.getElem?_eq_some_iff.mp hxi).1
      refine ⟨_, rfl, h, _, 1, _, rfl, rfl, SqT.of (tk bt2 _ _ g1), atI_nat (j := 1) rfl, hg, rfl, ⟨_, SqT.of (tk bt2 _ _ g3)⟩, ?_⟩
      refine for_tup (K := K) (a := hg) (xs := G.map V.str) (fun j σ H' => ∃ y5, σ = [some (.ref p), some (.ref h), some (.int k), some (.ref d), some (.str x), y5, none, none, none] ∧ PenAt H' p c (n + 3 * i + j) ∧ Bt2 p d H1 H' ∧ ∃ kvs, H' d = some (.dT kvs) ∧ kvs.length ≤ 3 * i + j ∧ (∀ x ∈ Ps.take i, ∀ g ∈ G, ∃ v : Int, valV kvs (stk x g) = some (.int v)) ∧ ∀ g ∈ G.take j, ∃ v : Int, valV kvs (stk x g) = some (.int v))
        ⟨_, rfl, pen2, bt2, kvs, hd2, lk2, va2, fun x hx => absurd hx (by simp)⟩ (fun i σ H' _ z => by obtain ⟨_, _, _, z, _⟩ := z; exact SqT.of (tk z _ _ g3)) ?_ ?_
      · rintro j y σ H3 hy ⟨y5, rfl, pen3, bt3, kvs3, hd3, lk3, va3, vb3⟩
        rw [List.getElem?_map] at hy
        obtain ⟨g, hgj, rfl⟩ := Option.map_eq_some_iff.mp hy
        have ltj : j < G.length := (List.getElem?_eq_some_iff.mp hgj).1
        refine ⟨_, rfl, p, c, _, 9, rfl, pen3, by omega, by decide, by decide, fun r H4 _ _ pen4 bt4 => ⟨30, r, rfl, rfl, _, rfl, _, rfl, _, rfl, (by show 2 ≤ sizeLine; decide), fun k1 nk1 => ?_⟩⟩
        have s5 := @same_new _ _ (.tup [V.str x, .str g]) nk1
        have hd5 := s5 _ _ (bt4 _ _ hd3 ndp)
        refine ⟨d, _, rfl, DPut.t (k := stk x g) hd5 upd_same (small1000 (by omega)), ?_⟩
        refine ⟨_, rfl, (pen4.same s5).upd ndp ndc, ((bt3.tr (.of bt4)).tr (sm s5)).put, _, upd_same, Nat.le_trans put_leT (by omega), fun x' hx' g' hg' => val_put (va3 x' hx' g' hg'), fun g' hg' => ?_⟩
        rw [take_snoc hgj] at hg'
        rcases List.mem_append.mp hg' with z | z
        · exact val_put (vb3 g' z)
        · rw [List.mem_singleton.mp z, valV_put, if_pos rfl]
          exact ⟨_, rfl⟩
      · rintro σ H3 ⟨y5, rfl, pen3, bt3, kvs3, hd3, lk3, va3, vb3⟩
        rw [List.length_map] at pen3 lk3 vb3
        rw [List.take_length] at vb3
        refine ⟨_, _, rfl, pen3.mono (by omega), bt3, kvs3, hd3, by omega, fun x' hx' g' hg' => ?_⟩
        rw [take_snoc hxi] at hx'
        rcases List.mem_append.mp hx' with z | z
        · exact va3 x' z g' hg'
        · rw [List.mem_singleton.mp z]
          exact vb3 g' hg'
    rintro σ H2 ⟨y4, y5, rfl, pen2, bt2, kvs, hd2, lk2, va2⟩
    rw [List.length_map] at pen2 lk2 va2
    rw [List.take_length] at va2
    have st2 : StockAt H2 d Ps G := ⟨kvs, hd2, by omega, va2⟩
    replace pen2 := pen2.mono (m := n + 18) (by omega)
    clear hd2 lk2 va2
    refine ⟨Nat.zero_le _, fun L nL => ?_⟩
    have nLp : L ≠ p := fun z => pen2.there (z ▸ nL)
    have nLc : L ≠ c := fun z => pen2.cells (z ▸ nL)
    have nLd : L ≠ d := fun z => by
      obtain ⟨kvs, h1, _⟩ := st2
      rw [z, h1] at nL
      cases nL
    have nL1 : H1 L = none := by
      cases e : H1 L with
      | none => rfl
      | some o => rw [bt2 L o e nLp nLd] at nL; cases nL
    have s3 := @same_new _ _ (.lst []) nL
    have hL3 : (upd H2 L (.lst [])) L = some (.lst []) := upd_same
    generalize upd H2 L (.lst []) = H3 at s3 hL3
    have bt3 := bt2.tr (sm s3)
    refine ⟨_, rfl, h, _, 2, _, rfl, rfl, SqT.of (tk bt3 _ _ g1), atI_nat (j := 2) rfl, he, rfl, ⟨_, SqT.of (tk bt3 _ _ g4)⟩, ?_⟩
    refine for_tup (K := K) (a := he) (xs := tps.map V.ref) (fun i σ H' => ∃ (y7 y8 : Option V) (as : List Addr) (es' : List Ent), σ = [some (.ref p), some (.ref h), some (.int k), some (.ref d), y4, y5, some (.ref L), y7, y8] ∧ PenAt H' p c (n + 18 + 6 * i) ∧ Bt2 p d H1 H' ∧ StockAt H' d Ps G ∧ H' L = some (.lst (as.map V.ref)) ∧ EntsAt H' as es' ∧ Paired recount (es.take i) es')
      ⟨_, _, [], [], rfl, pen2.same s3, bt3, st2.same s3, hL3, .nil, .nil⟩ (fun i σ H' _ z => by obtain ⟨_, _, _, _, _, _, z, _⟩ := z; exact SqT.of (tk z _ _ g4)) ?_ ?_
    · rintro i x σ H4 hx ⟨y7, y8, as, es', rfl, pen4, bt4, st4, hL4, en4, rc⟩
      rw [List.getElem?_map] at hx
      obtain ⟨tp, htp, rfl⟩ := Option.map_eq_some_iff.mp hx
      obtain ⟨e, hes, hte0⟩ := g5.get htp
      have lti : i < es.length := (List.getElem?_eq_some_iff.mp hes).1
      have hte := tk bt4 _ _ hte0
      have me := List.mem_of_getElem? hes
      obtain ⟨HL, fr⟩ := frm e me
      have las : as.length = i := by
        have h1 := en4.len
        have h2 := Paired.length rc
        rw [List.length_take] at h2
        omega
      refine ⟨fun σ' H' => ∃ (t : Addr) (e' : Ent) (y8 : Option V), σ' = [some (.ref p), some (.ref h), some (.int k), some (.ref d), y4, y5, some (.ref L), some (.ref t), y8] ∧ recount e e' ∧ PenAt H' p c (n + 18 + 6 * (i + 1)) ∧ Bt2 p d H1 H' ∧ StockAt H' d Ps G ∧ H' L = some (.lst (as.map V.ref)) ∧ EntsAt H' as es' ∧ H' t = some (.tup e'.vals), ?_, ?_⟩
      · refine ⟨_, rfl, tp, _, 0, _, rfl, rfl, SqT.of hte, at0 e, rfl, _, rfl, ite2 (fun ew => ?_) (fun _ => ?_)⟩
        · obtain ⟨nm, mm, g, pl, k0, hd, rfl⟩ := count_ent (V.str.inj (of_decide_eq_true ew))
          obtain ⟨kvs, hd4, sk⟩ := st4
          obtain ⟨i1, v1⟩ := sk.val pl fr.2.1 g fr.1
          refine ⟨_, rfl, _, rfl, _, rfl, tp, _, 4, _, rfl, rfl, SqT.of hte, atI_nat (j := 4) rfl, _, rfl, tp, _, 3, _, rfl, rfl, SqT.of hte, atI_nat (j := 3) rfl, (by show 2 ≤ sizeLine; decide), fun k2 nk2 => ?_⟩
          have s5 := @same_new _ _ (.tup [V.str pl, .str g]) nk2
          have hk2 : (upd H4 k2 (.tup [V.str pl, .str g])) k2 = some (.tup [V.str pl, .str g]) := upd_same
          generalize upd H4 k2 (.tup [V.str pl, .str g]) = H5 at s5 hk2
          have d1 : DGet H5 d (.ref k2) (some (.int i1)) := by
            rw [← v1]
            exact DGet.t (s5 _ _ hd4) hk2
          refine ⟨d, _, rfl, d1, _, rfl, p, c, _, i1, k, rfl, pen4.same s5, by omega, k1, k40, fun r H6 r0 r1 pen6 bt6 => ?_⟩
          have b46 : Bt2 p d H4 H6 := (sm s5).tr (.of bt6)
          have bt46 := bt4.tr b46
          have hte6 := tk bt46 _ _ hte0
          refine ⟨_, rfl, 5, rfl, tp, _, rfl, hte6, fun u1 H7 s7 h7 => ?_⟩
          refine ⟨_, rfl, (by show 1 ≤ sizeLine; decide), fun u2 nu2 => ?_⟩
          have s8 := @same_new _ _ (.tup [V.int r]) nu2
          have hu2 : (upd H7 u2 (.tup [V.int r])) u2 = some (.tup [V.int r]) := upd_same
          generalize upd H7 u2 (.tup [V.int r]) = H8 at s8 hu2
          have h7' : H7 u1 = some (.tup [V.str "count", .str nm, .int mm, .str g, .str pl]) := h7.trans (congrArg (fun z => some (HO.tup z)) ((cut_head (k := 5)).trans rfl))
          refine ⟨u1, u2, _, _, rfl, rfl, s8 _ _ h7', hu2, by simp, (by show 6 ≤ sizeLine; decide), fun u3 H9 s9 h9 => ?_⟩
          have s69 := s7.trans (s8.trans s9)
          refine ⟨_, rfl, 6, rfl, tp, _, rfl, s69 _ _ hte6, fun u4 H10 s10 h10 => ?_⟩
          have h10' : H10 u4 = some (.tup [V.str hd]) := h10.trans (congrArg (fun z => some (HO.tup z)) ((cut_tail (k := 6)).trans rfl))
          refine ⟨u3, u4, _, _, rfl, rfl, s10 _ _ h9, h10', by simp, (by show 7 ≤ sizeLine; decide), fun u5 H11 s11 h11 => ?_⟩
          have sA := s69.trans (s10.trans s11)
          have bA := b46.tr (sm sA)
          refine ⟨u5, .count nm mm g pl r hd, _, rfl, .inr ⟨nm, mm, g, pl, k0, r, hd, rfl, rfl, r0, r1⟩, (pen6.same sA).mono (by omega), bt4.tr bA, ⟨kvs, sA _ _ (bt6 _ _ (s5 _ _ hd4) ndp), sk⟩, bA _ _ hL4 nLp nLd, en4.on fun a xs ea => bA _ _ ea ?_ (ne_of ea hd4 (by intro z; cases z)), h11⟩
          obtain ⟨kw, ns, a', l, g1', _⟩ := pen4.ex
          exact ne_of ea g1' (by intro z; cases z)
        · refine ⟨_, rfl, _, rfl, _, rfl, _, rfl, h, _, 1, _, rfl, rfl, SqT.of (tk bt4 _ _ g1), atI_nat (j := 1) rfl, p, c, _, d, tp, hg, Ps, G, HL, e, rfl, pen4, by omega, st4, hte, tk bt4 _ _ g3, fr, fun H5 st5 pen5 bt5 => ?_⟩
          obtain ⟨kvs, hd4, sk⟩ := st4
          have tp5 : TK H4 H5 := fun a xs ea => by
            refine bt5 _ _ ea ?_ (ne_of ea hd4 (by intro z; cases z))
            obtain ⟨kw, ns, a', l, g1', _⟩ := pen4.ex
            exact ne_of ea g1' (by intro z; cases z)
          exact ⟨tp, e, _, rfl, .inl rfl, pen5.mono (by omega), bt4.tr bt5, st5, bt5 _ _ hL4 nLp nLd, en4.on tp5, tp5 _ _ hte⟩
      · rintro σ' H5 ⟨t, e', z8, rfl, re, pen5, bt5, st5, hL5, en5, ht5⟩
        have kL : TK H5 (upd H5 L (.lst (as.map V.ref ++ [V.ref t]))) := TK.upd fun xs e => by rw [hL5] at e; cases e
        refine ⟨_, rfl, .inl ⟨rfl, _, SqL.of hL5⟩, _, rfl, L, _, _, rfl, rfl, hL5, (by rw [List.length_map]; exact small1000 (by omega)), ?_⟩
        refine ⟨_, _, as ++ [t], es' ++ [e'], rfl, pen5.upd nLp nLc, fun b o eb nb nb2 => (upd_ne (ne_of_none eb nL1)).trans (bt5 b o eb nb nb2), ?_, ?_, EntsAt.snoc (en5.on kL) (kL _ _ ht5), ?_⟩
        · obtain ⟨kvs, h1, h2⟩ := st5
          exact ⟨kvs, (upd_ne nLd.symm).trans h1, h2⟩
        · rw [upd_same, List.map_append]
          rfl
        · rw [take_snoc hes]
          exact Paired.snoc rc re
    · rintro σ H4 ⟨y7, y8, as, es', rfl, pen4, bt4, st4, hL4, en4, rc⟩
      have lt5 := g5.len
      rw [List.length_map] at pen4 rc
      rw [lt5, List.take_length] at rc
      refine ⟨_, rfl, h, _, 0, _, rfl, rfl, SqT.of (tk bt4 _ _ g1), atI_nat (j := 0) rfl, _, rfl, h, _, 1, _, rfl, rfl, SqT.of (tk bt4 _ _ g1), atI_nat (j := 1) rfl, _, rfl, L, _, rfl, SqL.of hL4, fun t ob nt nob => ⟨(by show 3 ≤ sizeLine; decide), fun h' nh' => ?_⟩⟩
      have s5 := @same_new _ _ (.frz ob (.tup (as.map V.ref))) nt
      have s6 := @same_new _ _ (.tup [V.ref hp, .ref hg, .ref t]) nh'
      have s56 := s5.trans s6
      refine q h' es' _ rc ⟨hp, hg, t, as, ob, upd_same, s56 _ _ (tk bt4 _ _ g2), s56 _ _ (tk bt4 _ _ g3), ⟨s6 _ _ upd_same, nob⟩, en4.on (TK.of s56)⟩ ((pen4.mono (by omega)).same s56) fun b o e nb => ?_
      exact s56 _ _ (bt4 b o (s1 b o e) nb (ne_of_none e nd0))
end
/-! ### the names are names, and unlike -/
theorem Lc_one : ∀ i < 26, ∀ j < 26, Lc i = Lc j → i = j := by decide +kernel
theorem nw_len {b : Nat} {B : List Nat} {sp t st : Nat} (ok : NrOk b B sp t st) (k : Nat) : (nw B sp t st k).length = B.length + 1 + (if k % 2 = 1 then 1 else 0) + (if 26 ≤ k then 2 else 0) := by
  have := ok.s
  unfold nw moreL
  simp only [List.length_append, List.length_take, List.length_drop, List.length_cons, List.length_nil]
  split <;> split <;> simp <;> omega
theorem nw_at {b : Nat} {B : List Nat} {sp t st : Nat} (ok : NrOk b B sp t st) (k : Nat) : (nw B sp t st k)[sp]? = some (Lc ((t + st * k) % 26)) := by
  have h1 := ok.s
  have h : (B.take sp).length = sp := by rw [List.length_take]; omega
  unfold nw
  rw [List.append_assoc, List.append_assoc, List.getElem?_append_right (by omega), h, Nat.sub_self]
  rfl
theorem nw_one {b : Nat} {B : List Nat} {sp t st : Nat} (ok : NrOk b B sp t st) {k j : Nat} (hk : k < 30) (hj : j < 30) (e : nw B sp t st k = nw B sp t st j) : k = j := by
  have l := congrArg List.length e
  rw [nw_len ok, nw_len ok] at l
  have a := nw_at ok k
  rw [e, nw_at ok j] at a
  have c := Lc_one _ (Nat.mod_lt _ (by decide)) _ (Nat.mod_lt _ (by decide)) (Option.some.inj a)
  have par : k % 2 = j % 2 ∧ (26 ≤ k ↔ 26 ≤ j) := by
    split at l <;> split at l <;> split at l <;> split at l <;> omega
  rcases ok.st with rfl | rfl | rfl | rfl <;> omega
theorem nw_name {b : Nat} {B : List Nat} {sp t st : Nat} (ok : NrOk b B sp t st) {k : Nat} (h : b + (if 26 ≤ k then 4 else 2) ≤ 8) : nameB (sc (nw B sp t st k)) = true := by
  have l := nw_len ok k
  have hb := ok.b
  have le8 : (nw B sp t st k).length ≤ 8 ∧ 1 ≤ (nw B sp t st k).length := by
    rw [l]
    split <;> split <;> split at h <;> omega
  unfold nameB
  rw [Bool.and_eq_true, Bool.and_eq_true]
  refine ⟨⟨decide_eq_true (by rw [sc_len]; exact le8.2), decide_eq_true (by rw [sc_len]; exact le8.1)⟩, List.all_eq_true.mpr fun x hx => decide_eq_true ?_⟩
  have lc : Lc ((t + st * k) % 26) ∈ abc.cps.toList := Lc_in (Nat.mod_lt _ (by decide))
  have hx' : x ∈ nw B sp t st k := hx
  unfold nw moreL at hx'
  simp only [List.mem_append] at hx'
  rcases hx' with ((h1 | h1) | h1) | h1 | h1
  · exact ok.bl x (List.mem_of_mem_take h1)
  · rw [List.mem_singleton.mp h1]
    exact lc
  · exact ok.bl x (List.mem_of_mem_drop h1)
  · split at h1
    · rw [List.mem_singleton.mp h1]
      exact lc
    · cases h1
  · split at h1
    · simp only [List.mem_cons, List.not_mem_nil, or_false] at h1
      rcases h1 with rfl | rfl <;> decide +kernel
    · cases h1
/-! ### the law's house -/
def spBHouse : Sp := fun vs H Q _ => ∃ (p c : Addr) (n : Nat) (wl : Addr) (ws : List Str), vs = [.ref p, .ref wl] ∧ PenAt H p c n ∧ n ≤ 20000 ∧ StrsAt H wl ws ∧ ws ≠ [] ∧ ws.length ≤ 100 ∧
  ∀ (h : Addr) (P G : List Str) (es : List Ent) (m : Nat) (H' : Hp), HouseF H' h P G es → Good P G es m → m ≤ 30 → PenAt H' p c (n + 2000) → But p H H' → Q (.ref h) H'
theorem ents_pairs {H : Hp} : ∀ {pr : List (Addr × Ent)}, (∀ x ∈ pr, H x.1 = some (.tup x.2.vals)) → EntsAt H (pr.map (·.1)) (pr.map (·.2))
  | [], _ => .nil
  | x :: r, h => .cons (h x List.mem_cons_self) (ents_pairs fun y hy => h y (List.mem_cons_of_mem _ hy))
theorem nw_nodup {b : Nat} {B : List Nat} {sp t st : Nat} (ok : NrOk b B sp t st) {m o : Nat} (h : m + o ≤ 30) : ((List.range m).map fun k => sc (nw B sp t st (k + o))).Nodup := by
  refine List.pairwise_map.mpr (List.Pairwise.imp_of_mem (fun {x y} ha hb ne q => ne ?_) List.nodup_range)
  have h1 := List.mem_range.mp ha
  have h2 := List.mem_range.mp hb
  have := nw_one ok (k := x + o) (j := y + o) (by omega) (by omega) (congrArg (fun z : Str => z.cps.toList) q)
  omega
theorem rc_names {es es' : List Ent} (h : Paired recount es es') : es'.map Ent.name = es.map Ent.name := by
  induction h with
  | nil => rfl
  | cons a _ ih => rw [List.map_cons, List.map_cons, ih, a.name]
theorem rc_mem {es es' : List Ent} (h : Paired recount es es') : ∀ e' ∈ es', ∃ e ∈ es, recount e e' := by
  induction h with
  | nil => exact fun e' z => absurd z List.not_mem_nil
  | cons a _ ih =>
    intro e' z
    rcases List.mem_cons.mp z with rfl | z
    · exact ⟨_, List.mem_cons_self, a⟩
    · obtain ⟨e, h1, h2⟩ := ih e' z
      exact ⟨e, List.mem_cons_of_mem _ h1, h2⟩
def prV (x : Addr × Ent) : V × PyData := (.ref x.1, ordD x.2)
section
variable {P : Program} {w : World} {K : PySem.W.Frag} {mg : Str → Option Value} {base : Heap}
abbrev bhN : List Str := ["_law_pen_here", "_law_words", "_law_way", "_law_size", "_law_one", "_law_other", "_law_k", "_law_places", "_law_goods", "_law_world", "_law_found", "_law_house_here"]
theorem scBH : FnScope bhN ["_law_pen_here", "_law_words"] (defScope sHouse) := ⟨rfl, rfl, rfl, by decide +kernel, rfl, by decide +kernel, by decide +kernel⟩
set_option maxHeartbeats 8000000 in
theorem ok_bhouse {f : Addr} {fd : FuncData} (F : Fun K "_law_house" "_law_house" sHouse f fd)
    {fT fN fA fM fE fO fC : Addr} {dT dN dA dM dE dO dC : FuncData} (T : TakeT P w K mg base fT dT)
    (NR : DefT P w K mg base "_law_namer" 2 fN dN ["_law_pen_here", "_law_most"] spNamer)
    (NM : DefT P w K mg base "_law_name" 1 fA dA ["_law_namer_here", "_law_k"] spName)
    (MO : DefT P w K mg base "_law_moments" 2 fM dM ["_law_pen_here"] spMoms)
    (EN : DefT P w K mg base "_law_entry" 3 fE dE ["_law_pen_here", "_law_world", "_law_name_here", "_law_word"] spEnt)
    (O : DefT P w K mg base "_law_order" 1 fO dO ["_law_entry_here"] spOrd)
    (LC : DefT P w K mg base "_law_counted" 4 fC dC ["_law_pen_here", "_law_house_here", "_law_spoilt"] spLCnt)
    (mr : mg "range" = none) (ms : mg "sorted" = none) (mt : mg "tuple" = none) (ml : mg "len" = none) (mi : mg "int" = none) : FnOk P w K mg base CX0 5 f fd ["_law_pen_here", "_law_words"] spBHouse := by
  refine F.ok scBH (fun vs H Q E h => ?_) (fun cdv A outer s H vs Q E hr h => ?_)
  · obtain ⟨p, c, n, wl, ws, rfl, _⟩ := h
    rfl
  · obtain ⟨p, c, n, wl, ws, rfl, pen, hn, hws, wne, w100, q⟩ := h
    have nd := scBH.nd
    have hr1 : Room 1 _ := hr.mono (by decide)
    have hr2 : Room 2 _ := hr.mono (by decide)
    have hr3 : Room 3 _ := hr.mono (by decide)
    refine ⟨_, pss_cons (ps_set (i := 2) nd rfl (Or.inl rfl) (pe_call T.ok hr1 (by rfl) T.g T.kp T.b .nil pass0 (pa_cons (pv 0) (pa_cons pe_int pa_nil))))
      (pss_cons (ps_set (i := 3) nd rfl (Or.inl rfl) pe_int)
      (C8.pss_cut (ps_if (pt_cmpR op_gt (pv 2) pe_int (nomark _)) (pss_one (ps_set (i := 3) nd rfl (Or.inl rfl) (pe_call T.ok hr1 (by rfl) T.g T.kp T.b .nil pass0 (pa_cons (pv 0) (pa_cons (pe_ix ix_list (pe_lst (pa_cons pe_int (pa_cons pe_int pa_nil))) (pe_op op_mod (pv 2) pe_int) (fun _ _ => rfl)) pa_nil))))) pss_nil)
      (pss_cons (ps_set (i := 4) nd rfl (Or.inr rfl) (pe_call NR.ok hr2 (by rfl) NR.g NR.kp NR.b .nil pass0 (pa_cons (pv 0) (pa_cons pe_int pa_nil))))
      (pss_cons (ps_set (i := 5) nd rfl (Or.inr rfl) (pv 4))
      (C8.pss_cut (ps_if (PW.pt (pw_or (pt_cmpR op_gt (pv 3) pe_int (nomark _)) (pw_or1 (pt_cmpR op_eq (pe_call T.ok hr1 (by rfl) T.g T.kp T.b .nil pass0 (pa_cons (pv 0) (pa_cons pe_int pa_nil))) pe_int (nomark _)))))
          (pss_one (ps_set (i := 5) nd rfl (Or.inr rfl) (pe_call NR.ok hr2 (by rfl) NR.g NR.kp NR.b .nil pass0 (pa_cons (pv 0) (pa_cons (pe_ix ix_list (pe_lst (pa_cons pe_int (pa_cons pe_int pa_nil))) (pe_callTy call_int1 (by rfl) mi (by decide +kernel) (pa_cons (pe_cmpR op_gt (pv 3) pe_int (nomark _)) pa_nil)) (fun _ _ => rfl)) pa_nil))))) pss_nil)
      (pss_cons (ps_setLc (i := 7) (own := [("_law_k", 6)]) (g := gName 6) (tt := tYes) (te := tCall spName [] E0 (tCons (tVar 4) (tCons (tVar 6) tNil))) rfl nd rfl rfl (sw_true rfl rfl rfl (by decide +kernel))
          (pi_range1 rfl mr (pa_cons (pe_op op_add pe_int (pe_call T.ok hr1 (by rfl) T.g T.kp T.b .nil pass0 (pa_cons (pv 0) (pa_cons pe_int pa_nil)))) pa_nil)) (blkOk_by (N := bhN) (sc := defScope sHouse) (by decide +kernel)) (fun _ _ _ _ _ => pg_name (i := 6) nd rfl (Or.inl rfl)) (fun _ _ _ _ _ => pts_nil)
          (fun _ _ _ _ _ => pe_call NM.ok hr1 (by rfl) NM.g NM.kp NM.b .nil pass0 (pa_cons (pv 4) (pa_cons (pv 6) pa_nil))))
      (pss_cons (ps_setLc (i := 8) (own := [("_law_k", 6)]) (g := gName 6) (tt := tYes) (te := tCall spName [] E0 (tCons (tVar 4) (tCons (tOp (rI0 fun i j => .int (i + j)) (tVar 6) (tC (V.int 2))) tNil))) rfl nd rfl rfl (sw_true rfl rfl rfl (by decide +kernel))
          (pi_range1 rfl mr (pa_cons (pe_op op_add pe_int (pe_call T.ok hr1 (by rfl) T.g T.kp T.b .nil pass0 (pa_cons (pv 0) (pa_cons pe_int pa_nil)))) pa_nil)) (blkOk_by (N := bhN) (sc := defScope sHouse) (by decide +kernel)) (fun _ _ _ _ _ => pg_name (i := 6) nd rfl (Or.inl rfl)) (fun _ _ _ _ _ => pts_nil)
          (fun _ _ _ _ _ => pe_call NM.ok hr1 (by rfl) NM.g NM.kp NM.b .nil pass0 (pa_cons (pv 4) (pa_cons (pe_op op_add (pv 6) pe_int) pa_nil))))
      (pss_cons (ps_set (i := 9) nd rfl (Or.inl rfl) (pe_tup (pa_cons (pv 7) (pa_cons (pv 8) (pa_cons (pe_call MO.ok hr2 (by rfl) MO.g MO.kp MO.b .nil pass0 (pa_cons (pv 0) pa_nil))
          (pa_cons (pe_lc (own := [("_law_k", 6)]) (g := gName 6) (tt := tYes) (te := tCall spName [] E0 (tCons (tVar 5) (tCons (tVar 6) tNil))) rfl nd (pi_range1 rfl mr (pa_cons pe_int pa_nil)) (blkOk_by (N := bhN) (sc := defScope sHouse) (by decide +kernel)) (fun _ _ _ _ _ => pg_name (i := 6) nd rfl (Or.inl rfl)) (fun _ _ _ _ _ => pts_nil)
            (fun _ _ _ _ _ => pe_call NM.ok hr1 (by rfl) NM.g NM.kp NM.b .nil pass0 (pa_cons (pv 5) (pa_cons (pv 6) pa_nil)))) pa_nil))))))
      (pss_cons (ps_set (i := 10) nd rfl (Or.inl rfl) (pe_lst pa_nil))
      (pss_cons (ps_for PassesOwn.never rfl (pi_range1 rfl mr (pa_cons (pv 3) pa_nil)) (pg_name (i := 6) nd rfl (Or.inl rfl))
        (pss_one (ps_expr (pe_bm PySem.F.plainAttrs_list PySem.F.slot_list_append PySem.F.type_list_append mt_append (pv 10) (pa_cons (pe_call EN.ok hr3 (by rfl) EN.g EN.kp EN.b .nil pass0 (pa_cons (pv 0) (pa_cons (pv 9) (pa_cons (pe_call NM.ok hr1 (by rfl) NM.g NM.kp NM.b .nil pass0 (pa_cons (pv 5) (pa_cons (pv 6) pa_nil)))
          (pa_cons (pe_ix ix_list (pv 1) (pe_call T.ok hr1 (by rfl) T.g T.kp T.b .nil pass0 (pa_cons (pv 0) (pa_cons (pe_callB call_len_seq (by rfl) ml PySem.boot_len (pa_cons (pv 1) pa_nil)) pa_nil))) (fun _ _ => rfl)) pa_nil))))) pa_nil)))))
      (pss_cons (ps_set (i := 11) nd rfl (Or.inl rfl) (pe_tup (pa_cons (pe_callTy call_tuple_of (by rfl) mt (by decide +kernel) (pa_cons (pe_callB cr_sortedS (by rfl) ms (by decide +kernel) (pa_cons (pv 7) pa_nil)) pa_nil))
        (pa_cons (pe_callTy call_tuple_of (by rfl) mt (by decide +kernel) (pa_cons (pe_callB cr_sortedS (by rfl) ms (by decide +kernel) (pa_cons (pv 8) pa_nil)) pa_nil))
        (pa_cons (pe_callTy call_tuple_of (by rfl) mt (by decide +kernel) (pa_cons (pe_callBK (cr_sortK O.ok hr3 O.b) (by rfl) ms (by decide +kernel) (pa_cons (pv 10) pa_nil) (pk_cons (pe_glob (v := .ref fO) (by rfl) O.g rfl) pk_nil)) pa_nil)) pa_nil)))))
      (pss_one (ps_ret (pe_call LC.ok hr (by rfl) LC.g LC.kp LC.b .nil pass0 (pa_cons (pv 0) (pa_cons (pv 11) (pa_cons (pe_ix ix_list (pe_lst (pa_cons pe_int (pa_cons pe_int (pa_cons pe_int pa_nil)))) (pe_call T.ok hr1 (by rfl) T.g T.kp T.b .nil pass0 (pa_cons (pv 0) (pa_cons pe_int pa_nil))) (fun _ _ => rfl)) pa_nil))))))))))))))))), ?_⟩
    refine ⟨_, rfl, p, c, n, 8, rfl, pen, by omega, by decide, by decide, fun r1 H1 a1 b1 pen1 bt1 => ?_⟩
    refine ⟨fun σ' H' => ∃ sz : Nat, σ' = [some (.ref p), some (.ref wl), some (.int r1), some (.int (sz : Int)), none, none, none, none, none, none, none, none] ∧ sz ≤ 30 ∧ PenAt H' p c (n + 2) ∧ But p H H', ?_, ?_⟩
    · refine ⟨_, rfl, r1, 0, rfl, rfl, _, rfl, ite2 (fun _ => ?_) (fun _ => ⟨20, rfl, by decide, pen1.mono (by omega), bt1⟩)⟩
      obtain ⟨lim, hlim, lin⟩ := at_ints (ns := [6, 15]) (r := r1 % 2) (Int.emod_nonneg _ (by decide)) (Int.emod_lt_of_pos _ (by decide))
      have l15 : 1 ≤ lim ∧ lim ≤ 15 := by
        simp only [List.mem_cons, List.not_mem_nil, or_false] at lin
        omega
      refine ⟨_, rfl, (by show 2 ≤ sizeLine; decide), fun l nl => ?_⟩
      have sl := @same_new _ _ (.lst [V.int 6, .int 15]) nl
      refine ⟨_, rfl, r1, 2, rfl, rfl, (by show (0 : Int) < 2; decide), l, _, _, _, rfl, rfl, SqL.of upd_same, hlim, p, c, n + 1, lim, rfl, pen1.same sl, by omega, by omega, by omega, fun r2 H2 a2 b2 pen2 bt2 => ?_⟩
      obtain ⟨z, rfl⟩ : ∃ z : Nat, r2 = z := ⟨r2.toNat, (Int.toNat_of_nonneg a2).symm⟩
      exact ⟨z, rfl, by omega, pen2, (bt1.tr (.of sl)).tr bt2⟩
    rintro σ' H2 ⟨sz, rfl, sz30, pen2, bt2⟩
    refine ⟨_, rfl, p, c, n + 2, 7, rfl, pen2, by omega, by decide, by decide, fun aO B sp t st H3 naO okO hO pen3 bt3 => ?_⟩
    have bt03 := bt2.tr bt3
    have naOp : aO ≠ p := by
      obtain ⟨kw, ns, a', l, g1, _⟩ := pen3.ex
      exact ne_of hO g1 (by intro z; cases z)
    obtain ⟨lim, hlim, l1, l7, l5⟩ : ∃ lim : Int, atI [V.int 7, .int 5] (if decide ((26 : Int) < (sz : Int)) = true then 1 else 0) = some (.int lim) ∧ 1 ≤ lim ∧ lim ≤ 7 ∧ (26 < sz → lim ≤ 5) := by
      by_cases z : 26 < sz
      · rw [decide_eq_true (by omega), if_pos rfl]
        exact ⟨5, atI_nat (j := 1) rfl, by decide, by decide, fun _ => by decide⟩
      · rw [decide_eq_false (by omega), if_neg (by decide)]
        exact ⟨7, atI_nat (j := 0) rfl, by decide, by decide, fun h => absurd h z⟩
    refine ⟨_, rfl, ?_⟩
    refine ⟨fun σ' H' => ∃ (aX : Addr) (b : Nat) (B' : List Nat) (sp' t' st' : Nat), σ' = [some (.ref p), some (.ref wl), some (.int r1), some (.int (sz : Int)), some (.ref aO), some (.ref aX), none, none, none, none, none, none] ∧ NrOk b B' sp' t' st' ∧ b ≤ 6 ∧ (26 < sz → b ≤ 4) ∧ H' aX = some (nrV B' sp' t' st') ∧ H' aO = some (nrV B sp t st) ∧ PenAt H' p c (n + 30) ∧ But p H H', ?_, ?_⟩
    · refine ⟨_, rfl, (sz : Int), 26, rfl, rfl, _, rfl, ite2 (fun _ => ?_) (fun e26 => ?_)⟩
      · refine ⟨_, rfl, (by show 2 ≤ sizeLine; decide), fun l nl => ?_⟩
        have sl := @same_new _ _ (.lst [V.int 7, .int 5]) nl
        refine ⟨_, rfl, (sz : Int), 26, rfl, rfl, .inr ⟨_, rfl, l, _, _, _, rfl, rfl, SqL.of upd_same, hlim, p, c, _, lim, rfl, pen3.same sl, by omega, by omega, by omega, fun aX B' sp' t' st' Hy na ok h pen' bt' => ?_⟩⟩
        exact ⟨aX, _, B', sp', t', st', rfl, ok, by omega, fun z => by have := l5 z; omega, h, bt' _ _ (sl _ _ hO) naOp, pen'.mono (by omega), (bt03.tr (.of sl)).tr bt'⟩
      · refine ⟨_, rfl, p, c, n + 12, 2, rfl, pen3, by omega, by decide, by decide, fun r4 H4 _ _ pen4 bt4 => ⟨rfl, _, rfl, ite2 (fun _ => ?_) (fun _ => ?_)⟩⟩
        · refine ⟨_, rfl, (by show 2 ≤ sizeLine; decide), fun l nl => ?_⟩
          have sl := @same_new _ _ (.lst [V.int 7, .int 5]) nl
          refine ⟨_, rfl, (sz : Int), 26, rfl, rfl, .inr ⟨_, rfl, l, _, _, _, rfl, rfl, SqL.of upd_same, hlim, p, c, _, lim, rfl, pen4.same sl, by omega, by omega, by omega, fun aX B' sp' t' st' Hy na ok h pen' bt' => ?_⟩⟩
          exact ⟨aX, _, B', sp', t', st', rfl, ok, by omega, fun z => by have := l5 z; omega, h, bt' _ _ (sl _ _ (bt4 _ _ hO naOp)) naOp, pen'.mono (by omega), ((bt03.tr bt4).tr (.of sl)).tr bt'⟩
        · exact ⟨aO, _, B, sp, t, st, rfl, okO, by decide, fun z => absurd (decide_eq_true (show (26 : Int) < (sz : Int) by omega)) e26, bt4 _ _ hO naOp, bt4 _ _ hO naOp, pen4.mono (by omega), bt03.tr bt4⟩
    rintro σ' H4 ⟨aX, b, B2, sp2, t2, st2, rfl, ok2, b6, b4, hX, hO4, pen4, bt4⟩
    have okO6 : NrOk 6 B sp t st := okO
    have naXp : aX ≠ p := by
      obtain ⟨kw, ns, a', l, g1, _⟩ := pen4.ex
      exact ne_of hX g1 (by intro z; cases z)
    -- the places
    refine ⟨_, rfl, p, c, n + 30, 6, rfl, pen4, by omega, by decide, by decide, fun r5 H5 a5 b5 pen5 bt5 => ⟨1, r5, rfl, rfl, 1 + r5, rfl, by omega, by omega, fun D1 nD1 => ?_⟩⟩
    have hO5 := bt5 _ _ hO4 naOp
    have hX5 := bt5 _ _ hX naXp
    refine lc_range (lo := 0) (n := (1 + r5).toNat) (fun j H' => Same H5 H' ∧ H' D1 = some (.lst (((List.range j).map fun k => sc (nw B sp t st k)).map V.str))) ⟨same_new nD1, upd_same⟩ ?_ ?_
    · rintro j H6 hj ⟨sm, hD⟩
      refine ⟨rfl, yesT ⟨_, rfl, _, rfl, aO, 6, B, sp, t, st, j, (by rw [Int.zero_add]; rfl), okO6, by decide, by omega, sm _ _ hO5, _, hD, ?_, fun b o e => (upd_ne (ne_of_none e nD1)).trans (sm b o e), ?_⟩⟩
      · rw [List.length_map, List.length_map, List.length_range]
        exact small1000 (by omega)
      · rw [upd_same, List.range_succ, List.map_append, List.map_append]
        rfl
    rintro H6 ⟨s6, hD1⟩
    -- the goods
    refine ⟨_, rfl, p, c, n + 31, 3, rfl, pen5.same s6, by omega, by decide, by decide, fun r7 H7 a7 b7 pen7 bt7 => ⟨1, r7, rfl, rfl, 1 + r7, rfl, by omega, by omega, fun D2 nD2 => ?_⟩⟩
    have hO7 := bt7 _ _ (s6 _ _ hO5) naOp
    have hX7 := bt7 _ _ (s6 _ _ hX5) naXp
    have hD17 := pen_l (pen5.same s6) bt7 hD1
    refine lc_range (lo := 0) (n := (1 + r7).toNat) (fun j H' => Same H7 H' ∧ H' D2 = some (.lst (((List.range j).map fun k => sc (nw B sp t st (k + 2))).map V.str))) ⟨same_new nD2, upd_same⟩ ?_ ?_
    · rintro j H8 hj ⟨sm, hD⟩
      refine ⟨rfl, yesT ⟨_, rfl, _, rfl, 0 + (j : Int), 2, rfl, rfl, aO, 6, B, sp, t, st, j + 2, (by rw [Int.zero_add]; rfl), okO6, by decide, by omega, sm _ _ hO7, _, hD, ?_, fun b o e => (upd_ne (ne_of_none e nD2)).trans (sm b o e), ?_⟩⟩
      · rw [List.length_map, List.length_map, List.length_range]
        exact small1000 (by omega)
      · rw [upd_same, List.range_succ, List.map_append, List.map_append]
        rfl
    rintro H8 ⟨s8, hD2⟩
    -- moments and hands
    refine ⟨_, rfl, _, rfl, _, rfl, p, c, n + 32, rfl, pen7.same s8, by omega, fun D3 ns H9 nD3 hD3 mom pen9 bt9 => ?_⟩
    have hX9 := bt9 _ _ (s8 _ _ hX7) naXp
    have hD19 := pen_l (pen7.same s8) bt9 (s8 _ _ hD17)
    have hD29 := pen_l (pen7.same s8) bt9 hD2
    refine ⟨3, rfl, by decide, by decide, fun D4 nD4 => ?_⟩
    refine lc_range (lo := 0) (n := (3 : Int).toNat) (fun j H' => Same H9 H' ∧ H' D4 = some (.lst (((List.range j).map fun k => sc (nw B2 sp2 t2 st2 k)).map V.str))) ⟨same_new nD4, upd_same⟩ ?_ ?_
    · rintro j H10 hj ⟨sm, hD⟩
      have hj3 : j < 3 := hj
      refine ⟨rfl, yesT ⟨_, rfl, _, rfl, aX, b, B2, sp2, t2, st2, j, (by rw [Int.zero_add]; rfl), ok2, b6, by omega, sm _ _ hX9, _, hD, ?_, fun b o e => (upd_ne (ne_of_none e nD4)).trans (sm b o e), ?_⟩⟩
      · rw [List.length_map, List.length_map, List.length_range]
        exact small1000 (by omega)
      · rw [upd_same, List.range_succ, List.map_append, List.map_append]
        rfl
    rintro H10 ⟨s10, hD4⟩
    refine ⟨(by show 4 ≤ sizeLine; decide), fun wo nwo => ⟨Nat.zero_le _, fun L nL => ?_⟩⟩
    have s11 := @same_new _ _ (.tup [V.ref D1, .ref D2, .ref D3, .ref D4]) nwo
    have s12 := @same_new _ _ (.lst []) nL
    have hwo : (upd (upd H10 wo (.tup [V.ref D1, .ref D2, .ref D3, .ref D4])) L (.lst [])) wo = some (.tup [V.ref D1, .ref D2, .ref D3, .ref D4]) := s12 _ _ upd_same
    have hL : (upd (upd H10 wo (.tup [V.ref D1, .ref D2, .ref D3, .ref D4])) L (.lst [])) L = some (.lst []) := upd_same
    have s912 := s10.trans (s11.trans s12)
    have pen12 := pen9.same s912
    generalize upd (upd H10 wo (.tup [V.ref D1, .ref D2, .ref D3, .ref D4])) L (.lst []) = H12 at s12 hwo hL s912 pen12
    have bt12 : But p H H12 := ((((bt4.tr bt5).tr (.of s6)).tr bt7).tr (.of s8)).tr (bt9.tr (.of s912))
    have w12 : Wld H12 D1 D2 D3 D4 ((List.range (1 + r5).toNat).map fun k => sc (nw B sp t st k)) ((List.range (1 + r7).toNat).map fun k => sc (nw B sp t st (k + 2))) ((List.range (3 : Int).toNat).map fun k => sc (nw B2 sp2 t2 st2 k)) ns :=
      ⟨s912 _ _ hD19, s912 _ _ hD29, s912 _ _ hD3, (s11.trans s12) _ _ hD4⟩
    have hX12 := s912 _ _ hX9
    have hws12 := pen_strs pen bt12 hws
    have nLp : L ≠ p := fun z => by
      obtain ⟨kw, ns, a', l, g1, _⟩ := pen12.ex
      rw [z, g1] at hL
      cases hL
    have nLc : L ≠ c := fun z => by
      have := (pen9.same (s10.trans s11)).cells
      rw [← z] at this
      exact this nL
    have hLn : H L = none := ((((((bt4.tr bt5).tr (.of s6)).tr bt7).tr (.of s8)).tr (bt9.tr (.of (s10.trans s11))))).free nL (pen9.same (s10.trans s11)).there
    have n1 : D1 ≠ L := ne_of_none ((s10.trans s11) _ _ hD19) nL
    have n2 : D2 ≠ L := ne_of_none ((s10.trans s11) _ _ hD29) nL
    have n3 : D3 ≠ L := ne_of_none ((s10.trans s11) _ _ hD3) nL
    have n4 : D4 ≠ L := ne_of_none (s11 _ _ hD4) nL
    have nwL : wl ≠ L := ne_of_none hws hLn
    generalize hPL : ((List.range (1 + r5).toNat).map fun k => sc (nw B sp t st k)) = PL at w12
    generalize hGL : ((List.range (1 + r7).toNat).map fun k => sc (nw B sp t st (k + 2))) = GL at w12
    generalize hHL : ((List.range (3 : Int).toNat).map fun k => sc (nw B2 sp2 t2 st2 k)) = HL at w12
    have lPL : PL.length = (1 + r5).toNat := by rw [← hPL, List.length_map, List.length_range]
    have lGL : GL.length = (1 + r7).toNat := by rw [← hGL, List.length_map, List.length_range]
    have lHL : HL.length = 3 := by rw [← hHL, List.length_map, List.length_range]; rfl
    have wpos : 0 < ws.length := List.length_pos_iff.mpr wne
    refine ⟨_, rfl, (sz : Int), rfl, by omega, by omega, for_range (lo := 0) (n := (sz : Int).toNat) (fun j σ H' => ∃ y6, σ = [some (.ref p), some (.ref wl), some (.int r1), some (.int (sz : Int)), some (.ref aO), some (.ref aX), y6, some (.ref D1), some (.ref D2), some (.ref wo), some (.ref L), none] ∧ PenAt H' p c (n + 46 + 31 * j) ∧ But p H H' ∧ Wld H' D1 D2 D3 D4 PL GL HL ns ∧
      H' wo = some (.tup [V.ref D1, .ref D2, .ref D3, .ref D4]) ∧ StrsAt H' wl ws ∧ H' aX = some (nrV B2 sp2 t2 st2) ∧ ∃ pr : List (Addr × Ent), pr.length = j ∧ (pr.map fun x => x.2.name) = (List.range j).map (fun k => sc (nw B2 sp2 t2 st2 k)) ∧ H' L = some (.lst ((pr.map (·.1)).map V.ref)) ∧ ∀ x ∈ pr, H' x.1 = some (.tup x.2.vals) ∧ 0 ≤ x.2.moment ∧ x.2.moment ≤ 9999 ∧ x.2.From PL GL HL)
      ⟨_, rfl, pen12.mono (by omega), bt12, w12, hwo, hws12, hX12, [], rfl, rfl, hL, fun x hx => absurd hx List.not_mem_nil⟩ ?_ ?_⟩
    · rintro j σ H13 hj ⟨y6, rfl, pen13, bt13, w13, hwo13, hws13, hX13, pr, lp, np, hL13, ep⟩
      have hj30 : j < 30 := by omega
      have lmap : ((ws.map V.str).length : Int) = (ws.length : Int) := by rw [List.length_map]
      refine ⟨_, rfl, .inl ⟨rfl, _, SqL.of hL13⟩, _, rfl, _, rfl, _, rfl, _, rfl, aX, b, B2, sp2, t2, st2, j, (by rw [Int.zero_add]; rfl), ok2, b6, hj30, hX13, ?_⟩
      refine ⟨_, rfl, _, rfl, _, rfl, wl, _, rfl, .inl (SqL.of hws13), p, c, _, _, rfl, pen13, by omega, by rw [lmap]; omega, by rw [lmap]; omega, fun r H14 b1 d1 pen14 bt14 => ?_⟩
      rw [lmap] at d1
      obtain ⟨wd, hwd, _, _⟩ := at_strs b1 d1
      have w14 := w13.by pen13 bt14
      have nwop : wo ≠ p := by
        obtain ⟨kw, ns, a', l, g1, _⟩ := pen13.ex
        exact ne_of hwo13 g1 (by intro z; cases z)
      refine ⟨wl, _, r, _, rfl, rfl, SqL.of (pen_strs pen13 bt14 hws13), hwd, ?_⟩
      refine ⟨p, c, _, wo, wd, _, D1, D2, D3, D4, PL, GL, HL, ns, rfl, pen14, by omega, bt14 _ _ hwo13 nwop, w14, mom, (fun z => by rw [z] at lPL; simp at lPL; omega), (fun z => by rw [z] at lGL; simp at lGL; omega), (fun z => by rw [z] at lHL; simp at lHL), by omega, by omega, by omega, fun tp e H15 ntp hte en m0 m1 ef pen15 bt15 => ?_⟩
      have bA := bt14.tr bt15
      have hL15 := bA _ _ hL13 nLp
      have kp : ∀ {a : Addr} {xs : List V}, H13 a = some (.tup xs) → (upd H15 L (.lst ((pr.map (·.1)).map V.ref ++ [V.ref tp]))) a = some (.tup xs) := fun {a xs} ea => by
        have nap : a ≠ p := by
          obtain ⟨kw, ns, a', l, g1, _⟩ := pen13.ex
          exact ne_of ea g1 (by intro z; cases z)
        exact (upd_ne (ne_of ea hL13 (by intro z; cases z))).trans (bA _ _ ea nap)
      have w15 := w14.by pen14 bt15
      refine ⟨L, _, _, rfl, rfl, hL15, (by rw [List.length_map, List.length_map, lp]; exact small1000 (by omega)), ⟨_, rfl, (pen15.mono (by omega)).upd nLp nLc, fun b o eb nb => (upd_ne (ne_of_none eb hLn)).trans ((bt13.tr bA) b o eb nb),
        ⟨(upd_ne n1).trans w15.h1, (upd_ne n2).trans w15.h2, (upd_ne n3).trans w15.h3, (upd_ne n4).trans w15.h4⟩, kp hwo13, (upd_ne nwL).trans (pen_strs pen14 bt15 (pen_strs pen13 bt14 hws13)), kp hX13, pr ++ [(tp, e)], by simp [lp], ?_, ?_, ?_⟩⟩
      · rw [List.map_append, np, List.range_succ, List.map_append]
        show _ ++ [e.name] = _
        rw [en]
        rfl
      · rw [upd_same, List.map_append, List.map_append]
        rfl
      · intro x hx
        rcases List.mem_append.mp hx with z | z
        · exact ⟨kp (ep x z).1, (ep x z).2⟩
        · rw [List.mem_singleton.mp z]
          exact ⟨(upd_ne (ne_of hte hL15 (by intro z; cases z))).trans hte, m0, m1, ef⟩
    · rintro σ H13 ⟨y6, rfl, pen13, bt13, w13, hwo13, hws13, hX13, pr, lp, np, hL13, ep⟩
      rw [Int.toNat_natCast] at lp np pen13
      have nPL : PL.Nodup := by
        rw [← hPL]
        exact nw_nodup (o := 0) okO6 (by omega)
      have nGL : GL.Nodup := by
        rw [← hGL]
        exact nw_nodup okO6 (by omega)
      have bPL : ∀ y ∈ PL, nameB y = true := fun y hy => by
        rw [← hPL] at hy
        obtain ⟨k, hk, rfl⟩ := List.mem_map.mp hy
        have := List.mem_range.mp hk
        exact nw_name okO6 (by rw [if_neg (by omega)]; decide)
      have bGL : ∀ y ∈ GL, nameB y = true := fun y hy => by
        rw [← hGL] at hy
        obtain ⟨k, hk, rfl⟩ := List.mem_map.mp hy
        have := List.mem_range.mp hk
        exact nw_name okO6 (by rw [if_neg (by omega)]; decide)
      have bHL : ∀ y ∈ HL, nameB y = true := fun y hy => by
        rw [← hHL] at hy
        obtain ⟨k, hk, rfl⟩ := List.mem_map.mp hy
        have : k < 3 := List.mem_range.mp hk
        exact nw_name ok2 (by rw [if_neg (by omega)]; omega)
      refine ⟨_, rfl, D1, PL, rfl, SqL.of w13.h1, by omega, fun P1 a1 pm1 so1 na1 => ⟨a1, _, rfl, .inl ⟨SqL.of upd_same, fun t1 nt1 => ?_⟩⟩⟩
      have s1 : Same H13 (upd (upd H13 a1 (.lst (P1.map V.str))) t1 (.tup (P1.map V.str))) := (same_new na1).trans (same_new nt1)
      have hp1 : (upd (upd H13 a1 (.lst (P1.map V.str))) t1 (.tup (P1.map V.str))) t1 = some (.tup (P1.map V.str)) := upd_same
      generalize upd (upd H13 a1 (.lst (P1.map V.str))) t1 (.tup (P1.map V.str)) = H14 at s1 hp1
      refine ⟨_, rfl, D2, GL, rfl, SqL.of (s1 _ _ w13.h2), by omega, fun G1 a2 pm2 so2 na2 => ⟨a2, _, rfl, .inl ⟨SqL.of upd_same, fun t2 nt2 => ?_⟩⟩⟩
      have s2 : Same H14 (upd (upd H14 a2 (.lst (G1.map V.str))) t2 (.tup (G1.map V.str))) := (same_new na2).trans (same_new nt2)
      have hp2 : (upd (upd H14 a2 (.lst (G1.map V.str))) t2 (.tup (G1.map V.str))) t2 = some (.tup (G1.map V.str)) := upd_same
      generalize upd (upd H14 a2 (.lst (G1.map V.str))) t2 (.tup (G1.map V.str)) = H15 at s2 hp2
      have s12' := s1.trans s2
      have eD : H15 L = some (.lst (((pr.map prV).map (·.1)))) := by
        rw [s12' _ _ hL13, List.map_map, List.map_map]
        rfl
      refine ⟨_, rfl, L, pr.map prV, rfl, rfl, SqL.of eD, ?_, .inl ?_, ?_, ?_, fun a3 H16 na3 s3 h3 => ⟨a3, _, rfl, .inl ⟨SqL.of h3, fun t3 nt3 => ?_⟩⟩⟩
      · intro d hd d' hd'
        rw [List.map_map] at hd hd'
        obtain ⟨x, _, rfl⟩ := List.mem_map.mp hd
        obtain ⟨y, _, rfl⟩ := List.mem_map.mp hd'
        exact ord_alike x.2 y.2
      · intro d hd
        rw [List.map_map] at hd
        obtain ⟨x, _, rfl⟩ := List.mem_map.mp hd
        exact ⟨_, _, rfl⟩
      · intro e he
        obtain ⟨x, _, rfl⟩ := List.mem_map.mp he
        show 1 ≤ 60
        decide
      · intro e he H1 sm Q1 hq
        obtain ⟨x, hx, rfl⟩ := List.mem_map.mp he
        exact ⟨x.1, x.2, rfl, sm _ _ (s12' _ _ (ep x hx).1), fun tp H2 sm2 h2 => hq _ _ sm2 (ord_dp h2)⟩
      · have key : keyed (pr.map prV) = (pr.mergeSort fun a b => PySem.W.dataLe false (fun e : V × PyData => e.2) (prV a) (prV b)).map prV := (List.map_mergeSort (f := prV) (s := PySem.W.dataLe false fun e : V × PyData => e.2) (r := fun a b => PySem.W.dataLe false (fun e : V × PyData => e.2) (prV a) (prV b)) (l := pr) fun a _ b _ => rfl).symm
        have pm3 : (pr.mergeSort fun a b => PySem.W.dataLe false (fun e : V × PyData => e.2) (prV a) (prV b)).Perm pr := List.mergeSort_perm _ _
        rw [key]
        generalize (pr.mergeSort fun a b => PySem.W.dataLe false (fun e : V × PyData => e.2) (prV a) (prV b)) = qr at pm3 ⊢
        have s4 : Same H16 (upd H16 t3 (.tup ((qr.map prV).map (·.1)))) := same_new nt3
        have e4 : (upd H16 t3 (.tup ((qr.map prV).map (·.1)))) t3 = some (.tup ((qr.map prV).map (·.1))) := upd_same
        generalize upd H16 t3 (.tup ((qr.map prV).map (·.1))) = H17 at s4 e4
        have sA := s12'.trans (s3.trans s4)
        refine ⟨(by show 3 ≤ sizeLine; decide), fun h nh => ?_⟩
        have s5 := @same_new _ _ (.tup [V.ref t1, .ref t2, .ref t3]) nh
        have ho : HouseAt (upd H17 h (.tup [V.ref t1, .ref t2, .ref t3])) h P1 G1 (qr.map (·.2)) := by
          refine ⟨t1, t2, t3, qr.map (·.1), upd_same, s5 _ _ (s4 _ _ (s3 _ _ (s2 _ _ hp1))), s5 _ _ (s4 _ _ (s3 _ _ hp2)), ?_, ents_pairs fun x hx => s5 _ _ (sA _ _ (ep x (pm3.mem_iff.mp hx)).1)⟩
          rw [s5 _ _ e4, List.map_map, List.map_map]
          rfl
        have sB := sA.trans s5
        generalize upd H17 h (.tup [V.ref t1, .ref t2, .ref t3]) = H18 at ho sB
        refine ⟨_, rfl, _, rfl, (by show 3 ≤ sizeLine; decide), fun l nl => ?_⟩
        have sl := @same_new _ _ (.lst [V.int 1, .int 3, .int 40]) nl
        have pen18 := (pen13.same sB).same sl
        have nlp : l ≠ p := fun z => (pen13.same sB).there (z ▸ nl)
        refine ⟨_, rfl, p, c, _, 3, rfl, pen18, by omega, by decide, by decide, fun r H19 ra rb pen19 bt19 => ?_⟩
        obtain ⟨kk, hkk, kin⟩ := at_ints (ns := [1, 3, 40]) (r := r) ra (by show r < 3; omega)
        have k40 : 1 ≤ kk ∧ kk ≤ 40 := by
          simp only [List.mem_cons, List.not_mem_nil, or_false] at kin
          omega
        have lq : qr.length = sz := by rw [pm3.length_eq, lp]
        refine ⟨l, _, r, _, rfl, rfl, SqL.of (bt19 l _ upd_same nlp), hkk, p, c, _, h, P1, G1, qr.map (·.2), kk, rfl, pen19, by omega, (ho.on (TK.of sl)).on (TK.but pen18 bt19), (by rw [pm1.length_eq]; omega), (by rw [pm2.length_eq]; omega), (by rw [List.length_map]; omega), k40.1, k40.2, fun e he => ?_, fun h' es' H20 rc ho' pen20 bt20 => ?_⟩
        · obtain ⟨x, hx, rfl⟩ := List.mem_map.mp he
          exact ⟨HL, From.perm (ep x (pm3.mem_iff.mp hx)).2.2.2 pm1 pm2⟩
        · have lr := Paired.length rc
          rw [List.length_map] at lr
          refine q h' P1 G1 es' sz H20 ho' ⟨pm1.nodup_iff.mpr nPL, fun z => ?_, by rw [pm1.length_eq]; omega, fun y hy => bPL y (pm1.mem_iff.mp hy), fun z => ?_, by rw [pm2.length_eq]; omega, fun y hy => bGL y (pm2.mem_iff.mp hy), pm2.nodup_iff.mpr nGL, by omega, ?_, so1, fun e' he' => ?_⟩ sz30 (pen20.mono (by omega)) (((bt13.tr (.of sB)).tr (.of sl)).tr (bt19.tr bt20))
          · have := pm1.length_eq
            rw [z, List.length_nil] at this
            omega
          · have := pm2.length_eq
            rw [z, List.length_nil] at this
            omega
          · rw [rc_names rc, List.map_map]
            refine (pm3.map fun x => x.2.name).nodup_iff.mpr ?_
            rw [np]
            exact nw_nodup (o := 0) ok2 (by omega)
          · obtain ⟨e, he, re⟩ := rc_mem rc e' he'
            obtain ⟨x, hx, rfl⟩ := List.mem_map.mp he
            obtain ⟨_, i2, i3, i4⟩ := ep x (pm3.mem_iff.mp hx)
            refine ⟨?_, by rw [re.moment]; exact i2, by rw [re.moment]; exact i3, HL, bHL, re.from (From.perm i4 pm1 pm2)⟩
            have mn : x.2.name ∈ pr.map fun x => x.2.name := List.mem_map.mpr ⟨x, pm3.mem_iff.mp hx, rfl⟩
            rw [np] at mn
            obtain ⟨k, hk, ek⟩ := List.mem_map.mp mn
            have hk' := List.mem_range.mp hk
            rw [re.name, ← ek]
            by_cases z : 26 ≤ k
            · exact nw_name ok2 (by rw [if_pos z]; have := b4 (by omega); omega)
            · exact nw_name ok2 (by rw [if_neg z]; omega)
end
/-! ### the good of an entry -/
def Ent.goodV : Ent → V
  | .come _ _ g _ _ _ => .str g
  | .go _ _ g _ _ => .str g
  | .move _ _ g _ _ _ => .str g
  | .some_ _ _ g _ _ => .str g
  | .swap _ _ _ _ => .non
  | .count _ _ g _ _ _ => .str g
  | .look _ _ g _ => .str g
def spGood : Sp := fun vs H Q _ => ∃ (a : Addr) (e : Ent), vs = [.ref a] ∧ H a = some (.tup e.vals) ∧ Q e.goodV H
section
variable {P : Program} {w : World} {K : PySem.W.Frag} {mg : Str → Option Value} {base : Heap}
theorem scGood : FnScope ["entry"] ["entry"] (defScope sGood) := ⟨rfl, rfl, rfl, by decide +kernel, rfl, by decide +kernel, by decide +kernel⟩
theorem at3 {e : Ent} (h : e.goodV ≠ .non) : atI e.vals 3 = some e.goodV := by
  cases e <;> first | exact atI_nat (j := 3) rfl | exact absurd rfl h
theorem sw_word (e : Ent) : e.word = "swap" ↔ e.goodV = .non := by
  have k1 : ("come" : Str) ≠ "swap" := by decide +kernel
  have k2 : ("go" : Str) ≠ "swap" := by decide +kernel
  have k3 : ("move" : Str) ≠ "swap" := by decide +kernel
  have k4 : ("some" : Str) ≠ "swap" := by decide +kernel
  have k6 : ("count" : Str) ≠ "swap" := by decide +kernel
  have k7 : ("look" : Str) ≠ "swap" := by decide +kernel
  cases e
  · exact ⟨fun h => absurd h k1, fun h => nomatch h⟩
  · exact ⟨fun h => absurd h k2, fun h => nomatch h⟩
  · exact ⟨fun h => absurd h k3, fun h => nomatch h⟩
  · exact ⟨fun h => absurd h k4, fun h => nomatch h⟩
  · exact ⟨fun _ => rfl, fun _ => rfl⟩
  · exact ⟨fun h => absurd h k6, fun h => nomatch h⟩
  · exact ⟨fun h => absurd h k7, fun h => nomatch h⟩
theorem ok_good {f : Addr} {fd : FuncData} (F : Fun K "good_of" "good_of" sGood f fd) : FnOk P w K mg base CX0 1 f fd ["entry"] spGood := by
  refine F.ok scGood (fun vs H Q E h => ?_) (fun cdv A outer s H vs Q E hr h => ?_)
  · obtain ⟨a, e, rfl, _⟩ := h
    rfl
  · obtain ⟨a, e, rfl, ha, q⟩ := h
    refine ⟨_, pss_cons (ps_if (pt_cmpR op_eq (pe_ix ix_tup (pv 0) pe_int (fun _ _ => rfl)) pe_str (nomark _)) (pss_one (ps_ret pe_non)) pss_nil) (pss_one (ps_ret (pe_ix ix_tup (pv 0) pe_int (fun _ _ => rfl)))), ?_⟩
    refine ⟨_, rfl, a, _, 0, _, rfl, rfl, SqT.of ha, at0 e, rfl, _, rfl, ite2 (fun z => ?_) (fun z => ?_)⟩
    · have z' : e.word = "swap" := V.str.inj (of_decide_eq_true z)
      rw [(sw_word e).mp z'] at q
      exact q
    · have z' : e.goodV ≠ .non := fun h => z (decide_eq_true (congrArg V.str ((sw_word e).mpr h)))
      exact ⟨_, rfl, a, _, 3, _, rfl, rfl, SqT.of ha, at3 z', q⟩
end
theorem inV_iff {x : Str} {ys : List Str} : inV (.str x) (ys.map V.str) = decide (x ∈ ys) := by
  unfold inV
  rw [List.any_map]
  by_cases h : x ∈ ys
  · rw [decide_eq_true h]
    exact List.any_eq_true.mpr ⟨x, h, by show (x == x) = true; simp⟩
  · rw [decide_eq_false h, List.any_eq_false]
    intro y hy z
    have z' : (y == x) = true := z
    exact h (eq_of_beq z' ▸ hy)
theorem all_flat (ys : List Str) : (ys.map V.str).all flatV = true := by
  rw [List.all_map]
  exact List.all_eq_true.mpr fun y _ => rfl
theorem scal_good (e : Ent) (g : Str) : scal e.goodV (.str g) = true := by cases e <;> rfl
/-! ### sorted(..) of a list of data -/
theorem each_unmap {R : Value → PyData → Prop} {f : V × PyData → PyData} : ∀ {es : List (V × PyData)} {us : List Value}, PySem.W.EachIs R us (es.map f) → PySem.W.EachIs (fun v e => R v (f e)) us es
  | [], _, .nil => .nil
  | _ :: _, _, .cons a t => .cons a (each_unmap t)
theorem cr_sortD {X : Cx} (hu : X.A.units + 64 < cLine) : CallR X (.builtin "sorted") (fun vs H Q => ∃ (l : Addr) (es : List (V × PyData)), vs = [.ref l] ∧ SqL X.K H l (es.map (·.1)) ∧ DpAll X.K H (es.map (·.1)) (es.map (·.2)) ∧ PySem.W.AllAlike (es.map (·.2)) ∧ PySem.W.Sortable (es.map (·.2)) ∧
    (∀ e ∈ es, e.2.depth ≤ 60) ∧ ∀ p, H p = none → Q (.ref p) (upd H p (.lst ((keyed es).map (·.1))))) := by
  rintro pins s σ H vs us Q I r ⟨l, es, rfl, hs, dp, al, so, de, q⟩
  obtain rfl := Vals.ref1 r
  obtain ⟨its, rv, hl, hz⟩ := I.list hs
  have hlen : its.length = es.length := by rw [← rv.length, List.length_map]
  have hL : es.length ≤ sizeLine := by rw [← hlen, ← rv.length]; exact hz
  refine PySem.W.sorted_data (R := fun v (e : V × PyData) => RelV e.1 v) (enc := fun e : V × PyData => e.2) hl.isList (each_pairs rv) (each_unmap (each_dp I dp rv)) al so hL (fun b hb => ?_) fun out lo eo => ?_
  · have := de b hb
    omega
  · obtain ⟨c, hc⟩ := sortedAll_at s.heap its out.toArray
    have l2 : ((keyed es).map (·.1)).length ≤ sizeLine := by
      rw [List.length_map, List.length_mergeSort]
      exact hL
    exact ⟨.ref (s.heap.objs.size + 1), upd H (s.heap.objs.size + 1) (.lst ((keyed es).map (·.1))), I.laid (t' := s.toks) (fun b o => sortedAll_old) (Nat.le_succ _) ⟨l2, out, c, pairs_each eo, hc⟩, rfl, q _ (I.hok.fresh (Nat.le_succ _))⟩
/-! their text isn't long -/
theorem toString_neg (i : Int) (h : i < 0) : (toString i).length ≤ (toString (-i)).length + 1 := by
  obtain ⟨n, rfl⟩ : ∃ n : Nat, i = -((n + 1 : Nat) : Int) := ⟨(-i).toNat - 1, by omega⟩
  rw [Int.neg_neg]
  show ("-" ++ toString (n + 1)).length ≤ (toString (n + 1)).length + 1
  rw [String.length_append]
  have : ("-" : String).length = 1 := rfl
  omega
theorem short_big {i : Int} (h0 : -100000000000 < i) (h1 : i < 100000000000) : Short (.int i) 8 0 := by
  have e : (PyData.shown (.int i)).length ≤ 13 := by
    by_cases z : 0 ≤ i
    · exact Nat.le_trans (toString_length_le z (k := 11) (by decide) (by omega)) (by decide)
    · show (Str.ofString (toString i)).length ≤ 13
      have h := toString_length_le (v := -i) (by omega) (k := 11) (by decide) (by omega)
      rw [PySem.ofString_length] at h ⊢
      have := toString_neg i (by omega)
      omega
  refine ⟨?_, rfl, decide_eq_true e, Nat.zero_le _, Nat.zero_le _⟩
  show decide (i.natAbs.log2 < 1920) = true
  refine decide_eq_true ?_
  by_cases z : i.natAbs = 0
  · rw [z]
    decide
  · exact Nat.lt_trans ((Nat.log2_lt z).mpr (show i.natAbs < 2 ^ 40 by omega)) (by decide)
theorem short_lst {n k m : Nat} {ds : List PyData} (h : ∀ d ∈ ds, Short d n k) (l : ds.length * (n + 1) ≤ m) : Short (.list ds) m (k + 1) := by
  obtain ⟨a1, a2, a3, a4, a5⟩ := short_all h
  refine ⟨?_, ?_, ?_, ?_, ?_⟩
  · rw [PyData.showable]; exact a1
  · rw [PyData.hasDict]; exact a2
  · rw [PyData.leavesShort]; exact a3
  · rw [PyData.bulk]; omega
  · rw [PyData.depth]; omega
theorem Short.fits2 {d : PyData} {n k : Nat} (h : Short d n k) (hn : n ≤ 400000) : d.shown.length ≤ sizeLine := by
  have q := PyData.shown_le_bulk 13 (by decide) d h.ls
  have := h.bk
  rw [sizeLine_eq]
  omega
/-- a walk with any body -/
theorem walk_any {J : It} {n : Nat} {G : Hp → Prop} {Y : Nat → Hp → V → Hp → Prop} (w : Walk J n G Y) {B : (Hp → Prop) → V → Hp → Prop} {H1 : Hp} {Qd : Hp → Prop} (Pv : Nat → Hp → Prop) (h0 : Pv 0 H1) (hG : ∀ i H, i ≤ n → Pv i H → G H)
    (hs : ∀ i x H H', i < n → Pv i H → Y i H x H' → B (Pv (i + 1)) x H') (hd : ∀ H, Pv n H → Qd H) :
    ∃ W : Nat → Nat → Hp → Prop, (∃ m, W 0 m H1) ∧ ∀ i m H, W i m H → (J.stop i H ∧ Qd H) ∨ (J.go i H ∧ ∃ Nx : Hp → Prop, (∀ H', Nx H' → ∃ m', m' < m ∧ W (i + 1) m' H') ∧ ∀ x H', J.yld i H x H' → B Nx x H') := by
  refine ⟨fun i m H => m = n - i ∧ i ≤ n ∧ Pv i H, ⟨n, (Nat.sub_zero n).symm, Nat.zero_le _, h0⟩, fun i m H h => ?_⟩
  obtain ⟨rfl, hi, p⟩ := h
  rcases Nat.lt_or_ge i n with lt | ge
  · exact .inr ⟨w.goes i H lt (hG i H hi p), Pv (i + 1), fun H' p' => ⟨n - (i + 1), by omega, rfl, lt, p'⟩, fun x H' y => hs i x H H' lt p (w.yields i H x H' lt (hG i H hi p) y)⟩
  · obtain rfl : i = n := Nat.le_antisymm hi ge
    exact .inl ⟨w.stops H (hG i H hi p), hd H p⟩
/-! ### generator expressions whose parts may call: the generator's own frame as a context -/
abbrev gxc (X : Cx) (A' : Around) (s : Shared) (H : Hp) (ce : Env) (fp : List Addr) : Cx :=
  { X with A := A', s_0 := s, H_0 := H, env := ce, outer := X.stack, stack := ce :: X.stack, ex := fp, fn := fun _ => false, calm := true, pn := [], xe := fun _ _ => False }
abbrev genE (X : Cx) (scope : Scope) (C : Addr) (code : Value) : Env := genEnv scope (cloFrom X.env.cells scope.names []) C code builtinsNs X.env
structure GOk (N : List Str) (sc scope : Scope) (own : List (Str × Nat)) : Prop where
  blk : BlkOk N sc scope own
  co : scope.isCoroutine = false
  cell : ∀ y ∈ scope.names, y.2 ≠ .cell
  dot : scope.names.lookup (".0" : Str) = some NameKind.local
section
variable {X : Cx} {pins : List (Addr × Obj)} {σ : L2.St} {H : Hp} {s : Shared}
theorem gx_free {N : List Str} {scope : Scope} {own : List (Str × Nat)} (I : Inv X pins σ H s) (ok : GOk N X.env.scope scope own) : ∀ y ∈ scope.names, y.2 = .free → ∃ c, X.env.cells.lookup y.1 = some c := fun y hy e => by
  rcases ok.blk.free y hy e with k | k
  · exact I.ok.has _ (.inl k)
  · exact I.ok.has _ (.inr k)
/-- the generator's frame and the generator itself have come -/
theorem gx_start {scope : Scope} {own : List (Str × Nat)} {fp : List Addr} {A' : Around} {code it : Value} {h' : Heap} {oG : Obj} {g' : Array GenState} {t' : Nat} (I : Inv X pins σ H s) (ok : GOk X.N X.env.scope scope own) (hN : X.N.Nodup)
    (hfp : ∀ b ∈ fp, FpOk X pins H b ∧ b < s.heap.objs.size) (hA : A'.handled = none) (hfr : A'.frames = some (genE X scope s.heap.objs.size code :: X.stack))
    (hn : h'.Ns s.heap.objs.size (fun y => if y = ".0" then some it else none)) (hs : Heap.SameBut s.heap.objs.size (s.heap.push { cls := .type "frame", data := .dict #[] }) h')
    (hG : ∀ v, oG.data ≠ .cell v) (hb : AllBare g') (fG : oG.isFreed = false) :
    Inv (gxc X A' s H (genE X scope s.heap.objs.size code) fp) [(h'.objs.size, oG)] (wipe σ (own.map (·.2))) H { s with gens := g', toks := t', heap := h'.push oG } := by
  have sz : h'.objs.size = s.heap.objs.size + 1 := by rw [hs.1, Heap.size_push]
  have k1 : ∀ b o, s.heap.get? b = some o → h'.get? b = some o := fun b o e => hs.extBut b o (Nat.ne_of_lt (Heap.lt_size e)) (Heap.get?_push_of_some _ e)
  have kp : ∀ b o, s.heap.get? b = some o → (h'.push oG).get? b = some o := fun b o e => Heap.get?_push_of_some _ (k1 b o e)
  have fr := gx_free I ok
  have cm : ∀ {y c}, (cloFrom X.env.cells scope.names []).lookup y = some c → X.env.cells.lookup y = some c ∧ c < s.heap.objs.size ∧ (y, NameKind.free) ∈ scope.names := fun {y c} e => by
    rcases cloFrom_mem (PySem.mem_of_lookup e) with hm | ⟨h1, rfl⟩
    · cases hm
    · obtain ⟨c, hc⟩ := fr _ h1 rfl
      rw [hc]
      obtain ⟨w, z⟩ := I.cell _ _ hc
      exact ⟨rfl, z.lt, h1⟩
  have has : ∀ {y}, (y, NameKind.free) ∈ scope.names → ∃ c, (cloFrom X.env.cells scope.names []).lookup y = some c := fun {y} hy => mem_lookup (cloFrom_has (cells := X.env.cells) (acc := []) hy)
  have uq : ∀ {y k}, (y, k) ∈ scope.names → scope.names.lookup y = some k := fun {y k} h => ok.blk.uniq _ h
  have okG : (gxc X A' s H (genE X scope s.heap.objs.size code) fp).Ok := by
    refine ⟨I.ok.mod, ok.blk.kind, I.ok.glob, rfl, Nat.le_refl _, fun y z c e1 e2 => I.ok.inj y z c (cm e1).1 (cm e2).1, fun y hy => ?_, fun y c z _ => (nomatch z), fun _ => hA, hfr, .inr ⟨rfl, rfl⟩,
      fun b hb => ⟨Nat.ne_of_lt (hfp b hb).2, fun y c e z => (hfp b hb).1.2.2.2.2.1 y c (cm e).1 z⟩, I.bs, Nat.le_trans I.ok.bsz I.sz, fun b o e hb => ?_, fun b hb z => ?_, I.stack, I.stkFree⟩
    · rcases hy with hy | hy
      · exact absurd rfl (ok.cell _ (PySem.mem_of_lookup (show scope.names.lookup y = some .cell from hy)))
      · exact has (PySem.mem_of_lookup (show scope.names.lookup y = some .free from hy))
    · rcases (hfp b hb).1.2.2.2.1 with z | z
      · exact I.ok.noex b o e z
      · exact absurd (Nat.lt_of_lt_of_le (Heap.lt_size e) (Nat.le_trans I.ok.bsz z)) (Nat.lt_irrefl _)
    · rcases List.mem_cons.mp (I.stkSub b z) with z | z
      · exact (hfp b hb).1.2.1 z
      · exact (hfp b hb).1.2.2.1 z
  refine ⟨okG, rfl, hb, Un.kept kp, ⟨_, hn.push oG, fun i y v e1 e2 e3 => ?_⟩, fun y c e => ?_, I.hok.fresh (Nat.le_refl _), fun y c e => I.freeC y c (cm e).1, fun p hp => ?_, I.hok.kept kp, by rw [wipe_length]; exact I.len⟩
  · obtain ⟨e2, hne⟩ := wipe_some e2
    have key : scope.names.lookup y = some .free := by
      have no : ∀ k, scope.names.lookup y = some k → ¬ (k = .local ∨ k = .cell) := fun k hk hh => by
        rcases ok.blk.own _ (PySem.mem_of_lookup hk) hh with e' | e'
        · obtain ⟨p, hp, hpy⟩ := List.mem_map.mp e'
          have e4 := ok.blk.ix p hp
          have : p.1 = y := hpy
          rw [this] at e4
          exact hne (List.mem_map.mpr ⟨p, hp, nodup_ix hN e4 e1⟩)
        · exact e' (List.mem_of_getElem? e1)
      rcases (show Vis scope y from e3) with e3 | e3 | e3
      · exact absurd (.inl rfl) (no _ e3)
      · exact absurd (.inr rfl) (no _ e3)
      · exact e3
    obtain ⟨m, _, hl⟩ := I.loc
    have fy := PySem.mem_of_lookup key
    have hvis : Vis X.env.scope y := (ok.blk.free _ fy rfl).elim (fun k => .inr (.inl k)) (fun k => .inr (.inr k))
    obtain ⟨u, r, q⟩ := hl i y v e1 e2 hvis
    refine ⟨u, r, .inr ⟨.inr key, ?_⟩⟩
    obtain ⟨c, h1⟩ := has fy
    rcases q with ⟨k, _⟩ | ⟨_, c', e', z⟩
    · have k : X.env.scope.names.lookup y = some .local := k
      rcases ok.blk.free _ fy rfl with k' | k' <;> rw [show X.env.scope.names.lookup y = _ from k'] at k <;> cases k
    · have h2 := (cm h1).1
      rw [h2] at e'
      cases e'
      exact ⟨c, h1, z.keeps kp⟩
  · obtain ⟨v, z⟩ := I.cell y c (cm e).1
    exact ⟨v, z.keeps kp⟩
  · have hp' : p = (h'.objs.size, oG) := by simpa using hp
    subst hp'
    have nl : s.heap.objs.size ≤ h'.objs.size := by omega
    refine ⟨Heap.get?_push_size _ fG, I.hok.fresh nl, by show h'.objs.size ≠ s.heap.objs.size; omega, fun z => ?_, hG⟩
    rcases List.mem_cons.mp (I.stkSub _ z) with z | z
    · have := I.lt
      rw [← z] at this
      exact Nat.lt_irrefl _ (Nat.lt_of_lt_of_le this nl)
    · exact I.nofs nl z
end
/-! ### the generator's turns -/
abbrev gxl (X : Cx) (Ag : Around) (elt tg iter : Expr) (ifs : List Expr) (scope : Scope) (gpos : Pos) (it : Addr) (ce : Env) (s3 : Shared) (H3 : Hp) (fp : List Addr) : Cx :=
  gxc X (Ag.over (.compLoop (.GeneratorExp elt [⟨tg, iter, ifs, 0⟩] scope gpos) 0 (.ref it) .none ce) []) s3 H3 ce fp
/-- what stands between two turns: at most m turns are left, the i-th is next -/
def GTurns (J : It) (g : TG) (tt : TT) (te : TE) (vs : List Nat) (σ : L2.St) (W : Nat → Nat → Hp → Prop) (Out : Nat → Nat → V → Hp → Prop) (Fin : Hp → Prop) : Prop :=
  ∀ i m H, W i m H → (J.stop i H ∧ Fin H) ∨ (J.go i H ∧ ∀ x H', J.yld i H x H' → g x (wipe σ vs) H' fun σ2 H2 => wipe σ2 vs = wipe σ vs ∧ tt σ2 H2 fun b H3 =>
    if b = true then te σ2 H3 fun y H4 => Out i m y H4 else ∃ m', m' < m ∧ W (i + 1) m' H3)
def gxY (IG : Hp → Shared → Prop) (tn : Nat → Heap → Prop) (fp : List Addr) (W : Nat → Nat → Hp → Prop) (Out : Nat → Nat → V → Hp → Prop) (gn : Nat) : Protocol := fun n _ v s kap =>
  ∃ i m y H, RelV y v ∧ IG H s ∧ tn (i + 1) s.heap ∧ (∀ b ∈ fp, H b = none) ∧ Out i m y H ∧ gn < s.gens.size ∧ m ≤ n ∧
    ∀ m', m' < m → W (i + 1) m' H → ∀ s'' : Shared, IG H s'' → tn (i + 1) s''.heap → gn < s''.gens.size → kap (.send .none) s''
def gxR (IG : Hp → Shared → Prop) (Fin : Hp → Prop) : Nat → Shared → Shared → Prop := fun _ _ s1 => ∃ H, IG H s1 ∧ Fin H
section
variable {X : Cx} {σ : L2.St} {Ag : Around} {tg elt iter : Expr} {ifs : List Expr} {scope : Scope} {gpos : Pos} {it a : Addr} {oG : Obj} {ce : Env} {fp : List Addr} {s3 : Shared} {H3 : Hp} {tn : Nat → Heap → Prop} {J : It} {vs : List Nat} {gn : Nat}
  {g : TG} {tt : TT} {te : TE} {W : Nat → Nat → Hp → Prop} {Out : Nat → Nat → V → Hp → Prop} {Fin : Hp → Prop}
theorem gx_stat {σ' : L2.St} {H' : Hp} {s' : Shared} {A' : Around} (I' : Inv (gxc X A' s3 H3 ce fp) [(a, oG)] σ' H' s') (na : a ∉ fp) (hn : ∀ b ∈ fp, H' b = none) : ∀ b ∈ fp, FpOk (gxc X A' s3 H3 ce fp) [(a, oG)] H' b := fun b hb => by
  refine ⟨hn b hb, (I'.ok.exf b hb).1, I'.ok.exfs b hb, .inl hb, fun x c e => (I'.ok.exf b hb).2 x c e, fun p hp z => ?_⟩
  have hp' : p = (a, oG) := by simpa using hp
  subst hp'
  have z' : a = b := z
  exact na (z' ▸ hb)
theorem gx_seg (T : Turn X.prog X.w X.K tg J fp it tn) (na : a ∉ fp) (hco : ce.scope.isCoroutine = false)
    (pg : PG (gxl X Ag elt tg iter ifs scope gpos it ce s3 H3 fp) tg g)
    (pt : PTs (gxl X Ag elt tg iter ifs scope gpos it ce s3 H3 fp) ifs tt)
    (pe : PE (gxl X Ag elt tg iter ifs scope gpos it ce s3 H3 fp) elt te)
    (turn : GTurns J g tt te vs σ W Out Fin) (IG : Hp → Shared → Prop)
    (hIG : IG = fun H s => Inv (gxl X Ag elt tg iter ifs scope gpos it ce s3 H3 fp) [(a, oG)] (wipe σ vs) H s) :
    ∀ (m n i : Nat) (H : Hp) (s s0 : Shared), m < n → IG H s → tn i s.heap → (∀ b ∈ fp, H b = none) → W i m H → gn < s.gens.size →
      Seg (model X.prog X.w) Ag (fun n s0 r s1 => r = .ok .next ∧ gxR IG Fin n s0 s1) (gxY IG tn fp W Out gn) n s0
        (.compLoop (.GeneratorExp elt [⟨tg, iter, ifs, 0⟩] scope gpos) 0 (.ref it) .none ce)
        ((model X.prog X.w).den (.compLoop (.GeneratorExp elt [⟨tg, iter, ifs, 0⟩] scope gpos) 0 (.ref it) .none ce)) [] s := by
  intro m
  induction m using Nat.strongRecOn with
  | ind m ih =>
  intro n i H s s0 hmn I0 st n0 w0 hg
  have I : Inv (gxl X Ag elt tg iter ifs scope gpos it ce s3 H3 fp) [(a, oG)] (wipe σ vs) H s := by
    rw [hIG] at I0
    exact I0
  show Seg _ Ag _ _ _ s0 _ ((compTurn (.GeneratorExp elt [⟨tg, iter, ifs, 0⟩] scope gpos) 0 (.ref it) .none ce).onRaise (leaving ce)) [] s
  rw [compTurn_gen, Sem.onRaise_eq_wrap]
  refine seg_bind_wrap (wpAny_standAt ?_)
  rcases turn i m H w0 with ⟨stop, fin⟩ | ⟨go, step⟩
  · refine seg_bind_wrap (thnF (T.done (gxl X Ag elt tg iter ifs scope gpos it ce s3 H3 fp) rfl rfl rfl rfl i [(a, oG)] s _ H (fun _ _ => False) I (gx_stat I na n0) st stop) fun r s6 ⟨hr, I6⟩ => ?_)
    subst hr
    exact seg_end (.ok .next) ⟨rfl, H, by rw [hIG]; exact I6, fin⟩
  · refine seg_bind_wrap (GenW.wpAny_gsz hg (thnF (T.item (gxl X Ag elt tg iter ifs scope gpos it ce s3 H3 fp) rfl rfl rfl rfl i [(a, oG)] s _ H (fun _ _ => False) I (gx_stat I na n0) st go) fun r s6 ⟨u, hr, h6⟩ hg6 => ?_))
    subst hr
    refine seg_bind_wrap (GenW.wpAny_gsz hg6 (thnF h6 fun _ s7 ⟨x, H7, I7, r7, y7, st7, n7⟩ hg7 => ?_))
    have I7' := I7.pinned (gx_stat I7 na n7) (T.obj _ _ st7)
    refine seg_bind_wrap (GenW.wpAny_gsz hg7 (thnF (pg.run _ s7 _ H7 x u _ I7' r7 (step x H7 y7)) fun _ s8 ⟨σ8, H8, I8, hw8, q8⟩ hg8 => ?_))
    refine seg_bind_wrap (GenW.wpAny_gsz hg8 (thnF (pt.run _ s8 σ8 H8 _ I8 q8) fun b s9 ⟨H9, I9, q9⟩ hg9 => ?_))
    have hl : (wipe σ vs).length = σ8.length := by rw [← hw8, wipe_length]
    have back : ∀ {s' : Shared} {H' : Hp}, Inv (gxl X Ag elt tg iter ifs scope gpos it ce s3 H3 fp) ([(a, oG)] ++ pinsAt fp s7.heap) σ8 H' s' →
        IG H' s' ∧ tn (i + 1) s'.heap ∧ ∀ b ∈ fp, H' b = none := fun {s' H'} I' => by
      have pin' : ∀ b ∈ fp, ∀ o, s7.heap.get? b = some o → s'.heap.get? b = some o ∧ H' b = none := fun b hb o e =>
        let z := I'.pin (b, o) (List.mem_append_right _ (List.mem_append_right _ (mem_pinsAt hb e)))
        ⟨z.1, z.2.1⟩
      refine ⟨?_, T.keep _ _ _ st7 fun b hb o e => (pin' b hb o e).1, fun b hb => ?_⟩
      · rw [hIG]
        refine I'.unpinned.weak hl fun j v e => ?_
        rw [← hw8] at e
        exact (wipe_some e).1
      · obtain ⟨o, e, _⟩ := T.obj _ _ st7 b hb
        exact (pin' b hb o e).2
    cases b with
    | false =>
      simp only [Bool.false_eq_true, if_false] at q9 ⊢
      obtain ⟨m', hm, w'⟩ := q9
      obtain ⟨b1, b2, b3⟩ := back I9
      exact seg_again rfl (ih m' hm n (i + 1) H9 s9 s0 (Nat.lt_trans hm hmn) b1 b2 b3 w' hg9)
    | true =>
      simp only [if_true] at q9 ⊢
      have hy : ∀ v, yieldOut ce v = yieldValue v := fun v => by simp only [yieldOut, hco, Bool.false_eq_true, if_false]
      simp only [hy]
      rw [Sem.bind_eq_wrap', Sem.bind_eq_wrap', Sem.wrap_wrap, Sem.wrap_wrap]
      obtain ⟨n', rfl⟩ : ∃ n', n = n' + 1 := ⟨n - 1, by omega⟩
      refine seg_wrap (GenW.wpAny_gsz hg9 (thnF (pe.run _ s9 σ8 H9 _ I9 q9) fun z s10 ⟨yv, H10, I10, r10, out⟩ hg10 => ?_))
      obtain ⟨b1, b2, b3⟩ := back I10
      refine seg_at (seg_yield rfl rfl rfl ⟨i, m, yv, H10, r10, b1, b2, b3, out, hg10, by omega, fun m' hm w' s'' I'' st'' hg'' => ?_⟩)
      exact seg_again rfl (ih m' hm n' (i + 1) H10 s'' s'' (by omega) I'' st'' b3 w' hg'')
theorem gx_seg0 (T : Turn X.prog X.w X.K tg J fp it tn) {n : Nat} {s0 s : Shared} {R : GenEnd} {Y : Protocol} (st : tn 0 s.heap)
    (loop : Seg (model X.prog X.w) Ag R Y n s0 (.compLoop (.GeneratorExp elt [⟨tg, iter, ifs, 0⟩] scope gpos) 0 (.ref it) .none ce)
        ((model X.prog X.w).den (.compLoop (.GeneratorExp elt [⟨tg, iter, ifs, 0⟩] scope gpos) 0 (.ref it) .none ce)) [] s) :
    Seg (model X.prog X.w) Ag R Y n s0 (.compStart (.GeneratorExp elt [⟨tg, iter, ifs, 0⟩] scope gpos) 0 (.ref it) .none ce)
      ((model X.prog X.w).den (.compStart (.GeneratorExp elt [⟨tg, iter, ifs, 0⟩] scope gpos) 0 (.ref it) .none ce)) [] s := by
  show Seg _ Ag _ _ _ s0 _ ((compStart (.GeneratorExp elt [⟨tg, iter, ifs, 0⟩] scope gpos) 0 (.ref it) .none ce).onRaise (leaving ce)) [] s
  unfold compStart
  rw [Sem.onRaise_eq_wrap]
  show Seg _ Ag _ _ _ s0 _ ((ask >>= _).wrap _ _ _ _) [] s
  refine seg_bind_wrap (wpAny_askSetting ?_)
  split
  · exact seg_again rfl loop
  · refine seg_bind_wrap (wpAny_rule ?_)
    show Seg _ Ag _ _ _ s0 _ ((standAt iter.pos >>= _).wrap _ _ _ _) [] s
    exact seg_bind_wrap (wpAny_standAt (seg_bind_wrap (T.self _ 0 s _ _ st (seg_again rfl loop))))
end
/-! ### the generator asked for its next -/
structure IGok (X : Cx) (pins : List (Addr × Obj)) (σ : L2.St) (a : Addr) (gn : Nat) (IG : Hp → Shared → Prop) : Prop where
  bare : ∀ {H s}, IG H s → AllBare s.gens
  gens : ∀ {H s g'}, IG H s → AllBare g' → IG H { s with gens := g' }
  kept : ∀ {H : Hp} {s : Shared} {h' : Heap} {tk : Nat}, IG H s → (∀ b o, s.heap.get? b = some o → h'.get? b = some o) → IG H { s with heap := h', toks := tk }
  isgen : ∀ {H s}, IG H s → s.heap.IsGen a gn
  nolim : ∀ {H s}, IG H s → s.heap.NoLimit
  back : ∀ {H s}, IG H s → Inv X pins σ H s
def GRun (X : Cx) (Ac : Around) (IG : Hp → Shared → Prop) (tn : Nat → Heap → Prop) (fp : List Addr) (W : Nat → Nat → Hp → Prop) (Out : Nat → Nat → V → Hp → Prop) (Fin : Hp → Prop) (gn i m n : Nat) (H : Hp) (s : Shared) : Prop :=
  IG H s ∧ tn i s.heap ∧ (∀ b ∈ fp, H b = none) ∧ W i m H ∧ ∃ gs, s.gens[gn]? = some gs ∧ m < n ∧ ∀ s'' : Shared, IG H s'' → tn i s''.heap → gn < s''.gens.size →
    gs.Goes (model X.prog X.w) Ac.in1 (fun n s0 r s1 => r = .ok .next ∧ gxR IG Fin n s0 s1) (gxY IG tn fp W Out gn) n (.send .none) s''
theorem bare_set {s : Shared} {gn : Nat} {x : GenState} (h : AllBare s.gens) (hx : x.bare = true) : AllBare (s.setGen gn x).gens := by
  intro y hy
  have hy' : y ∈ s.gens.setIfInBounds gn x := hy
  rcases Array.mem_or_eq_of_mem_setIfInBounds hy' with h1 | h1
  · exact h y h1
  · rw [h1]; exact hx
section
variable {X : Cx} {pins : List (Addr × Obj)} {σ : L2.St} {Ac : Around} {IG : Hp → Shared → Prop} {tn : Nat → Heap → Prop} {fp : List Addr} {W : Nat → Nat → Hp → Prop} {Out : Nat → Nat → V → Hp → Prop} {Fin : Hp → Prop} {a : Addr} {gn : Nat}
theorem GRun.lt {i m n : Nat} {H : Hp} {s : Shared} (G : GRun X Ac IG tn fp W Out Fin gn i m n H s) : gn < s.gens.size := by
  obtain ⟨_, _, _, _, gs, h, _⟩ := G
  exact (Array.getElem?_eq_some_iff.mp h).1
/-- what a consumer lays beside it changes nothing -/
theorem GRun.kept (ig : IGok X pins σ a gn IG) (hk : ∀ i h h', tn i h → (∀ b o, h.get? b = some o → h'.get? b = some o) → tn i h') {i m n : Nat} {H : Hp} {s : Shared} {h' : Heap} {tk : Nat} (G : GRun X Ac IG tn fp W Out Fin gn i m n H s)
    (k : ∀ b o, s.heap.get? b = some o → h'.get? b = some o) : GRun X Ac IG tn fp W Out Fin gn i m n H { s with heap := h', toks := tk } := by
  obtain ⟨g1, g2, g3, g4, gs, g5, g6, g7⟩ := G
  exact ⟨ig.kept g1 k, hk _ _ _ g2 k, g3, g4, gs, g5, g6, g7⟩
theorem gx_next {E : Value → Shared → Prop} {Q : Option Value → Shared → Prop} {i m n : Nat} {H : Hp} {s : Shared} (ig : IGok X pins σ a gn IG) (hA : Ac.handled = none) (hd : Ac.depth < recursionLimit) (G : GRun X Ac IG tn fp W Out Fin gn i m n H s)
    (hout : ∀ v y H' s' i' m', RelV y v → Out i' m' y H' → IG H' s' → (∀ m'', m'' < m' → W (i' + 1) m'' H' → GRun X Ac IG tn fp W Out Fin gn (i' + 1) m'' (n - 1) H' s') → Q (some v) s')
    (hfin : ∀ H' s', Fin H' → IG H' s' → Q none s') : wpAny (model X.prog X.w) Ac (pyNext (.ref a)) Q E s := by
  have lt := G.lt
  obtain ⟨g1, g2, g3, g4, gs, g5, g6, g7⟩ := G
  have run : IG H (s.setGen gn .running) := ig.gens g1 (bare_set (ig.bare g1) rfl)
  refine wpAny_pyNext_genexpQ (P := gxR IG Fin) hA (ig.nolim g1) hd (ig.isgen g1) g5 (g7 _ run g2 (by rw [GenW.setGen_size]; exact lt)) (fun v s1 gs' hb hv => ?_) fun s1 hp h' hk => ?_
  · obtain ⟨i', m', y, H', r, I1, st1, nf, out, hg1, hmn, kap⟩ := hv
    have I2 : IG H' (s1.setGen gn gs') := ig.gens I1 (bare_set (ig.bare I1) hb)
    refine hout v y H' _ i' m' r out I2 fun m'' hm w' => ⟨I2, st1, nf, w', gs', ?_, by omega, fun s'' J'' st'' hg'' => ?_⟩
    · show (s1.gens.setIfInBounds gn gs')[gn]? = some gs'
      rw [Array.getElem?_setIfInBounds_self_of_lt hg1]
    · have q := kap m'' hm w' s'' J'' st'' hg''
      cases n with
      | zero => exact q.elim
      | succ n => exact q
  · obtain ⟨H', I1, fin⟩ := hp
    exact hfin H' _ fin (ig.kept (tk := (s1.setGen gn .finished).toks) (ig.gens I1 (bare_set (ig.bare I1) rfl)) hk)
end
/-! ### the generator made -/
section
variable {X : Cx} {pins : List (Addr × Obj)} {σ : L2.St} {H : Hp} {s : Shared}
theorem over_gen {Ag : Around} {stack : List Env} {elt tg iter : Expr} {ifs : List Expr} {scope : Scope} {gpos : Pos} {it : Value} {ce : Env} (hf : Ag.frames = some stack) :
    (Ag.over (.compLoop (.GeneratorExp elt [⟨tg, iter, ifs, 0⟩] scope gpos) 0 it .none ce) []).frames = some (ce :: stack) := by
  show pushEnvs [ce] (pushEnvs [] Ag.frames) = _
  rw [hf]
  rfl
theorem room_gen {Ag : Around} {k : Nat} {elt tg iter : Expr} {ifs : List Expr} {scope : Scope} {gpos : Pos} {it : Value} {ce : Env} (h1 : Ag.handled = none) (h2 : Ag.depth + 1 + 3 * k + 5 < recursionLimit) (h3 : Ag.units + 3 + 16 * k + 200 < cLine) :
    Room k (Ag.over (.compLoop (.GeneratorExp elt [⟨tg, iter, ifs, 0⟩] scope gpos) 0 it .none ce) []) := by
  refine ⟨h1, ?_, ?_⟩
  · show Ag.depth + 0 + 1 + 3 * k + 5 < _
    omega
  · show Ag.units + 0 + 3 + 16 * k + 200 < _
    omega
/-- a generator expression is made; Ac: where it will be asked -/
theorem gx_mk {c T : Addr} {elt tg iter : Expr} {ifs : List Expr} {scope : Scope} {own : List (Str × Nat)} {gpos : Pos} {wi : TI} {g : TG} {tt : TT} {te : TE} {k : Nat} {Q' : Value → Shared → Prop} {Outf : (Nat → Nat → Hp → Prop) → Nat → Nat → V → Hp → Prop} {Fin : Hp → Prop}
    (Ac : Around) (hA : Ac.handled = none) (hfr : Ac.frames = some X.stack) (hd : Ac.depth ≤ X.A.depth) (hu : Ac.units ≤ X.A.units + 8) (hr : Room (k + 1) X.A) (hc : X.calm = true) (hN : X.N.Nodup) (TB : GxR.TabB X.base X.mg c T) (hcode : X.env.code = .ref c) (ok : GOk X.N X.env.scope scope own) (hi : PI X tg iter wi)
    (hg : ∀ (A' : Around) (s3 : Shared) (H3 : Hp) (C : Addr) (code : Value) (fp : List Addr), PG (gxc X A' s3 H3 (genE X scope C code) fp) tg g)
    (ht : ∀ (A' : Around) (s3 : Shared) (H3 : Hp) (C : Addr) (code : Value) (fp : List Addr), Room k A' → PTs (gxc X A' s3 H3 (genE X scope C code) fp) ifs tt)
    (he : ∀ (A' : Around) (s3 : Shared) (H3 : Hp) (C : Addr) (code : Value) (fp : List Addr), Room k A' → PE (gxc X A' s3 H3 (genE X scope C code) fp) elt te)
    (hs : ∀ v, genFold iter X.env v = pure v) (I : Inv X pins σ H s)
    (h : wi σ H fun J H1 => GxR.TabG H1 T ∧ ∀ H2, GxR.Tabbed T H1 H2 → ∃ W, (∃ m, W 0 m H2) ∧ GTurns J g tt te (own.map (·.2)) σ W (Outf W) Fin)
    (hQ : ∀ (IG : Hp → Shared → Prop) (tn : Nat → Heap → Prop) (fp : List Addr) W (a : Addr) (gn m : Nat) (H2 : Hp) (s5 : Shared), IGok X pins σ a gn IG → (∀ i h h', tn i h → (∀ b o, h.get? b = some o → h'.get? b = some o) → tn i h') →
      GRun X Ac IG tn fp W (Outf W) Fin gn 0 m (m + 1) H2 s5 → Q' (.ref a) s5) :
    wpAny (model X.prog X.w) X.A (eval (.GeneratorExp elt [⟨tg, iter, ifs, 0⟩] scope gpos) X.env) Q' X.xe s := by
  have free := gx_free I ok
  refine wpAny_GeneratorExp_make ok.co (closure_ok free) ok.cell ok.dot ok.blk.kind (Nat.lt_of_le_of_lt (by omega : X.A.depth ≤ X.A.depth + 3 * (k + 1) + 5) hr.dp) ?_ hs
  refine thn (hi.run pins s σ H _ I h) fun xv s1 h1 => thn h1 fun itv s2 h2 => ?_
  obtain ⟨it, fp, tn, J, H1, rfl, J1, TU, st2, f2, ⟨ps, hT, hok⟩, q⟩ := h2
  have gT : s2.heap.get? T = some (PySem.W.tabObj ps) := J1.hok T _ hT
  have cd : PySem.W.CodeHd s2.heap c T := TB.code.keeps J1.bk
  refine ⟨J1.nolimit, ?_⟩
  have lts : ∀ b ∈ fp, b < s2.heap.objs.size := fun b hb => by
    obtain ⟨o, e, _⟩ := TU.obj _ _ st2 b hb
    exact Heap.lt_size e
  have nfT : ∀ b ∈ fp, b ≠ T := fun b hb z => by
    have := (f2 b hb).1
    rw [z, hT] at this
    cases this
  -- behind the code object
  have on : ∀ (code : Value) (h3 : Heap) (tk : Nat) (more : Array Value), Heap.ExtBut T s2.heap h3 → s2.heap.objs.size ≤ h3.objs.size → h3.get? T = some (PySem.W.tabObj (ps ++ more)) → TriplesOk (ps ++ more).toList →
      wpAny (model X.prog X.w) X.A (builtinsFor X.env.globals X.env.builtins) (fun bi s4 =>
        ∀ h', h'.Ns s4.heap.objs.size (fun y => if y = ".0" then some (.ref it) else none) → Heap.SameBut s4.heap.objs.size (s4.heap.push { cls := .type "frame", data := .dict #[] }) h' →
          Q' (.ref h'.objs.size) { s4 with
            gens := s4.gens.push (.fresh (.compStart (.GeneratorExp elt [⟨tg, iter, ifs, 0⟩] scope gpos) 0 (.ref it) .none (genEnv scope (cloFrom X.env.cells scope.names []) s4.heap.objs.size code bi X.env))),
            toks := s4.toks + 1 + 1 + 1,
            heap := h'.push { cls := .type "generator", data := .fields #[.int s4.gens.size 0, .str "<genexpr>" (s4.toks + 1), .str (X.env.qual ++ "<genexpr>") (s4.toks + 1 + 1)] } }) X.xe { s2 with heap := h3, toks := tk } := by
    intro code h3 tk more ext ge3 gT3 ok3
    have J3 : Inv X pins σ (upd H1 T (.tbl (ps ++ more))) { s2 with heap := h3, toks := tk } := GxR.inv_tab (g' := s2.gens) (d' := s2.drawn) J1 hT ext gT3 J1.bare
    have tb : GxR.Tabbed T H1 (upd H1 T (.tbl (ps ++ more))) := ⟨⟨_, upd_same, ok3⟩, fun b nb => upd_ne nb⟩
    obtain ⟨W, ⟨m0, w0⟩, turn⟩ := q _ tb
    obtain ⟨bm, ob, e1, e2, _, e4, e5, e6, e7, e8⟩ := TB.bm
    refine wpAny_builtinsFor (m := X.mg) (by rw [J3.ok.glob]; exact J3.mod.glob.keeps J3.bk) e1 e2 (ext _ _ e4 (J1.bk _ _ e5)) e6 e7 e8 ?_
    intro h' hn hsb
    have f3 : ∀ b ∈ fp, FpOk X pins (upd H1 T (.tbl (ps ++ more))) b ∧ b < h3.objs.size := fun b hb => by
      refine ⟨⟨?_, (f2 b hb).2⟩, Nat.lt_of_lt_of_le (lts b hb) ge3⟩
      rw [upd_ne (nfT b hb)]
      exact (f2 b hb).1
    have st3 : tn 0 h3 := TU.keep _ _ _ st2 fun b hb o e => ext b o (nfT b hb) e
    have nf3 : ∀ b ∈ fp, (upd H1 T (.tbl (ps ++ more))) b = none := fun b hb => (f3 b hb).1.1
    generalize hH3 : upd H1 T (.tbl (ps ++ more)) = H3 at J3 w0 f3 nf3
    generalize hs3 : ({ s2 with heap := h3, toks := tk } : Shared) = s3 at J3 hn hsb ⊢
    have eh : s3.heap = h3 := by rw [← hs3]
    have szh : h'.objs.size = s3.heap.objs.size + 1 := by rw [hsb.1, Heap.size_push]
    have kp : ∀ b o, s3.heap.get? b = some o → h'.get? b = some o := fun b o e => hsb.extBut b o (Nat.ne_of_lt (Heap.lt_size e)) (Heap.get?_push_of_some _ e)
    generalize hoG : ({ cls := .type "generator", data := .fields #[.int s3.gens.size 0, .str "<genexpr>" (s3.toks + 1), .str (X.env.qual ++ "<genexpr>") (s3.toks + 1 + 1)] } : Obj) = oG
    have na : h'.objs.size ∉ fp := fun z => by
      have := (f3 _ z).2
      rw [← eh] at this
      exact Nat.lt_irrefl _ (Nat.lt_of_lt_of_le this (by rw [szh]; exact Nat.le_succ _))
    have start := gx_start (A' := Ac.in1.over (.compLoop (.GeneratorExp elt [⟨tg, iter, ifs, 0⟩] scope gpos) 0 (.ref it) .none (genE X scope s3.heap.objs.size code)) []) (code := code) (it := .ref it) (oG := oG)
      (g' := s3.gens.push (.fresh (.compStart (.GeneratorExp elt [⟨tg, iter, ifs, 0⟩] scope gpos) 0 (.ref it) .none (genE X scope s3.heap.objs.size code)))) (t' := s3.toks + 1 + 1 + 1) J3 ok hN (fun b hb => ⟨(f3 b hb).1, by rw [eh]; exact (f3 b hb).2⟩) hA (over_gen hfr) hn hsb
      (fun v => by rw [← hoG]; exact fun z => nomatch z) (J3.bare.push rfl) (by rw [← hoG]; rfl)
    have rm : Room k (Ac.in1.over (.compLoop (.GeneratorExp elt [⟨tg, iter, ifs, 0⟩] scope gpos) 0 (.ref it) .none (genE X scope s3.heap.objs.size code)) []) :=
      room_gen hA (by have := hr.dp; show Ac.depth + 1 + 3 * k + 5 < _; omega) (by have := hr.un; show Ac.units + 1 + 3 + 16 * k + 200 < _; omega)
    refine hQ (fun H' s' => Inv (gxl X Ac.in1 elt tg iter ifs scope gpos it (genE X scope s3.heap.objs.size code) s3 H3 fp) [(h'.objs.size, oG)] (wipe σ (own.map (·.2))) H' s') tn fp W h'.objs.size s3.gens.size m0 H3 _ ?_ (fun i h h' st kk => TU.keep _ _ _ st fun b _ o e => kk b o e) ?_
    · refine ⟨fun I' => I'.bare, fun I' hb => ⟨I'.ok, I'.os, hb, I'.base, I'.loc, I'.cell, I'.free, I'.freeC, I'.pin, I'.hok, I'.len⟩, fun I' kk => I'.kept kk, fun I' => ?_, fun I' => I'.nolimit, fun I' => ?_⟩
      · have z := (I'.pin (h'.objs.size, oG) (by simp)).1
        rw [← hoG] at z
        exact ⟨_, _, _, z, rfl, rfl, rfl⟩
      · exact J3.call' (ch := fp) I'.os I'.base I'.hok I'.bare fun b hb => ⟨(f3 b hb).1.2.2.2.1, (f3 b hb).1.2.1, (f3 b hb).1.2.2.2.2.1, (f3 b hb).1.2.2.2.2.2⟩
    · refine ⟨start, TU.keep _ _ _ st3 fun b hb o e => Heap.get?_push_of_some _ (kp b o (by rw [eh]; exact e)), nf3, w0, _, Array.getElem?_push_size .., Nat.lt_succ_self _, fun s'' I'' st'' hg'' => ⟨rfl, ?_⟩⟩
      exact gx_seg0 TU st'' (gx_seg TU na ok.co (hg _ s3 H3 _ code fp) (ht _ s3 H3 _ code fp rm) (he _ s3 H3 _ code fp rm) turn _ rfl m0 (m0 + 1) 0 H3 s'' s'' (Nat.lt_succ_self _) I'' st'' nf3 w0 hg'')
  cases among : codeAmong gpos ps.toList with
  | some cv =>
    refine wpAny_genexprCode_hit hcode (cd.code gT hok) among ?_
    exact on cv s2.heap s2.toks #[] (Heap.ExtBut.refl _ _) (Nat.le_refl _) (by rw [Array.append_empty]; exact gT) (by rw [Array.append_empty]; exact hok)
  | none =>
    refine wpAny_genexprCodeX hcode (cd.code gT hok) (cd.tab gT) among fun c' h' tk hx hge hlt isC _ tab' _ => ?_
    obtain ⟨_, _, _, _, _, _, _, _, _, _, _, _, _, _, _, _, _, _, _, ok', _⟩ := isC
    exact on _ h' tk _ hx (Nat.le_trans hge (Nat.le_of_lt hlt)) tab'.2 ok'
end
/-! ### all(..) of a generator expression -/
def tAllG (T : Addr) (wi : TI) (g : TG) (tt : TT) (te : TE) (vs : List Nat) : TE := fun σ H Q => wi σ H fun J H1 => GxR.TabG H1 T ∧ ∀ H2, GxR.Tabbed T H1 H2 → ∃ W : Nat → Nat → Hp → Prop, (∃ m, W 0 m H2) ∧
  GTurns J g tt te vs σ W (fun i m y H' => ∃ k, y = .bl k ∧ (if k = true then ∃ m', m' < m ∧ W (i + 1) m' H' else Q (.bl false) H')) (fun H' => Q (.bl true) H')
section
variable {X : Cx} {pins : List (Addr × Obj)} {σ : L2.St}
theorem all_loop {IG : Hp → Shared → Prop} {tn : Nat → Heap → Prop} {fp : List Addr} {W : Nat → Nat → Hp → Prop} {a : Addr} {gn : Nat} {Q : VK} {R : Result → Shared → Prop} (ig : IGok X pins σ a gn IG) (hA : X.A.handled = none) (hd : X.A.depth < recursionLimit)
    (hR : ∀ b H s, Q (.bl b) H → IG H s → R (.ok (.ret (.bool b))) s) : ∀ (n i m : Nat) (H : Hp) (s : Shared),
    GRun X X.A.in1 IG tn fp W (fun i m y H' => ∃ k, y = .bl k ∧ (if k = true then ∃ m', m' < m ∧ W (i + 1) m' H' else Q (.bl false) H')) (fun H' => Q (.bl true) H') gn i m n H s →
    codeAny (model X.prog X.w) X.A (.builtin "all.loop" ⟨[.ref a], []⟩) R s := by
  intro n
  induction n with
  | zero =>
    intro i m H s G
    obtain ⟨_, _, _, _, gs, _, h, _⟩ := G
    exact absurd h (Nat.not_lt_zero _)
  | succ n ih =>
    intro i m H s G
    refine codeAny_builtin F.entry_all_loop ?_
    rw [Around.under_plainId F.plain_all_loop _]
    show wpAny _ X.A.in1 (pyNext (.ref a) >>= _) _ _ s
    refine wpAny_bind (gx_next ig hA hd G (fun v y H' s' i' m' r out I' cont => ?_) fun H' s' fin I' => ?_)
    · obtain ⟨k, rfl, hk⟩ := out
      obtain rfl : v = .bool k := r
      refine wpAny_bind (wpAny_holding (wpAny_truthy_bool ?_))
      refine wpAny_bind (wpAny_letGo ?_)
      cases k with
      | true =>
        obtain ⟨m'', hm, w'⟩ := hk
        exact wpAny_pure ⟨plainId_quiet F.plain_all_loop _, ih (i' + 1) m'' H' s' (cont m'' hm w')⟩
      | false =>
        refine wpAny_bind (wpAny_rule (wpAny_pure ?_))
        exact hR false H' s' hk I'
    · refine wpAny_bind (wpAny_rule (wpAny_pure ?_))
      exact hR true H' s' fin I'
theorem pe_allG {c T : Addr} {elt tg iter : Expr} {ifs : List Expr} {scope : Scope} {own : List (Str × Nat)} {gpos p pos : Pos} {wi : TI} {g : TG} {tt : TT} {te : TE} {k : Nat}
    (hr : Room (k + 1) X.A) (hgl : Gl X "all") (hm : X.mg "all" = none) (hc : X.calm = true) (hN : X.N.Nodup) (TB : GxR.TabB X.base X.mg c T) (hcode : X.env.code = .ref c) (ok : GOk X.N X.env.scope scope own) (hi : PI X tg iter wi)
    (hg : ∀ (A' : Around) (s3 : Shared) (H3 : Hp) (C : Addr) (code : Value) (fp : List Addr), PG (gxc X A' s3 H3 (genE X scope C code) fp) tg g)
    (ht : ∀ (A' : Around) (s3 : Shared) (H3 : Hp) (C : Addr) (code : Value) (fp : List Addr), Room k A' → PTs (gxc X A' s3 H3 (genE X scope C code) fp) ifs tt)
    (he : ∀ (A' : Around) (s3 : Shared) (H3 : Hp) (C : Addr) (code : Value) (fp : List Addr), Room k A' → PE (gxc X A' s3 H3 (genE X scope C code) fp) elt te)
    (hs : ∀ v, genFold iter X.env v = pure v := by intro _; rfl)
    (hst : starEach [.GeneratorExp elt [⟨tg, iter, ifs, 0⟩] scope gpos] X.env = (false, eval (.GeneratorExp elt [⟨tg, iter, ifs, 0⟩] scope gpos) X.env) :: starEach [] X.env := by rfl) :
    PE X (.Call (.Name "all" p) [.GeneratorExp elt [⟨tg, iter, ifs, 0⟩] scope gpos] [] pos) (tAllG T wi g tt te (own.map (·.2))) := by
  refine ⟨fun pins s σ H Q I h => wpAny_Call_Name_kw (ld_blt I hgl hm (show bootBuiltins "all" = some (.builtin "all") by decide +kernel) ?_)⟩
  refine PyProof.Rows.callWith_builtin1 ?_ hst (by rfl)
  rw [hst]
  have hA := I.ok.hd hc
  have hf := I.ok.frames
  refine Calls.spliced_cons (gx_mk (Outf := fun W i m y H' => ∃ k, y = .bl k ∧ (if k = true then ∃ m', m' < m ∧ W (i + 1) m' H' else Q (.bl false) H')) (Fin := fun H' => Q (.bl true) H')
    X.A.in1 hA hf (Nat.le_refl _) (by show X.A.units + 1 ≤ _; omega) hr hc hN TB hcode ok hi hg ht he hs I h ?_)
  · intro IG tn fp W a gn m H2 s5 ig hk G
    refine Calls.spliced_nil ?_
    refine call_function_tree F.kind_all F.plain_all F.entry_all (F.args_all1 _) ?_
    unfold Builtin.«all»
    refine wpAny_bind (m := oneArg "all" _) (wpAny_pure ?_)
    refine wpAny_bind (wpAny_pyIter_gen (ig.isgen G.1) ?_)
    exact wpAny_pure ⟨plainId_quiet F.plain_all_loop _, all_loop ig hA (Nat.lt_of_le_of_lt (by omega : X.A.depth ≤ X.A.depth + 3 * (k + 1) + 5) hr.dp) (fun b H s q I' => ⟨.bl b, H, ig.back I', rfl, q⟩) _ _ _ _ _ G⟩
end
/-! ### generators whose consumer keeps an object of its own -/
abbrev Pins := List (Addr × Obj)
def GTurnsL (J : It) (g : TG) (tt : TT) (te : TE) (vs : List Nat) (σ : L2.St) (W : Nat → Nat → List V → Hp → Prop) (Out : Nat → Nat → List V → V → Hp → Prop) (Fin : List V → Hp → Prop) : Prop :=
  ∀ i m ys H, W i m ys H → (J.stop i H ∧ Fin ys H) ∨ (J.go i H ∧ ∀ x H', J.yld i H x H' → g x (wipe σ vs) H' fun σ2 H2 => wipe σ2 vs = wipe σ vs ∧ tt σ2 H2 fun b H3 =>
    if b = true then te σ2 H3 fun y H4 => Out i m ys y H4 else ∃ m', m' < m ∧ W (i + 1) m' ys H3)
def gxYL (IG : Pins → Hp → Shared → Prop) (PX : List V → Pins → Prop) (tn : Nat → Heap → Prop) (fp : List Addr) (W : Nat → Nat → List V → Hp → Prop) (Out : Nat → Nat → List V → V → Hp → Prop) (gn : Nat) : Protocol := fun n s₀ v s kap =>
  ∃ i m ys y H px, (∀ p ∈ px, s₀.heap.get? p.1 = some p.2) ∧ RelV y v ∧ PX ys px ∧ IG px H s ∧ tn (i + 1) s.heap ∧ (∀ b ∈ fp, H b = none) ∧ Out i m ys y H ∧ gn < s.gens.size ∧ m ≤ n ∧
    ∀ m' px', m' < m → W (i + 1) m' (ys ++ [y]) H → PX (ys ++ [y]) px' → ∀ s'' : Shared, IG px' H s'' → tn (i + 1) s''.heap → gn < s''.gens.size → kap (.send .none) s''
def gxRL (IG : Pins → Hp → Shared → Prop) (PX : List V → Pins → Prop) (Fin : List V → Hp → Prop) : Nat → Shared → Shared → Prop := fun _ s₀ s1 => ∃ ys H px, (∀ p ∈ px, s₀.heap.get? p.1 = some p.2) ∧ PX ys px ∧ IG px H s1 ∧ Fin ys H
section
variable {X : Cx} {σ : L2.St} {Ag : Around} {tg elt iter : Expr} {ifs : List Expr} {scope : Scope} {gpos : Pos} {it a : Addr} {oG : Obj} {ce : Env} {fp : List Addr} {s3 : Shared} {H3 : Hp} {tn : Nat → Heap → Prop} {J : It} {vs : List Nat} {gn : Nat}
  {g : TG} {tt : TT} {te : TE} {W : Nat → Nat → List V → Hp → Prop} {Out : Nat → Nat → List V → V → Hp → Prop} {Fin : List V → Hp → Prop} {PX : List V → Pins → Prop}
theorem gx_statL {σ' : L2.St} {H' : Hp} {s' : Shared} {A' : Around} {px : Pins} (I' : Inv (gxc X A' s3 H3 ce fp) ((a, oG) :: px) σ' H' s') (na : a ∉ fp) (hpx : ∀ p ∈ px, p.1 ∉ fp) (hn : ∀ b ∈ fp, H' b = none) : ∀ b ∈ fp, FpOk (gxc X A' s3 H3 ce fp) ((a, oG) :: px) H' b := fun b hb => by
  refine ⟨hn b hb, (I'.ok.exf b hb).1, I'.ok.exfs b hb, .inl hb, fun x c e => (I'.ok.exf b hb).2 x c e, fun p hp z => ?_⟩
  have hp' : p ∈ (a, oG) :: px := by simpa using hp
  rcases List.mem_cons.mp hp' with e | e
  · subst e
    have z' : a = b := z
    exact na (z' ▸ hb)
  · exact hpx p e (z ▸ hb)
theorem gx_segL (T : Turn X.prog X.w X.K tg J fp it tn) (na : a ∉ fp) (hco : ce.scope.isCoroutine = false)
    (pg : PG (gxl X Ag elt tg iter ifs scope gpos it ce s3 H3 fp) tg g)
    (pt : PTs (gxl X Ag elt tg iter ifs scope gpos it ce s3 H3 fp) ifs tt)
    (pe : PE (gxl X Ag elt tg iter ifs scope gpos it ce s3 H3 fp) elt te)
    (turn : GTurnsL J g tt te vs σ W Out Fin) (IG : Pins → Hp → Shared → Prop) (Px : Pins → Prop) (hPx : ∀ px, Px px → ∀ p ∈ px, p.1 ∉ fp)
    (hIG : IG = fun px H s => Px px ∧ Inv (gxl X Ag elt tg iter ifs scope gpos it ce s3 H3 fp) ((a, oG) :: px) (wipe σ vs) H s) :
    ∀ (m n i : Nat) (ys : List V) (px : Pins) (H : Hp) (s s0 : Shared), m < n → (∀ p ∈ px, s0.heap.get? p.1 = some p.2) → PX ys px → IG px H s → tn i s.heap → (∀ b ∈ fp, H b = none) → W i m ys H → gn < s.gens.size →
      Seg (model X.prog X.w) Ag (fun n s0 r s1 => r = .ok .next ∧ gxRL IG PX Fin n s0 s1) (gxYL IG PX tn fp W Out gn) n s0
        (.compLoop (.GeneratorExp elt [⟨tg, iter, ifs, 0⟩] scope gpos) 0 (.ref it) .none ce)
        ((model X.prog X.w).den (.compLoop (.GeneratorExp elt [⟨tg, iter, ifs, 0⟩] scope gpos) 0 (.ref it) .none ce)) [] s := by
  intro m
  induction m using Nat.strongRecOn with
  | ind m ih =>
  intro n i ys px H s s0 hmn h00 hX I0 st n0 w0 hg
  have I1 : Px px ∧ Inv (gxl X Ag elt tg iter ifs scope gpos it ce s3 H3 fp) ((a, oG) :: px) (wipe σ vs) H s := by
    rw [hIG] at I0
    exact I0
  obtain ⟨hP, I⟩ := I1
  have hpx := hPx px hP
  show Seg _ Ag _ _ _ s0 _ ((compTurn (.GeneratorExp elt [⟨tg, iter, ifs, 0⟩] scope gpos) 0 (.ref it) .none ce).onRaise (leaving ce)) [] s
  rw [compTurn_gen, Sem.onRaise_eq_wrap]
  refine seg_bind_wrap (wpAny_standAt ?_)
  rcases turn i m ys H w0 with ⟨stop, fin⟩ | ⟨go, step⟩
  · refine seg_bind_wrap (thnF (T.done (gxl X Ag elt tg iter ifs scope gpos it ce s3 H3 fp) rfl rfl rfl rfl i ((a, oG) :: px) s _ H (fun _ _ => False) I (gx_statL I na hpx n0) st stop) fun r s6 ⟨hr, I6⟩ => ?_)
    subst hr
    exact seg_end (.ok .next) ⟨rfl, ys, H, px, h00, hX, by rw [hIG]; exact ⟨hP, I6⟩, fin⟩
  · refine seg_bind_wrap (GenW.wpAny_gsz hg (thnF (T.item (gxl X Ag elt tg iter ifs scope gpos it ce s3 H3 fp) rfl rfl rfl rfl i ((a, oG) :: px) s _ H (fun _ _ => False) I (gx_statL I na hpx n0) st go) fun r s6 ⟨u, hr, h6⟩ hg6 => ?_))
    subst hr
    refine seg_bind_wrap (GenW.wpAny_gsz hg6 (thnF h6 fun _ s7 ⟨x, H7, I7, r7, y7, st7, n7⟩ hg7 => ?_))
    have I7' := I7.pinned (gx_statL I7 na hpx n7) (T.obj _ _ st7)
    refine seg_bind_wrap (GenW.wpAny_gsz hg7 (thnF (pg.run _ s7 _ H7 x u _ I7' r7 (step x H7 y7)) fun _ s8 ⟨σ8, H8, I8, hw8, q8⟩ hg8 => ?_))
    refine seg_bind_wrap (GenW.wpAny_gsz hg8 (thnF (pt.run _ s8 σ8 H8 _ I8 q8) fun b s9 ⟨H9, I9, q9⟩ hg9 => ?_))
    have hl : (wipe σ vs).length = σ8.length := by rw [← hw8, wipe_length]
    have back : ∀ {s' : Shared} {H' : Hp}, Inv (gxl X Ag elt tg iter ifs scope gpos it ce s3 H3 fp) (((a, oG) :: px) ++ pinsAt fp s7.heap) σ8 H' s' →
        IG px H' s' ∧ tn (i + 1) s'.heap ∧ ∀ b ∈ fp, H' b = none := fun {s' H'} I' => by
      have pin' : ∀ b ∈ fp, ∀ o, s7.heap.get? b = some o → s'.heap.get? b = some o ∧ H' b = none := fun b hb o e =>
        let z := I'.pin (b, o) (List.mem_append_right _ (List.mem_append_right _ (mem_pinsAt hb e)))
        ⟨z.1, z.2.1⟩
      refine ⟨?_, T.keep _ _ _ st7 fun b hb o e => (pin' b hb o e).1, fun b hb => ?_⟩
      · rw [hIG]
        refine ⟨hP, I'.unpinned.weak hl fun j v e => ?_⟩
        rw [← hw8] at e
        exact (wipe_some e).1
      · obtain ⟨o, e, _⟩ := T.obj _ _ st7 b hb
        exact (pin' b hb o e).2
    cases b with
    | false =>
      simp only [Bool.false_eq_true, if_false] at q9 ⊢
      obtain ⟨m', hm, w'⟩ := q9
      obtain ⟨b1, b2, b3⟩ := back I9
      exact seg_again rfl (ih m' hm n (i + 1) ys px H9 s9 s0 (Nat.lt_trans hm hmn) h00 hX b1 b2 b3 w' hg9)
    | true =>
      simp only [if_true] at q9 ⊢
      have hy : ∀ v, yieldOut ce v = yieldValue v := fun v => by simp only [yieldOut, hco, Bool.false_eq_true, if_false]
      simp only [hy]
      rw [Sem.bind_eq_wrap', Sem.bind_eq_wrap', Sem.wrap_wrap, Sem.wrap_wrap]
      obtain ⟨n', rfl⟩ : ∃ n', n = n' + 1 := ⟨n - 1, by omega⟩
      refine seg_wrap (GenW.wpAny_gsz hg9 (thnF (pe.run _ s9 σ8 H9 _ I9 q9) fun z s10 ⟨yv, H10, I10, r10, out⟩ hg10 => ?_))
      obtain ⟨b1, b2, b3⟩ := back I10
      refine seg_at (seg_yield rfl rfl rfl ⟨i, m, ys, yv, H10, px, h00, r10, hX, b1, b2, b3, out, hg10, by omega, fun m' px' hm w' hX' s'' I'' st'' hg'' => ?_⟩)
      exact seg_again rfl (ih m' hm n' (i + 1) _ px' H10 s'' s'' (by omega) (fun p hp => by rw [hIG] at I''; exact (I''.2.pin p (by simp [hp])).1) hX' I'' st'' b3 w' hg'')
end
structure IGokL (X : Cx) (pins : List (Addr × Obj)) (σ : L2.St) (a : Addr) (gn : Nat) (tn : Nat → Heap → Prop) (IG : Pins → Hp → Shared → Prop) : Prop where
  bare : ∀ {px H s}, IG px H s → AllBare s.gens
  gens : ∀ {px H s g'}, IG px H s → AllBare g' → IG px H { s with gens := g' }
  kept : ∀ {px : Pins} {H : Hp} {s : Shared} {h' : Heap} {tk : Nat}, IG px H s → (∀ b o, s.heap.get? b = some o → h'.get? b = some o) → IG px H { s with heap := h', toks := tk }
  isgen : ∀ {px H s}, IG px H s → s.heap.IsGen a gn
  nolim : ∀ {px H s}, IG px H s → s.heap.NoLimit
  back : ∀ {px H s}, IG px H s → Inv X pins σ H s
  add : ∀ {H : Hp} {s : Shared} {h' : Heap} {tk : Nat} {S : Addr} {o : Obj}, IG [] H s → (∀ b u, s.heap.get? b = some u → h'.get? b = some u) → s.heap.objs.size ≤ S → h'.get? S = some o → (∀ v, o.data ≠ .cell v) → IG [(S, o)] H { s with heap := h', toks := tk }
  put : ∀ {H : Hp} {s : Shared} {h' : Heap} {tk : Nat} {S : Addr} {o o' : Obj}, IG [(S, o)] H s → (∀ b u, b ≠ S → s.heap.get? b = some u → h'.get? b = some u) → h'.get? S = some o' → (∀ v, o'.data ≠ .cell v) → IG [(S, o')] H { s with heap := h', toks := tk }
  own : ∀ {H s S o}, IG [(S, o)] H s → s.heap.get? S = some o
  tnk : ∀ {i h h'}, tn i h → (∀ b o, h.get? b = some o → h'.get? b = some o) → tn i h'
  tnp : ∀ {H s S o i h'}, IG [(S, o)] H s → tn i s.heap → (∀ b u, b ≠ S → s.heap.get? b = some u → h'.get? b = some u) → tn i h'
def GRunL (X : Cx) (Ac : Around) (IG : Pins → Hp → Shared → Prop) (PX : List V → Pins → Prop) (tn : Nat → Heap → Prop) (fp : List Addr) (W : Nat → Nat → List V → Hp → Prop) (Out : Nat → Nat → List V → V → Hp → Prop) (Fin : List V → Hp → Prop) (gn i m n : Nat) (ys : List V) (px : Pins) (H : Hp) (s : Shared) : Prop :=
  PX ys px ∧ IG px H s ∧ tn i s.heap ∧ (∀ b ∈ fp, H b = none) ∧ W i m ys H ∧ ∃ gs, s.gens[gn]? = some gs ∧ m < n ∧ ∀ (px' : Pins) (s'' : Shared), PX ys px' → IG px' H s'' → tn i s''.heap → gn < s''.gens.size →
    gs.Goes (model X.prog X.w) Ac.in1 (fun n s0 r s1 => r = .ok .next ∧ gxRL IG PX Fin n s0 s1) (gxYL IG PX tn fp W Out gn) n (.send .none) s''
def GStartL (X : Cx) (Ac : Around) (IG : Pins → Hp → Shared → Prop) (tn : Nat → Heap → Prop) (fp : List Addr) (W : Nat → Nat → List V → Hp → Prop) (Out : Nat → Nat → List V → V → Hp → Prop) (Fin : List V → Hp → Prop) (gn m : Nat) (H : Hp) (s : Shared) : Prop :=
  IG [] H s ∧ tn 0 s.heap ∧ (∀ b ∈ fp, H b = none) ∧ W 0 m [] H ∧ ∃ gs, s.gens[gn]? = some gs ∧ ∀ (PX : List V → Pins → Prop) (px' : Pins) (s'' : Shared), PX [] px' → IG px' H s'' → tn 0 s''.heap → gn < s''.gens.size →
    gs.Goes (model X.prog X.w) Ac.in1 (fun n s0 r s1 => r = .ok .next ∧ gxRL IG PX Fin n s0 s1) (gxYL IG PX tn fp W Out gn) (m + 1) (.send .none) s''
section
variable {X : Cx} {pins : List (Addr × Obj)} {σ : L2.St} {Ac : Around} {IG : Pins → Hp → Shared → Prop} {PX : List V → Pins → Prop} {tn : Nat → Heap → Prop} {fp : List Addr} {W : Nat → Nat → List V → Hp → Prop} {Out : Nat → Nat → List V → V → Hp → Prop} {Fin : List V → Hp → Prop} {a : Addr} {gn : Nat}
theorem gx_nextL {E : Value → Shared → Prop} {Q : Option Value → Shared → Prop} {i m n : Nat} {ys : List V} {px : Pins} {H : Hp} {s : Shared} (ig : IGokL X pins σ a gn tn IG) (hA : Ac.handled = none) (hd : Ac.depth < recursionLimit) (G : GRunL X Ac IG PX tn fp W Out Fin gn i m n ys px H s)
    (hout : ∀ v y H' s' i' m' ys' px', (∀ p ∈ px', s.heap.get? p.1 = some p.2) → RelV y v → Out i' m' ys' y H' → PX ys' px' → IG px' H' s' → tn (i' + 1) s'.heap →
      (∀ m'' px'' h' tk, m'' < m' → W (i' + 1) m'' (ys' ++ [y]) H' → PX (ys' ++ [y]) px'' → IG px'' H' { s' with heap := h', toks := tk } → tn (i' + 1) h' → GRunL X Ac IG PX tn fp W Out Fin gn (i' + 1) m'' (n - 1) (ys' ++ [y]) px'' H' { s' with heap := h', toks := tk }) → Q (some v) s')
    (hfin : ∀ ys' H' s' px', (∀ p ∈ px', s.heap.get? p.1 = some p.2) → Fin ys' H' → PX ys' px' → IG px' H' s' → Q none s') : wpAny (model X.prog X.w) Ac (pyNext (.ref a)) Q E s := by
  obtain ⟨g0, g1, g2, g3, g4, gs, g5, g6, g7⟩ := G
  have lt := (Array.getElem?_eq_some_iff.mp g5).1
  have run : IG px H (s.setGen gn .running) := ig.gens g1 (bare_set (ig.bare g1) rfl)
  refine wpAny_pyNext_genexpQ (P := gxRL IG PX Fin) hA (ig.nolim g1) hd (ig.isgen g1) g5 (g7 px _ g0 run g2 (by rw [GenW.setGen_size]; exact lt)) (fun v s1 gs' hb hv => ?_) fun s1 hp h' hk => ?_
  · obtain ⟨i', m', ys', y, H', px', h00, r, hX, I1, st1, nf, out, hg1, hmn, kap⟩ := hv
    have I2 : IG px' H' (s1.setGen gn gs') := ig.gens I1 (bare_set (ig.bare I1) hb)
    refine hout v y H' _ i' m' ys' px' h00 r out hX I2 st1 fun m'' px'' h' tk hm w' hX' I3 st3 => ⟨hX', I3, st3, nf, w', gs', ?_, by omega, fun pz s'' hXz J'' st'' hg'' => ?_⟩
    · show (s1.gens.setIfInBounds gn gs')[gn]? = some gs'
      rw [Array.getElem?_setIfInBounds_self_of_lt hg1]
    · have q := kap m'' pz hm w' hXz s'' J'' st'' hg''
      cases n with
      | zero => exact q.elim
      | succ n => exact q
  · obtain ⟨ys', H', px', h00, hX, I1, fin⟩ := hp
    exact hfin ys' H' _ px' h00 fin hX (ig.kept (tk := (s1.setGen gn .finished).toks) (ig.gens I1 (bare_set (ig.bare I1) rfl)) hk)
/-- from the start on, with what the consumer keeps -/
theorem GStartL.run {m : Nat} {H : Hp} {s : Shared} {px : Pins} {h' : Heap} {tk : Nat} (G : GStartL X Ac IG tn fp W Out Fin gn m H s) (hX : PX [] px) (I : IG px H { s with heap := h', toks := tk }) (st : tn 0 h') : GRunL X Ac IG PX tn fp W Out Fin gn 0 m (m + 1) [] px H { s with heap := h', toks := tk } := by
  obtain ⟨g1, g2, g3, g4, gs, g5, g7⟩ := G
  exact ⟨hX, I, st, g3, g4, gs, g5, Nat.lt_succ_self _, fun px' s'' hX' I' st' hg => g7 PX px' s'' hX' I' st' hg⟩
end
section
variable {X : Cx} {pins : List (Addr × Obj)} {σ : L2.St} {H : Hp} {s : Shared}
theorem gx_mkL {c T : Addr} {elt tg iter : Expr} {ifs : List Expr} {scope : Scope} {own : List (Str × Nat)} {gpos : Pos} {wi : TI} {g : TG} {tt : TT} {te : TE} {k : Nat} {Q' : Value → Shared → Prop} {Outf : (Nat → Nat → List V → Hp → Prop) → Nat → Nat → List V → V → Hp → Prop} {Fin : List V → Hp → Prop}
    (Ac : Around) (hA : Ac.handled = none) (hfr : Ac.frames = some X.stack) (hd : Ac.depth ≤ X.A.depth) (hu : Ac.units ≤ X.A.units + 8) (hr : Room (k + 1) X.A) (hc : X.calm = true) (hN : X.N.Nodup) (TB : GxR.TabB X.base X.mg c T) (hcode : X.env.code = .ref c) (ok : GOk X.N X.env.scope scope own) (hi : PI X tg iter wi)
    (hg : ∀ (A' : Around) (s3 : Shared) (H3 : Hp) (C : Addr) (code : Value) (fp : List Addr), PG (gxc X A' s3 H3 (genE X scope C code) fp) tg g)
    (ht : ∀ (A' : Around) (s3 : Shared) (H3 : Hp) (C : Addr) (code : Value) (fp : List Addr), Room k A' → PTs (gxc X A' s3 H3 (genE X scope C code) fp) ifs tt)
    (he : ∀ (A' : Around) (s3 : Shared) (H3 : Hp) (C : Addr) (code : Value) (fp : List Addr), Room k A' → PE (gxc X A' s3 H3 (genE X scope C code) fp) elt te)
    (hs : ∀ v, genFold iter X.env v = pure v) (I : Inv X pins σ H s)
    (h : wi σ H fun J H1 => GxR.TabG H1 T ∧ ∀ H2, GxR.Tabbed T H1 H2 → ∃ W, (∃ m, W 0 m [] H2) ∧ GTurnsL J g tt te (own.map (·.2)) σ W (Outf W) Fin)
    (hQ : ∀ (IG : Pins → Hp → Shared → Prop) (tn : Nat → Heap → Prop) (fp : List Addr) W (a : Addr) (gn m : Nat) (H2 : Hp) (s5 : Shared), IGokL X pins σ a gn tn IG →
      GStartL X Ac IG tn fp W (Outf W) Fin gn m H2 s5 → Q' (.ref a) s5) :
    wpAny (model X.prog X.w) X.A (eval (.GeneratorExp elt [⟨tg, iter, ifs, 0⟩] scope gpos) X.env) Q' X.xe s := by
  have free := gx_free I ok
  refine wpAny_GeneratorExp_make ok.co (closure_ok free) ok.cell ok.dot ok.blk.kind (Nat.lt_of_le_of_lt (by omega : X.A.depth ≤ X.A.depth + 3 * (k + 1) + 5) hr.dp) ?_ hs
  refine thn (hi.run pins s σ H _ I h) fun xv s1 h1 => thn h1 fun itv s2 h2 => ?_
  obtain ⟨it, fp, tn, J, H1, rfl, J1, TU, st2, f2, ⟨ps, hT, hok⟩, q⟩ := h2
  have gT : s2.heap.get? T = some (PySem.W.tabObj ps) := J1.hok T _ hT
  have cd : PySem.W.CodeHd s2.heap c T := TB.code.keeps J1.bk
  refine ⟨J1.nolimit, ?_⟩
  have lts : ∀ b ∈ fp, b < s2.heap.objs.size := fun b hb => by
    obtain ⟨o, e, _⟩ := TU.obj _ _ st2 b hb
    exact Heap.lt_size e
  have nfT : ∀ b ∈ fp, b ≠ T := fun b hb z => by
    have := (f2 b hb).1
    rw [z, hT] at this
    cases this
  -- behind the code object
  have on : ∀ (code : Value) (h3 : Heap) (tk : Nat) (more : Array Value), Heap.ExtBut T s2.heap h3 → s2.heap.objs.size ≤ h3.objs.size → h3.get? T = some (PySem.W.tabObj (ps ++ more)) → TriplesOk (ps ++ more).toList →
      wpAny (model X.prog X.w) X.A (builtinsFor X.env.globals X.env.builtins) (fun bi s4 =>
        ∀ h', h'.Ns s4.heap.objs.size (fun y => if y = ".0" then some (.ref it) else none) → Heap.SameBut s4.heap.objs.size (s4.heap.push { cls := .type "frame", data := .dict #[] }) h' →
          Q' (.ref h'.objs.size) { s4 with
            gens := s4.gens.push (.fresh (.compStart (.GeneratorExp elt [⟨tg, iter, ifs, 0⟩] scope gpos) 0 (.ref it) .none (genEnv scope (cloFrom X.env.cells scope.names []) s4.heap.objs.size code bi X.env))),
            toks := s4.toks + 1 + 1 + 1,
            heap := h'.push { cls := .type "generator", data := .fields #[.int s4.gens.size 0, .str "<genexpr>" (s4.toks + 1), .str (X.env.qual ++ "<genexpr>") (s4.toks + 1 + 1)] } }) X.xe { s2 with heap := h3, toks := tk } := by
    intro code h3 tk more ext ge3 gT3 ok3
    have J3 : Inv X pins σ (upd H1 T (.tbl (ps ++ more))) { s2 with heap := h3, toks := tk } := GxR.inv_tab (g' := s2.gens) (d' := s2.drawn) J1 hT ext gT3 J1.bare
    have tb : GxR.Tabbed T H1 (upd H1 T (.tbl (ps ++ more))) := ⟨⟨_, upd_same, ok3⟩, fun b nb => upd_ne nb⟩
    obtain ⟨W, ⟨m0, w0⟩, turn⟩ := q _ tb
    obtain ⟨bm, ob, e1, e2, _, e4, e5, e6, e7, e8⟩ := TB.bm
    refine wpAny_builtinsFor (m := X.mg) (by rw [J3.ok.glob]; exact J3.mod.glob.keeps J3.bk) e1 e2 (ext _ _ e4 (J1.bk _ _ e5)) e6 e7 e8 ?_
    intro h' hn hsb
    have f3 : ∀ b ∈ fp, FpOk X pins (upd H1 T (.tbl (ps ++ more))) b ∧ b < h3.objs.size := fun b hb => by
      refine ⟨⟨?_, (f2 b hb).2⟩, Nat.lt_of_lt_of_le (lts b hb) ge3⟩
      rw [upd_ne (nfT b hb)]
      exact (f2 b hb).1
    have st3 : tn 0 h3 := TU.keep _ _ _ st2 fun b hb o e => ext b o (nfT b hb) e
    have nf3 : ∀ b ∈ fp, (upd H1 T (.tbl (ps ++ more))) b = none := fun b hb => (f3 b hb).1.1
    generalize hH3 : upd H1 T (.tbl (ps ++ more)) = H3 at J3 w0 f3 nf3
    generalize hs3 : ({ s2 with heap := h3, toks := tk } : Shared) = s3 at J3 hn hsb ⊢
    have eh : s3.heap = h3 := by rw [← hs3]
    have szh : h'.objs.size = s3.heap.objs.size + 1 := by rw [hsb.1, Heap.size_push]
    have kp : ∀ b o, s3.heap.get? b = some o → h'.get? b = some o := fun b o e => hsb.extBut b o (Nat.ne_of_lt (Heap.lt_size e)) (Heap.get?_push_of_some _ e)
    generalize hoG : ({ cls := .type "generator", data := .fields #[.int s3.gens.size 0, .str "<genexpr>" (s3.toks + 1), .str (X.env.qual ++ "<genexpr>") (s3.toks + 1 + 1)] } : Obj) = oG
    have na : h'.objs.size ∉ fp := fun z => by
      have := (f3 _ z).2
      rw [← eh] at this
      exact Nat.lt_irrefl _ (Nat.lt_of_lt_of_le this (by rw [szh]; exact Nat.le_succ _))
    have start := gx_start (A' := Ac.in1.over (.compLoop (.GeneratorExp elt [⟨tg, iter, ifs, 0⟩] scope gpos) 0 (.ref it) .none (genE X scope s3.heap.objs.size code)) []) (code := code) (it := .ref it) (oG := oG)
      (g' := s3.gens.push (.fresh (.compStart (.GeneratorExp elt [⟨tg, iter, ifs, 0⟩] scope gpos) 0 (.ref it) .none (genE X scope s3.heap.objs.size code)))) (t' := s3.toks + 1 + 1 + 1) J3 ok hN (fun b hb => ⟨(f3 b hb).1, by rw [eh]; exact (f3 b hb).2⟩) hA (over_gen hfr) hn hsb
      (fun v => by rw [← hoG]; exact fun z => nomatch z) (J3.bare.push rfl) (by rw [← hoG]; rfl)
    have rm : Room k (Ac.in1.over (.compLoop (.GeneratorExp elt [⟨tg, iter, ifs, 0⟩] scope gpos) 0 (.ref it) .none (genE X scope s3.heap.objs.size code)) []) :=
      room_gen hA (by have := hr.dp; show Ac.depth + 1 + 3 * k + 5 < _; omega) (by have := hr.un; show Ac.units + 1 + 3 + 16 * k + 200 < _; omega)
    let Px : Pins → Prop := fun px => ∀ p ∈ px, h'.objs.size + 1 ≤ p.1
    have hPx : ∀ px, Px px → ∀ p ∈ px, p.1 ∉ fp := fun px z p hp q => by
      have l1 : h'.objs.size + 1 ≤ p.1 := z p hp
      have l2 := (f3 _ q).2
      rw [← eh] at l2
      have l0 : s3.heap.objs.size ≤ h'.objs.size + 1 := by omega
      exact Nat.lt_irrefl _ (Nat.lt_of_lt_of_le l2 (Nat.le_trans l0 l1))
    refine hQ (fun px H' s' => Px px ∧ Inv (gxl X Ac.in1 elt tg iter ifs scope gpos it (genE X scope s3.heap.objs.size code) s3 H3 fp) ((h'.objs.size, oG) :: px) (wipe σ (own.map (·.2))) H' s') tn fp W h'.objs.size s3.gens.size m0 H3 _ ?_ ?_
    · have bk : ∀ {px : Pins} {H' : Hp} {s' : Shared}, Inv (gxl X Ac.in1 elt tg iter ifs scope gpos it (genE X scope s3.heap.objs.size code) s3 H3 fp) ((h'.objs.size, oG) :: px) (wipe σ (own.map (·.2))) H' s' → Inv X pins σ H' s' := fun I' =>
        J3.call' (ch := fp) I'.os I'.base I'.hok I'.bare fun b hb => ⟨(f3 b hb).1.2.2.2.1, (f3 b hb).1.2.1, (f3 b hb).1.2.2.2.2.1, (f3 b hb).1.2.2.2.2.2⟩
      refine ⟨fun I' => I'.2.bare, fun I' hb => ⟨I'.1, I'.2.ok, I'.2.os, hb, I'.2.base, I'.2.loc, I'.2.cell, I'.2.free, I'.2.freeC, I'.2.pin, I'.2.hok, I'.2.len⟩, fun I' kk => ⟨I'.1, I'.2.kept kk⟩, fun I' => ?_, fun I' => I'.2.nolimit, fun I' => bk I'.2, ?_, ?_, ?_, ?_, ?_⟩
      · have z := (I'.2.pin (h'.objs.size, oG) (by simp)).1
        rw [← hoG] at z
        exact ⟨_, _, _, z, rfl, rfl, rfl⟩
      · intro H' s' h2' tk' S o I' kk hS e nc
        have g0 := (I'.2.pin (h'.objs.size, oG) (by simp)).1
        have l0 := Heap.lt_size g0
        refine ⟨fun p hp => ?_, ?_⟩
        · rw [List.mem_singleton.mp hp]
          exact Nat.le_trans l0 hS
        · have K1 := I'.2.kept (t' := tk') kk
          have F := I'.2.fpOk (b := S) hS (I'.2.hok.fresh hS)
          refine K1.pins_of fun p hp => ?_
          rcases List.mem_cons.mp hp with z | z
          · rw [z]
            exact K1.pin _ (by simp)
          · rw [List.mem_singleton.mp z]
            exact ⟨e, F.1, F.2.1, F.2.2.1, nc⟩
      · intro H' s' h2' tk' S o o' I' kk e nc
        obtain ⟨p1, I1⟩ := I'
        obtain ⟨q1, q2, q3, q4, q5⟩ := I1.pin (S, o) (by simp)
        have lS : h'.objs.size + 1 ≤ S := p1 (S, o) (by simp)
        have Iu : Inv (gxl X Ac.in1 elt tg iter ifs scope gpos it (genE X scope s3.heap.objs.size code) s3 H3 fp) [(h'.objs.size, oG)] (wipe σ (own.map (·.2))) H' s' := I1.pins_of fun p hp => I1.pin p (by rw [List.mem_singleton.mp hp]; simp)
        have K1 := Iu.turned (t' := tk') (it := S) kk q2 q3 (.inr (by show s3.heap.objs.size ≤ S; omega)) (fun y cc ec z => ?_) (fun p hp z => ?_)
        · refine ⟨fun p hp => by rw [List.mem_singleton.mp hp]; exact lS, K1.pins_of fun p hp => ?_⟩
          rcases List.mem_cons.mp hp with z | z
          · rw [z]
            exact K1.pin _ (by simp)
          · rw [List.mem_singleton.mp z]
            exact ⟨e, q2, q3, q4, nc⟩
        · obtain ⟨v, zc⟩ := J3.cell y cc (by
            have ec' : (cloFrom X.env.cells scope.names []).lookup y = some cc := ec
            rcases cloFrom_mem (PySem.mem_of_lookup ec') with hm | ⟨h1, rfl⟩
            · cases hm
            · obtain ⟨c0, hc0⟩ := free _ h1 rfl
              rw [hc0]
              rfl)
          have l0 : s3.heap.objs.size ≤ h'.objs.size + 1 := by omega
          have l4 := zc.lt
          rw [z] at l4
          exact Nat.lt_irrefl _ (Nat.lt_of_lt_of_le l4 (Nat.le_trans l0 lS))
        · have hp' : p = (h'.objs.size, oG) := by simpa using hp
          rw [hp'] at z
          have z' : h'.objs.size = S := z
          omega
      · intro H' s' S o I'
        exact (I'.2.pin (S, o) (by simp)).1
      · exact fun st kk => TU.keep _ _ _ st fun b _ o e => kk b o e
      · intro H' s' S o i h2' I' st kk
        refine TU.keep _ _ _ st fun b hb ob e => kk b ob (fun z => ?_) e
        exact hPx _ I'.1 (S, o) (by simp) (z ▸ hb)
    · refine ⟨⟨fun p hp => (nomatch hp), start⟩, TU.keep _ _ _ st3 fun b hb o e => Heap.get?_push_of_some _ (kp b o (by rw [eh]; exact e)), nf3, w0, _, Array.getElem?_push_size .., fun PX px s'' hX I'' st'' hg'' => ⟨rfl, ?_⟩⟩
      exact gx_seg0 TU st'' (gx_segL TU na ok.co (hg _ s3 H3 _ code fp) (ht _ s3 H3 _ code fp rm) (he _ s3 H3 _ code fp rm) turn _ Px hPx rfl m0 (m0 + 1) 0 [] px H3 s'' s'' (Nat.lt_succ_self _) (fun p hp => (I''.2.pin p (by simp [hp])).1) hX I'' st'' nf3 w0 hg'')
  cases among : codeAmong gpos ps.toList with
  | some cv =>
    refine wpAny_genexprCode_hit hcode (cd.code gT hok) among ?_
    exact on cv s2.heap s2.toks #[] (Heap.ExtBut.refl _ _) (Nat.le_refl _) (by rw [Array.append_empty]; exact gT) (by rw [Array.append_empty]; exact hok)
  | none =>
    refine wpAny_genexprCodeX hcode (cd.code gT hok) (cd.tab gT) among fun c' h' tk hx hge hlt isC _ tab' _ => ?_
    obtain ⟨_, _, _, _, _, _, _, _, _, _, _, _, _, _, _, _, _, _, _, ok', _⟩ := isC
    exact on _ h' tk _ hx (Nat.le_trans hge (Nat.le_of_lt hlt)) tab'.2 ok'
end
/-! ### tuple(..) of a generator expression -/
abbrev lsO (acc : Array Value) (c : Nat) : Obj := { cls := .type "list", dict := none, data := .seq acc c, slots := #[] }
def pxL (S : Addr) : List V → Pins → Prop := fun ys px => ∃ acc c, px = [(S, lsO acc c)] ∧ Vals ys acc.toList
abbrev outL (W : Nat → Nat → List V → Hp → Prop) : Nat → Nat → List V → V → Hp → Prop := fun i m ys y H' => ys.length < sizeLine ∧ ∃ m', m' < m ∧ W (i + 1) m' (ys ++ [y]) H'
section
variable {X : Cx} {pins : List (Addr × Obj)} {σ : L2.St} {IG : Pins → Hp → Shared → Prop} {tn : Nat → Heap → Prop} {fp : List Addr} {W : Nat → Nat → List V → Hp → Prop} {Fin : List V → Hp → Prop} {a : Addr} {gn : Nat} {B : Around}
theorem vals_len {ys : List V} {acc : Array Value} (h : Vals ys acc.toList) : acc.size = ys.length := by
  rw [← Array.length_toList]
  exact h.length.symm
theorem gx_extend {S : Addr} {res : Value} {R : Result → Shared → Prop} (ig : IGokL X pins σ a gn tn IG) (hA : B.handled = none) (hd : B.depth < recursionLimit)
    (hR : ∀ ys acc c H s, Vals ys acc.toList → Fin ys H → IG [(S, lsO acc c)] H s → R (.ok (.ret res)) s) : ∀ (n i m : Nat) (ys : List V) (px : Pins) (H : Hp) (s : Shared),
    GRunL X B.in1 IG (pxL S) tn fp W (outL W) Fin gn i m n ys px H s → codeAny (model X.prog X.w) B (.builtin "list.extend.loop" ⟨[.ref S, .ref a, res], []⟩) R s := by
  intro n
  induction n with
  | zero =>
    intro i m ys px H s G
    obtain ⟨_, _, _, _, _, gs, _, h, _⟩ := G
    exact absurd h (Nat.not_lt_zero _)
  | succ n ih =>
    intro i m ys px H s G
    refine codeAny_builtin F.entry_extend_loop (Around.under_plainId (A := B) F.plain_extend_loop _ ▸ ?_)
    show wpAny _ B.in1 (pyNext (.ref a) >>= _) _ _ s
    refine wpAny_bind (gx_nextL ig hA hd G (fun v y H' s' i' m' ys' px' _ r out hX I' st' cont => ?_) fun ys' H' s' px' _ fin hX I' => ?_)
    · obtain ⟨acc, c, rfl, hv⟩ := hX
      obtain ⟨hlt, m'', hm, w'⟩ := out
      have own := ig.own I'
      have ln := vals_len hv
      have oth : ∀ b u, b ≠ S → s'.heap.get? b = some u → (s'.heap.update S (Obj.mapSeq (·.push v))).get? b = some u := fun b u nb e => (Heap.get?_update_other _ _ (Ne.symm nb)).trans e
      have self := Heap.get?_update_self (Obj.mapSeq (·.push v)) own rfl
      show wpAny _ B.in1 (updateSeq S (·.push v) >>= _) _ _ _
      refine wpAny_bind (wpAny_updateSeq own rfl (wpAny_pure ⟨plainId_quiet F.plain_extend_loop _, ih (i' + 1) m'' _ _ H' _ (cont m'' _ _ s'.toks hm w' ⟨acc.push v, _, rfl, ?_⟩ (ig.put I' oth self fun u z => nomatch z) (ig.tnp I' st' oth))⟩) (by omega)
        (by show (acc.push v).size ≤ sizeLine + 1; rw [Array.size_push]; omega))
      rw [Array.toList_push]
      exact Paired.snoc hv r
    · obtain ⟨acc, c, rfl, hv⟩ := hX
      exact wpAny_pure (hR ys' acc c H' s' hv fin I')
/-- what is collected from it -/
theorem gx_collect {Q : List Value → Shared → Prop} {E : Value → Shared → Prop} {m : Nat} {H : Hp} {s : Shared} (ig : IGokL X pins σ a gn tn IG) (hA : B.handled = none) (hd : B.depth < recursionLimit)
    (G : GStartL X B.in1 IG tn fp W (outL W) Fin gn m H s) (hQ : ∀ ys (acc : Array Value) H' s', Vals ys acc.toList → Fin ys H' → Inv X pins σ H' s' → Q acc.toList s') : wpAny (model X.prog X.w) B (collect (.ref a)) Q E s := by
  have g0 := ig.isgen G.1
  have lt : (a : Nat) < s.heap.objs.size := by
    obtain ⟨o, nm, qn, ho, _⟩ := g0
    exact Heap.lt_size ho
  have nSa : s.heap.objs.size ≠ a := Nat.ne_of_gt lt
  unfold collect
  refine wpAny_bind (wpAny_runValue (codeAny_builtin F.entry_proto_collect (Around.under_plainId (A := B) F.plain_proto_collect _ ▸ ?_)))
  show wpAny _ B.in1 (newList [] >>= fun l => again (.builtin "list.__iadd__" ⟨[l, .ref a], []⟩)) _ _ s
  refine wpAny_bind (wpAny_newObj_type (wpAny_pure ⟨plainId_quiet F.plain_list_iadd _, codeAny_builtin F.entry_list_iadd (Around.under_plainId (A := B) F.plain_list_iadd _ ▸ ?_)⟩))
  have k1 : ∀ b u, s.heap.get? b = some u → (s.heap.push { cls := .type "list", data := .seq ([] : List Value).toArray }).get? b = some u := fun b u e => Heap.get?_push_of_some _ e
  have gS : (s.heap.push { cls := .type "list", data := .seq ([] : List Value).toArray }).get? s.heap.objs.size = some (lsO #[] 0) := Heap.get?_push_size _ rfl
  generalize s.heap.push { cls := .type "list", data := .seq ([] : List Value).toArray } = h1 at k1 gS
  have ty : Shared.TypeIs { s with heap := h1 } (.ref a) "generator" := Heap.IsGen.typeIs (s := { s with heap := h1 }) (g0.keeps k1)
  show wpAny _ B.in1 (Builtin.List.listExtendWith (.ref s.heap.objs.size) (.ref a) (.ref s.heap.objs.size)) _ _ _
  unfold Builtin.List.listExtendWith
  refine wpAny_bind (wpAny_typeOf ty ?_)
  simp only [show Builtin.List.listSameRef (.ref s.heap.objs.size) (.ref a) = false by simp [Builtin.List.listSameRef, nSa], show (Value.type "generator" == Value.type "list") = false by decide, show (Value.type "generator" == Value.type "tuple") = false by decide, Bool.or_false, Bool.false_eq_true, if_false]
  refine wpAny_bind (wpAny_pyIter_gen (s := { s with heap := h1 }) (g0.keeps k1) (wpAny_bind (wpAny_holding ?_)))
  unfold Builtin.List.listLengthHint
  refine wpAny_bind (wpAny_specialOf ty F.gen_no_len ?_)
  show wpAny _ B.in1 (specialOf (Value.ref a) (Str.ofString "__length_hint__") >>= _) _ _ _
  refine wpAny_bind (wpAny_specialOf ty F.gen_no_hint (wpAny_pure ?_))
  show wpAny _ B.in1 (rule "list.extend.makes-room" >>= fun _ => Builtin.List.listTouch (.ref s.heap.objs.size) >>= fun _ => again (.builtin "list.extend.loop" ⟨[.ref s.heap.objs.size, .ref a, .ref s.heap.objs.size], []⟩)) _ _ _
  refine wpAny_bind (wpAny_rule (wpAny_bind ?_))
  show wpAny _ B.in1 (updateSeq s.heap.objs.size (·.push .none) >>= fun _ => updateSeq s.heap.objs.size (·.pop)) _ _ _
  refine wpAny_bind (wpAny_updateSeq gS rfl ?_)
  have gS2 := Heap.get?_update_self (Obj.mapSeq (·.push Value.none)) gS rfl
  refine wpAny_updateSeq gS2 rfl ?_
  have gS3 := Heap.get?_update_self (Obj.mapSeq (·.pop)) gS2 rfl
  have oth : ∀ b u, b ≠ s.heap.objs.size → h1.get? b = some u → ((h1.update s.heap.objs.size (Obj.mapSeq (·.push Value.none))).update s.heap.objs.size (Obj.mapSeq (·.pop))).get? b = some u := fun b u nb e =>
    (Heap.get?_update_other _ _ (Ne.symm nb)).trans ((Heap.get?_update_other _ _ (Ne.symm nb)).trans e)
  have I1 := ig.add (tk := s.toks) G.1 k1 (Nat.le_refl _) gS fun u z => nomatch z
  have st1 := ig.tnk G.2.1 k1
  have I3 := ig.put (tk := s.toks) I1 oth gS3 fun u z => nomatch z
  have st3 := ig.tnp I1 st1 oth
  refine wpAny_pure ⟨plainId_quiet F.plain_extend_loop _, gx_extend ig hA hd (fun ys acc c H' s' hv fin I' => ?_) (m + 1) 0 m [] _ H _ (G.run (PX := pxL s.heap.objs.size) ⟨#[], _, rfl, .nil⟩ I3 st3)⟩
  show wpAny _ B (load s.heap.objs.size >>= _) _ _ s'
  exact wpAny_bind (wpAny_load (ig.own I') (wpAny_pure (hQ ys acc H' s' hv fin (ig.back I'))))
theorem gx_tuple {A : Around} {Q : Value → Shared → Prop} {E : Value → Shared → Prop} {m : Nat} {H : Hp} {s : Shared} (ig : IGokL X pins σ a gn tn IG) (hA : A.handled = none) (hd : A.depth < recursionLimit)
    (G : GStartL X A.in1.in1.in1 IG tn fp W (outL W) Fin gn m H s) (hz : ∀ ys H', Fin ys H' → ys.length ≤ sizeLine)
    (hQ : ∀ ys (acc : Array Value) H' s', Vals ys acc.toList → Fin ys H' → Inv X pins σ H' s' → Q (.ref s'.heap.objs.size) { s' with heap := s'.heap.push { cls := .type "tuple", data := .seq acc } }) :
    wpAny (model X.prog X.w) A (call (.type "tuple") [.ref a]) Q E s := by
  refine callType_codes (Q₁ := fun obj s1 => s1.TypeIs obj "tuple" ∧ Q obj s1) F.called_tuple (F.typeCall_tuple_1 _) F.entry_object_init (codeAny_of_tree ?_) fun obj s1 h1 =>
    ⟨h1.1, F.args_object_init_2 obj _, object_init_meets F.called_tuple.init.lookup F.called_tuple.made (by decide) X.prog X.w A.in1 _ s1 ⟨h1.1, rfl, h1.2⟩⟩
  show wpAny _ A.in1.in1 (do checkBuiltinCall "tuple.__new__" ⟨[.type "tuple", .ref a], []⟩; again (.builtin "tuple.__new__" ⟨[.type "tuple", .ref a], []⟩)) _ _ s
  refine wpAny_bind (wpAny_of_eq (F.newCall_tuple_1 _) (wpAny_pure ⟨plainId_quiet F.plain_tuple_new _, codeAny_builtin F.entry_tuple_new (Around.under_plainId (A := A.in1) F.plain_tuple_new _ ▸ ?_)⟩))
  have e1 := sub_tuple_self
  have e2 := init_tuple_lookup
  have e3 := madeHere_tuple
  have ty : s.TypeIs (.ref a) "generator" := Heap.IsGen.typeIs (ig.isgen G.1)
  wp_walk using wpAny_typeOf ty, gx_collect (B := A.in1.in1) ig hA hd G
  intro ys acc H' s' hv fin I'
  show wpAny _ _ (Builtin.Tuple.tupleExact acc.toList.toArray >>= fun v => ret v) _ _ _
  unfold Builtin.Tuple.tupleExact
  rw [show acc.toList.toArray = acc by simp]
  exact wpAny_bind (wpAny_newObj_type (wpAny_pure ⟨⟨_, Heap.get?_push_size _ rfl, rfl⟩, hQ ys acc H' s' hv fin I'⟩) (by show acc.size ≤ sizeLine; rw [vals_len hv]; exact hz ys H' fin))
end
def tTupG (T : Addr) (wi : TI) (g : TG) (tt : TT) (te : TE) (vs : List Nat) : TE := fun σ H Q => wi σ H fun J H1 => GxR.TabG H1 T ∧ ∀ H2, GxR.Tabbed T H1 H2 → ∃ W : Nat → Nat → List V → Hp → Prop, (∃ m, W 0 m [] H2) ∧
  GTurnsL J g tt te vs σ W (outL W) (fun ys H' => ys.length ≤ sizeLine ∧ ∀ p, H' p = none → Q (.ref p) (upd H' p (.tup ys)))
section
variable {X : Cx} {pins : List (Addr × Obj)} {σ : L2.St}
theorem pe_tupG {c T : Addr} {elt tg iter : Expr} {ifs : List Expr} {scope : Scope} {own : List (Str × Nat)} {gpos p pos : Pos} {wi : TI} {g : TG} {tt : TT} {te : TE} {k : Nat}
    (hr : Room (k + 1) X.A) (hgl : Gl X "tuple") (hm : X.mg "tuple" = none) (hc : X.calm = true) (hN : X.N.Nodup) (TB : GxR.TabB X.base X.mg c T) (hcode : X.env.code = .ref c) (ok : GOk X.N X.env.scope scope own) (hi : PI X tg iter wi)
    (hg : ∀ (A' : Around) (s3 : Shared) (H3 : Hp) (C : Addr) (code : Value) (fp : List Addr), PG (gxc X A' s3 H3 (genE X scope C code) fp) tg g)
    (ht : ∀ (A' : Around) (s3 : Shared) (H3 : Hp) (C : Addr) (code : Value) (fp : List Addr), Room k A' → PTs (gxc X A' s3 H3 (genE X scope C code) fp) ifs tt)
    (he : ∀ (A' : Around) (s3 : Shared) (H3 : Hp) (C : Addr) (code : Value) (fp : List Addr), Room k A' → PE (gxc X A' s3 H3 (genE X scope C code) fp) elt te)
    (hs : ∀ v, genFold iter X.env v = pure v := by intro _; rfl)
    (hst : starEach [.GeneratorExp elt [⟨tg, iter, ifs, 0⟩] scope gpos] X.env = (false, eval (.GeneratorExp elt [⟨tg, iter, ifs, 0⟩] scope gpos) X.env) :: starEach [] X.env := by rfl) :
    PE X (.Call (.Name "tuple" p) [.GeneratorExp elt [⟨tg, iter, ifs, 0⟩] scope gpos] [] pos) (tTupG T wi g tt te (own.map (·.2))) := by
  refine ⟨fun pins s σ H Q I h => wpAny_Call_Name_kw (ld_blt I hgl hm (show bootBuiltins "tuple" = some (.type "tuple") by decide +kernel) ?_)⟩
  refine PyProof.Rows.callWith_type1 ?_ hst (by rfl)
  rw [hst]
  have hA := I.ok.hd hc
  have hf := I.ok.frames
  refine Calls.spliced_cons (gx_mkL (Outf := outL) (Fin := fun ys H' => ys.length ≤ sizeLine ∧ ∀ p, H' p = none → Q (.ref p) (upd H' p (.tup ys)))
    X.A.in1.in1.in1 hA hf (Nat.le_refl _) (by show X.A.units + 1 + 1 + 1 ≤ _; omega) hr hc hN TB hcode ok hi hg ht he hs I h ?_)
  intro IG tn fp W a gn m H2 s5 ig G
  refine Calls.spliced_nil (gx_tuple ig hA (Nat.lt_of_le_of_lt (by omega : X.A.depth ≤ X.A.depth + 3 * (k + 1) + 5) hr.dp) G (fun ys H' z => z.1) fun ys acc H' s' hv fin I' => ?_)
  have nw := I'.hok.fresh (Nat.le_refl s'.heap.objs.size)
  exact ⟨.ref s'.heap.objs.size, _, I'.laid (t' := s'.toks) (o := .tup ys) (fun b u e => Heap.get?_push_of_some _ e) (Nat.le_refl _) ⟨fin.1, acc.toList, hv, ⟨_, Heap.get?_push_size _ rfl, rfl, 0, by show Data.seq acc 0 = Data.seq acc.toList.toArray 0; rw [Array.toArray_toList]⟩⟩, rfl, fin.2 _ nw⟩
end
/-! ### sum(..) of a generator expression -/
def pxN (S : Addr) : List V → Pins → Prop := fun ys px => ∃ (ns : List Int) (t : Tok) (c : Nat), ys = ns.map V.int ∧ px = [(S, lsO #[.int ns.sum t] c)]
abbrev outN (W : Nat → Nat → List V → Hp → Prop) : Nat → Nat → List V → V → Hp → Prop := fun i m ys y H' => (∃ k, y = .int k) ∧ ∃ m', m' < m ∧ W (i + 1) m' (ys ++ [y]) H'
theorem sum_snoc (ns : List Int) (k : Int) : (ns ++ [k]).sum = ns.sum + k := by simp
section
variable {X : Cx} {pins : List (Addr × Obj)} {σ : L2.St} {IG : Pins → Hp → Shared → Prop} {tn : Nat → Heap → Prop} {fp : List Addr} {W : Nat → Nat → List V → Hp → Prop} {Fin : List V → Hp → Prop} {a : Addr} {gn : Nat} {B : Around}
theorem gx_sumloop {S : Addr} {R : Result → Shared → Prop} (ig : IGokL X pins σ a gn tn IG) (hA : B.handled = none) (hd : B.depth < recursionLimit)
    (hR : ∀ (ns : List Int) (t : Tok) (H : Hp) (s : Shared), Fin (ns.map V.int) H → Inv X pins σ H s → R (.ok (.ret (.int ns.sum t))) s) : ∀ (n i m : Nat) (ys : List V) (px : Pins) (H : Hp) (s : Shared) (st : Int), (st = 0 ∨ st = 2) →
    GRunL X B.in1 IG (pxN S) tn fp W (outN W) Fin gn i m n ys px H s → codeAny (model X.prog X.w) B (.builtin "sum.loop" ⟨[.ref a, .ref S, rawInt st, rawInt 0], []⟩) R s := by
  intro n
  induction n with
  | zero =>
    intro i m ys px H s st _ G
    obtain ⟨_, _, _, _, _, gs, _, h, _⟩ := G
    exact absurd h (Nat.not_lt_zero _)
  | succ n ih =>
    intro i m ys px H s st hst G
    obtain ⟨ns, t, c, rfl, rfl⟩ := id G.1
    have own0 := ig.own G.2.1
    refine codeAny_builtin F.entry_sum_loop (Around.under_plainId (A := B) F.plain_sum_loop _ ▸ ?_)
    show wpAny _ B.in1 (seqItems? (.ref S) >>= _) _ _ s
    refine wpAny_bind (wpAny_seqItems own0 rfl ?_)
    show wpAny _ B.in1 (tryCatch (pyNext (.ref a)) _ >>= _) _ _ s
    refine wpAny_bind (wpAny_tryCatch (gx_nextL ig hA hd G (fun v y H' s' i' m' ys' px' h00 r out hX I' st' cont => ?_) fun ys' H' s' px' h00 fin hX I' => ?_))
    · obtain ⟨ns', t', c', rfl, rfl⟩ := hX
      have e0 := (h00 (S, lsO #[.int ns'.sum t'] c') (by simp)).symm.trans own0
      have es : ns'.sum = ns.sum ∧ t' = t ∧ c' = c := by
        simp only [Option.some.injEq, Obj.mk.injEq, Data.seq.injEq, Array.mk.injEq, List.cons.injEq, Value.int.injEq] at e0
        exact ⟨e0.2.2.1.1.1.1, e0.2.2.1.1.1.2, e0.2.2.1.2⟩
      obtain ⟨e1, rfl, rfl⟩ := es
      obtain ⟨⟨k, rfl⟩, m'', hm, w'⟩ := out
      obtain ⟨tk, rfl⟩ : ∃ tk, v = .int k tk := r
      have own := ig.own I'
      rw [e1] at own
      -- the state behind the store
      have next : ∀ (tq : Tok) (c2 : Nat) (h2 : Heap) (tks : Nat) (st2 : Int), (st2 = 0 ∨ st2 = 2) → (∀ b u, b ≠ S → s'.heap.get? b = some u → h2.get? b = some u) → h2.get? S = some (lsO #[.int (ns.sum + k) tq] c2) →
          codeAny (model X.prog X.w) B (.builtin "sum.loop" ⟨[.ref a, .ref S, rawInt st2, rawInt 0], []⟩) R { s' with heap := h2, toks := tks } := fun tq c2 h2 tks st2 hst2 oth self =>
        ih (i' + 1) m'' _ _ H' _ st2 hst2 (cont m'' [(S, lsO #[.int (ns.sum + k) tq] c2)] h2 tks hm w' ⟨ns' ++ [k], tq, c2, by rw [List.map_append]; rfl, by rw [sum_snoc, e1]⟩ (ig.put I' oth self fun u z => nomatch z) (ig.tnp I' st' oth))
      have oth1 : ∀ {f : Array Value → Array Value} {h : Heap}, (∀ b u, b ≠ S → s'.heap.get? b = some u → h.get? b = some u) → ∀ b u, b ≠ S → s'.heap.get? b = some u → (h.update S (Obj.mapSeq f)).get? b = some u := fun hh b u nb e => (Heap.get?_update_other _ _ (Ne.symm nb)).trans (hh b u nb e)
      have o0 : ∀ b u, b ≠ S → s'.heap.get? b = some u → s'.heap.get? b = some u := fun _ _ _ e => e
      rcases hst with rfl | rfl
      · show wpAny _ B.in1 (if (_ : Bool) = true then (mkInt (ns.sum + k) >>= _) else _) _ _ _
        split
        · refine wpAny_bind (wpAny_mkInt ?_)
          show wpAny _ B.in1 (updateSeq S (fun _ => #[.int (ns.sum + k) s'.toks]) >>= _) _ _ _
          exact wpAny_bind (wpAny_updateSeq own rfl (wpAny_pure ⟨plainId_quiet F.plain_sum_loop _, next s'.toks _ _ _ 0 (.inl rfl) (oth1 o0) (Heap.get?_update_self _ own rfl)⟩))
        · refine wpAny_bind (wpAny_rule (wpAny_bind (wpAny_attempt (wpAny_holding (wpAny_add_int ?_)))))
          show wpAny _ B.in1 (updateSeq S (fun _ => #[.int (ns.sum + k) s'.toks]) >>= _) _ _ _
          refine wpAny_bind (wpAny_updateSeq own rfl ?_)
          have own2 := Heap.get?_update_self (Obj.mapSeq fun _ => #[Value.int (ns.sum + k) s'.toks]) own rfl
          exact wpAny_bind (wpAny_letGo (wpAny_bind (wpAny_updateSeq own2 rfl (wpAny_pure ⟨plainId_quiet F.plain_sum_loop _, next s'.toks _ _ _ 2 (.inr rfl) (oth1 (oth1 o0)) (Heap.get?_update_self _ own2 rfl)⟩))))
      · show wpAny _ B.in1 ((holding [Value.int k tk] (binaryOp .Add (.int ns.sum t') (.int k tk))).attempt >>= _) _ _ _
        refine wpAny_bind (wpAny_attempt (wpAny_holding (wpAny_add_int ?_)))
        show wpAny _ B.in1 (updateSeq S (fun _ => #[.int (ns.sum + k) s'.toks]) >>= _) _ _ _
        refine wpAny_bind (wpAny_updateSeq own rfl ?_)
        have own2 := Heap.get?_update_self (Obj.mapSeq fun _ => #[Value.int (ns.sum + k) s'.toks]) own rfl
        exact wpAny_bind (wpAny_letGo (wpAny_bind (wpAny_updateSeq own2 rfl (wpAny_pure ⟨plainId_quiet F.plain_sum_loop _, next s'.toks _ _ _ 2 (.inr rfl) (oth1 (oth1 o0)) (Heap.get?_update_self _ own2 rfl)⟩))))
    · obtain ⟨ns', t', c', rfl, rfl⟩ := hX
      have e0 := (h00 (S, lsO #[.int ns'.sum t'] c') (by simp)).symm.trans own0
      have es : ns'.sum = ns.sum ∧ t' = t ∧ c' = c := by
        simp only [Option.some.injEq, Obj.mk.injEq, Data.seq.injEq, Array.mk.injEq, List.cons.injEq, Value.int.injEq] at e0
        exact ⟨e0.2.2.1.1.1.1, e0.2.2.1.1.1.2, e0.2.2.1.2⟩
      obtain ⟨e1, rfl, rfl⟩ := es
      have := hR ns' t' H' s' fin (ig.back I')
      rw [e1] at this
      exact wpAny_pure this
theorem gx_sum {Q : Value → Shared → Prop} {E : Value → Shared → Prop} {m : Nat} {H : Hp} {s : Shared} (ig : IGokL X pins σ a gn tn IG) (hA : B.handled = none) (hd : B.depth < recursionLimit)
    (G : GStartL X B.in1 IG tn fp W (outN W) Fin gn m H s) (hQ : ∀ (ns : List Int) (t : Tok) (H' : Hp) (s' : Shared), Fin (ns.map V.int) H' → Inv X pins σ H' s' → Q (.int ns.sum t) s') :
    wpAny (model X.prog X.w) B (call (.builtin "sum") [.ref a]) Q E s := by
  have g0 := ig.isgen G.1
  refine call_function_tree F.kind_sum F.plain_sum F.entry_sum (F.args_sum1 _) ?_
  unfold Builtin.«sum»
  simp only [List.length_cons, List.length_nil]
  rw [if_neg (by decide)]
  refine wpAny_bind (wpAny_of_eq (show Builtin.Builtins.bindParams "sum" ["start"] 0 { } = pure [none] from rfl) (wpAny_bind (wpAny_pyIter_gen g0 (wpAny_bind (wpAny_mkInt (wpAny_bind (wpAny_pure ?_)))))))
  simp only [List.forIn_cons, List.forIn_nil]
  refine wpAny_bind (wpAny_bind (wpAny_bind (wpAny_isInstance (T := "int") (b := false) (typeIs_int _ _ _) PySem.sub_int_str ?_)))
  simp only [Bool.false_eq_true, if_false]
  refine wpAny_pure (wpAny_bind (wpAny_bind (wpAny_isInstance (T := "int") (b := false) (typeIs_int _ _ _) PySem.sub_int_bytes ?_)))
  simp only [Bool.false_eq_true, if_false]
  refine wpAny_pure (wpAny_bind (wpAny_bind (wpAny_isInstance (T := "int") (b := false) (typeIs_int _ _ _) PySem.sub_int_bytearray ?_)))
  simp only [Bool.false_eq_true, if_false]
  refine wpAny_pure (wpAny_pure (wpAny_bind (wpAny_newObj_type ?_)))
  have k1 : ∀ b u, s.heap.get? b = some u → (s.heap.push { cls := .type "list", data := .seq ([Value.int 0 s.toks] : List Value).toArray }).get? b = some u := fun b u e => Heap.get?_push_of_some _ e
  have gS : (s.heap.push { cls := .type "list", data := .seq ([Value.int 0 s.toks] : List Value).toArray }).get? s.heap.objs.size = some (lsO #[.int ([] : List Int).sum s.toks] 0) := Heap.get?_push_size _ rfl
  exact wpAny_pure ⟨plainId_quiet F.plain_sum_loop _, gx_sumloop ig hA hd (fun ns t H' s' fin I' => hQ ns t H' s' fin I') (m + 1) 0 m [] _ H _ 0 (.inl rfl) (G.run (PX := pxN s.heap.objs.size) ⟨[], s.toks, 0, rfl, rfl⟩ (ig.add (tk := _) G.1 k1 (Nat.le_refl _) gS fun u z => nomatch z) (ig.tnk G.2.1 k1))⟩
end
def tSumG (T : Addr) (wi : TI) (g : TG) (tt : TT) (te : TE) (vs : List Nat) : TE := fun σ H Q => wi σ H fun J H1 => GxR.TabG H1 T ∧ ∀ H2, GxR.Tabbed T H1 H2 → ∃ W : Nat → Nat → List V → Hp → Prop, (∃ m, W 0 m [] H2) ∧
  GTurnsL J g tt te vs σ W (outN W) (fun ys H' => ∀ ns : List Int, ys = ns.map V.int → Q (.int ns.sum) H')
section
variable {X : Cx} {pins : List (Addr × Obj)} {σ : L2.St}
theorem pe_sumG {c T : Addr} {elt tg iter : Expr} {ifs : List Expr} {scope : Scope} {own : List (Str × Nat)} {gpos p pos : Pos} {wi : TI} {g : TG} {tt : TT} {te : TE} {k : Nat}
    (hr : Room (k + 1) X.A) (hgl : Gl X "sum") (hm : X.mg "sum" = none) (hc : X.calm = true) (hN : X.N.Nodup) (TB : GxR.TabB X.base X.mg c T) (hcode : X.env.code = .ref c) (ok : GOk X.N X.env.scope scope own) (hi : PI X tg iter wi)
    (hg : ∀ (A' : Around) (s3 : Shared) (H3 : Hp) (C : Addr) (code : Value) (fp : List Addr), PG (gxc X A' s3 H3 (genE X scope C code) fp) tg g)
    (ht : ∀ (A' : Around) (s3 : Shared) (H3 : Hp) (C : Addr) (code : Value) (fp : List Addr), Room k A' → PTs (gxc X A' s3 H3 (genE X scope C code) fp) ifs tt)
    (he : ∀ (A' : Around) (s3 : Shared) (H3 : Hp) (C : Addr) (code : Value) (fp : List Addr), Room k A' → PE (gxc X A' s3 H3 (genE X scope C code) fp) elt te)
    (hs : ∀ v, genFold iter X.env v = pure v := by intro _; rfl)
    (hst : starEach [.GeneratorExp elt [⟨tg, iter, ifs, 0⟩] scope gpos] X.env = (false, eval (.GeneratorExp elt [⟨tg, iter, ifs, 0⟩] scope gpos) X.env) :: starEach [] X.env := by rfl) :
    PE X (.Call (.Name "sum" p) [.GeneratorExp elt [⟨tg, iter, ifs, 0⟩] scope gpos] [] pos) (tSumG T wi g tt te (own.map (·.2))) := by
  refine ⟨fun pins s σ H Q I h => wpAny_Call_Name_kw (ld_blt I hgl hm (show bootBuiltins "sum" = some (.builtin "sum") by decide +kernel) ?_)⟩
  refine PyProof.Rows.callWith_builtin1 ?_ hst (by rfl)
  rw [hst]
  have hA := I.ok.hd hc
  have hf := I.ok.frames
  refine Calls.spliced_cons (gx_mkL (Outf := outN) (Fin := fun ys H' => ∀ ns : List Int, ys = ns.map V.int → Q (.int ns.sum) H')
    X.A.in1 hA hf (Nat.le_refl _) (by show X.A.units + 1 ≤ _; omega) hr hc hN TB hcode ok hi hg ht he hs I h ?_)
  intro IG tn fp W a gn m H2 s5 ig G
  exact Calls.spliced_nil (gx_sum ig hA (Nat.lt_of_le_of_lt (by omega : X.A.depth ≤ X.A.depth + 3 * (k + 1) + 5) hr.dp) G fun ns t H' s' fin I' => ⟨.int ns.sum, H', I', ⟨t, rfl⟩, fin ns rfl⟩)
end
/-! ### along_tracks -/
/-- nothing but the tables has changed -/
def TabsG (Ts : List Addr) (H : Hp) : Prop := ∀ T ∈ Ts, GxR.TabG H T
structure TB1 (Ts : List Addr) (H H' : Hp) : Prop where
  tg : TabsG Ts H'
  kp : ∀ a o, H a = some o → (∀ ps, o ≠ .tbl ps) → H' a = some o
  free : ∀ a, H' a = none → H a = none
theorem tabg_sm {H H' : Hp} {T : Addr} (sm : Same H H') (t : GxR.TabG H T) : GxR.TabG H' T := by
  obtain ⟨ps, e, ok⟩ := t
  exact ⟨ps, sm _ _ e, ok⟩
theorem tabs_sm {H H' : Hp} {Ts : List Addr} (sm : Same H H') (t : TabsG Ts H) : TabsG Ts H' := fun T hT => tabg_sm sm (t T hT)
theorem TB1.same {Ts : List Addr} {H H' : Hp} (t : TabsG Ts H) (sm : Same H H') : TB1 Ts H H' := ⟨tabs_sm sm t, fun a o e _ => sm a o e, fun a n => sm.free n⟩
theorem TB1.tr {Ts : List Addr} {H H1 H2 : Hp} (a : TB1 Ts H H1) (b : TB1 Ts H1 H2) : TB1 Ts H H2 := ⟨b.1, fun c o e n => b.2 c o (a.2 c o e n) n, fun c n => a.free c (b.free c n)⟩
theorem TB1.tab {Ts : List Addr} {T : Addr} {H H' : Hp} (t : GxR.Tabbed T H H') (g : TabsG Ts H) (hT : T ∈ Ts) : TB1 Ts H H' := by
  refine ⟨fun T' hT' => ?_, fun a o e n => ?_, fun a n => ?_⟩
  · by_cases z : T' = T
    · rw [z]
      exact t.1
    · obtain ⟨ps, e, ok⟩ := g T' hT'
      exact ⟨ps, (t.2 T' z).trans e, ok⟩
  · have na : a ≠ T := fun z => by
      obtain ⟨ps, e', _⟩ := g T hT
      rw [z, e'] at e
      exact n ps (Option.some.inj e).symm
    rw [t.2 a na]
    exact e
  · by_cases z : a = T
    · obtain ⟨ps, e, _⟩ := t.1
      rw [z, e] at n
      cases n
    · rw [← t.2 a z]
      exact n
theorem TB1.tk {Ts : List Addr} {H H' : Hp} (t : TB1 Ts H H') : TK H H' := fun a xs e => t.2 a _ e fun ps z => nomatch z
theorem TB1.lst {Ts : List Addr} {H H' : Hp} (t : TB1 Ts H H') {a : Addr} {xs : List V} (e : H a = some (.lst xs)) : H' a = some (.lst xs) := t.2 a _ e fun ps z => nomatch z
theorem TB1.dct {Ts : List Addr} {H H' : Hp} (t : TB1 Ts H H') {a : Addr} {kvs : List (Key × V)} (e : H a = some (.dK kvs)) : H' a = some (.dK kvs) := t.2 a _ e fun ps z => nomatch z
theorem tabs_upd {H : Hp} {Ts : List Addr} {l : Addr} {xs : List V} {o : HO} (t : TabsG Ts H) (e : H l = some (.lst xs)) : TabsG Ts (upd H l o) := fun T hT => by
  obtain ⟨ps, e1, ok⟩ := t T hT
  exact ⟨ps, (upd_ne (ne_of e1 e (by intro z; cases z))).trans e1, ok⟩
/-- a list that came since is written -/
theorem TB1.put {Ts : List Addr} {H H' : Hp} {l : Addr} {xs : List V} {o : HO} (t : TB1 Ts H H') (n : H l = none) (e : H' l = some (.lst xs)) : TB1 Ts H (upd H' l o) :=
  ⟨tabs_upd t.1 e, fun a u eu na => (upd_ne (ne_of_none eu n)).trans (t.2 a u eu na), fun a na => by
    by_cases z : a = l
    · rw [z]
      exact n
    · rw [upd_ne z] at na
      exact t.free a na⟩
/-! ### lots, their mathematics -/
structure Lot where
  n : Str
  left : Int
  price : Int
def Lot.vals (x : Lot) : List V := [.str x.n, .int x.left, .int x.price]
def Lot.D (x : Lot) : PyData := .tuple [.str x.n, .int x.left, .int x.price]
abbrev LotsAt (H : Hp) : List Addr → List Lot → Prop := Paired fun a x => H a = some (.tup x.vals)
theorem lots_on {H H' : Hp} (k : TK H H') {as : List Addr} {xs : List Lot} (h : LotsAt H as xs) : LotsAt H' as xs := Paired.mapP h fun a x e => k _ _ e
theorem Lot.dp {K : PySem.W.Frag} {H : Hp} {a : Addr} {x : Lot} (h : H a = some (.tup x.vals)) : Dp K H (.ref a) x.D := .tup (SqT.of h) (.cons (.str _) (.cons (.int _) (.cons (.int _) .nil)))
theorem lots_dp {K : PySem.W.Frag} {H : Hp} {as : List Addr} {L : List Lot} (h : LotsAt H as L) : DpAll K H (as.map V.ref) (L.map Lot.D) := by
  induction h with
  | nil => exact .nil
  | cons a _ ih => exact .cons (Lot.dp a) ih
structure Prt where
  n : Str
  k : Int
def Prt.vals (x : Prt) : List V := [.str x.n, .int x.k]
abbrev PrtsAt (H : Hp) : List Addr → List Prt → Prop := Paired fun a x => H a = some (.tup x.vals)
theorem prts_on {H H' : Hp} (k : TK H H') {as : List Addr} {xs : List Prt} (h : PrtsAt H as xs) : PrtsAt H' as xs := Paired.mapP h fun a x e => k _ _ e
theorem paired_get {α β : Type} {F : α → β → Prop} {as : List α} {es : List β} (h : Paired F as es) : ∀ {i : Nat} {a : α}, as[i]? = some a → ∃ e, es[i]? = some e ∧ F a e := by
  induction h with
  | nil => intro i a q; cases q
  | @cons a0 e0 as es q _ ih =>
    intro i a z
    cases i with
    | zero => exact ⟨e0, rfl, by rw [← Option.some.inj z]; exact q⟩
    | succ n => exact ih (i := n) z
def mnI (i j : Int) : Int := if j < i then j else i
def mxI (i j : Int) : Int := if j > i then j else i
def rMaxO : List V → Hp → VK → Prop := fun vs H W => ∃ a b : Int, vs = [V.int a, V.int b] ∧ W (V.int (mxI a b)) H
def rMinO : List V → Hp → VK → Prop := fun vs H W => ∃ a b : Int, vs = [V.int a, V.int b] ∧ W (V.int (mnI a b)) H
theorem mnI_eq (i j : Int) : mnI i j = min i j := by unfold mnI; omega
theorem mxI_eq (i j : Int) : mxI i j = max i j := by unfold mxI; omega
/-! what is taken -/
def tkStep (s : List Prt × Int) (l : Lot) : List Prt × Int := if 0 < mnI l.left s.2 then (s.1 ++ [⟨l.n, mnI l.left s.2⟩], s.2 - mnI l.left s.2) else s
def tkS (L : List Lot) (b : Int) : List Prt × Int := L.foldl tkStep ([], b)
theorem tkS_snoc (L : List Lot) (l : Lot) (b : Int) : tkS (L ++ [l]) b = tkStep (tkS L b) l := by
  unfold tkS
  rw [List.foldl_append]
  rfl
def tkR : List Lot → Int → List Prt
  | [], _ => []
  | l :: r, b => if 0 < mnI l.left b then ⟨l.n, mnI l.left b⟩ :: tkR r (b - mnI l.left b) else tkR r b
def tkB : List Lot → Int → Int
  | [], b => b
  | l :: r, b => if 0 < mnI l.left b then tkB r (b - mnI l.left b) else tkB r b
theorem tk_fold : ∀ (L : List Lot) (acc : List Prt) (b : Int), L.foldl tkStep (acc, b) = (acc ++ tkR L b, tkB L b)
  | [], acc, b => by rw [tkR, tkB, List.append_nil]; rfl
  | l :: r, acc, b => by
    rw [List.foldl_cons, tkR, tkB]
    unfold tkStep
    by_cases z : 0 < mnI l.left b
    · rw [if_pos z, if_pos z, if_pos z]
      have := tk_fold r (acc ++ [⟨l.n, mnI l.left b⟩]) (b - mnI l.left b)
      rw [List.append_assoc] at this
      exact this
    · rw [if_neg z, if_neg z, if_neg z]
      exact tk_fold r acc b
theorem tkS_eq (L : List Lot) (b : Int) : tkS L b = (tkR L b, tkB L b) := by
  unfold tkS
  rw [tk_fold, List.nil_append]
theorem tkR_sub : ∀ (L : List Lot) (b : Int), List.Sublist ((tkR L b).map Prt.n) (L.map Lot.n)
  | [], b => List.Sublist.slnil
  | l :: r, b => by
    rw [tkR]
    by_cases z : 0 < mnI l.left b
    · rw [if_pos z]
      exact (tkR_sub r _).cons₂ _
    · rw [if_neg z]
      exact (tkR_sub r _).cons _
theorem tkR_len (L : List Lot) (b : Int) : (tkR L b).length ≤ L.length := by
  have := (tkR_sub L b).length_le
  rw [List.length_map, List.length_map] at this
  exact this
theorem tkS_len (L : List Lot) (b : Int) : (tkS L b).1.length ≤ L.length := by
  rw [tkS_eq]
  exact tkR_len L b
theorem tkR_zero : ∀ (L : List Lot) (b : Int), b ≤ 0 → tkR L b = [] ∧ tkB L b = b
  | [], b, _ => ⟨rfl, rfl⟩
  | l :: r, b, h => by
    have z : ¬ 0 < mnI l.left b := by rw [mnI_eq]; omega
    rw [tkR, tkB, if_neg z, if_neg z]
    exact tkR_zero r b h
def pval : List Prt → Str → Int
  | [], _ => 0
  | p :: r, x => if p.n = x then p.k else pval r x
theorem pval_no : ∀ {ps : List Prt} {x : Str}, x ∉ ps.map Prt.n → pval ps x = 0
  | [], _, _ => rfl
  | p :: r, x, h => by
    rw [pval, if_neg fun z => h (by rw [← z]; exact List.mem_cons_self)]
    exact pval_no fun z => h (List.mem_cons_of_mem _ z)
abbrev pkv (ps : List Prt) : List (Key × V) := ps.map fun p => (Sum.inr p.n, V.int p.k)
theorem pkv_val : ∀ (ps : List Prt) (x : Str), (valV (pkv ps) (Sum.inr x)).getD (.int 0) = .int (pval ps x)
  | [], x => rfl
  | p :: r, x => by
    have ih := pkv_val r x
    rw [pval]
    by_cases z : p.n = x
    · rw [if_pos z]
      show ((valV ((Sum.inr p.n, V.int p.k) :: pkv r) (Sum.inr x)).getD (.int 0)) = _
      rw [valV_pos (by rw [z])]
      rfl
    · rw [if_neg z, ← ih]
      refine congrArg (fun y => Option.getD y (V.int 0)) ?_
      show ((((Sum.inr p.n, V.int p.k) :: pkv r).find? fun kv => decide (kv.1 = Sum.inr x)).map (·.2)) = ((pkv r).find? fun kv => decide (kv.1 = Sum.inr x)).map (·.2)
      rw [List.find?_cons]
      have : decide ((Sum.inr p.n : Key) = Sum.inr x) = false := decide_eq_false fun y => z (Sum.inr.inj y)
      rw [this]
theorem pkv_put {ps : List Prt} {p : Prt} (h : p.n ∉ ps.map Prt.n) : putK (pkv ps) (Sum.inr p.n) (.int p.k) = pkv (ps ++ [p]) := by
  have no : ((pkv ps).any fun kv => decide (kv.1 = Sum.inr p.n)) = false := by
    rw [List.any_eq_false]
    intro kv hk
    obtain ⟨q, hq, rfl⟩ := List.mem_map.mp hk
    intro z
    have z' : q.n = p.n := Sum.inr.inj (of_decide_eq_true z)
    exact h (by rw [← z']; exact List.mem_map_of_mem hq)
  unfold putK
  rw [no, if_neg (by intro z; cases z)]
  show pkv ps ++ _ = List.map _ (ps ++ [p])
  rw [List.map_append]
  rfl
/-! what is left -/
def lessL (ps : List Prt) (l : Lot) : Lot := ⟨l.n, l.left - pval ps l.n, l.price⟩
def posL (l : Lot) : Bool := decide (l.left > 0)
def restL (L : List Lot) (b : Int) : List Lot := (L.map (lessL (tkS L b).1)).filter posL
def dropF : List Lot → Int → List Lot
  | [], _ => []
  | l :: r, b => if l.left ≤ b then dropF r (b - l.left) else ⟨l.n, l.left - b, l.price⟩ :: r
theorem less_no {ps : List Prt} {L : List Lot} (h : ∀ l ∈ L, l.n ∉ ps.map Prt.n) : L.map (lessL ps) = L := by
  induction L with
  | nil => rfl
  | cons l r ih =>
    rw [List.map_cons, ih fun x hx => h x (List.mem_cons_of_mem _ hx)]
    refine congrArg (· :: r) ?_
    unfold lessL
    rw [pval_no (h l List.mem_cons_self), Int.sub_zero]
theorem pos_all {L : List Lot} (h : ∀ l ∈ L, 0 < l.left) : L.filter posL = L := List.filter_eq_self.mpr fun l hl => decide_eq_true (h l hl)
theorem rest_drop : ∀ {L : List Lot} {b : Int}, (L.map Lot.n).Nodup → (∀ l ∈ L, 0 < l.left) → 0 ≤ b → (L.map (lessL (tkR L b))).filter posL = dropF L b
  | [], _, _, _, _ => rfl
  | l :: r, b, nd, hp, hb => by
    obtain ⟨n1, n2⟩ := List.nodup_cons.mp nd
    have pr : ∀ x ∈ r, 0 < x.left := fun x hx => hp x (List.mem_cons_of_mem _ hx)
    have pl := hp l List.mem_cons_self
    rw [dropF]
    by_cases zb : b = 0
    · subst zb
      rw [(tkR_zero _ 0 (Int.le_refl _)).1, if_neg (by omega), less_no fun _ _ => List.not_mem_nil, Int.sub_zero]
      exact pos_all hp
    · have mp : 0 < mnI l.left b := by rw [mnI_eq]; omega
      rw [tkR, if_pos mp, List.map_cons]
      have hd : lessL (⟨l.n, mnI l.left b⟩ :: tkR r (b - mnI l.left b)) l = ⟨l.n, l.left - mnI l.left b, l.price⟩ := by
        unfold lessL
        rw [pval, if_pos rfl]
      have tl : r.map (lessL (⟨l.n, mnI l.left b⟩ :: tkR r (b - mnI l.left b))) = r.map (lessL (tkR r (b - mnI l.left b))) := by
        refine List.map_congr_left fun x hx => ?_
        unfold lessL
        rw [pval, if_neg]
        show ¬ l.n = x.n
        intro z
        exact n1 (by rw [z]; exact List.mem_map_of_mem hx)
      rw [hd, tl, List.filter_cons]
      by_cases z : l.left ≤ b
      · have e : mnI l.left b = l.left := by rw [mnI_eq]; omega
        rw [e, if_pos z, if_neg (by unfold posL; simp)]
        exact rest_drop n2 pr (by omega)
      · have e : mnI l.left b = b := by rw [mnI_eq]; omega
        rw [e, if_neg z, if_pos (by unfold posL; exact decide_eq_true (by show l.left - b > 0; omega)), Int.sub_self, (tkR_zero r 0 (Int.le_refl _)).1, less_no fun _ _ => List.not_mem_nil, pos_all pr]
def lotStep (L : List Lot) : Ent → List Lot
  | .come n _ _ _ k r => L ++ [⟨n, k, r⟩]
  | .go _ _ _ _ k => restL L k
  | _ => L
def lotG (g : Str) (L : List Lot) (e : Ent) : List Lot := if e.goodV = .str g then lotStep L e else L
def lotsN (g : Str) (es : List Ent) : List Lot := es.foldl (lotG g) []
theorem lotsN_snoc (g : Str) (es : List Ent) (e : Ent) : lotsN g (es ++ [e]) = lotG g (lotsN g es) e := by
  unfold lotsN
  rw [List.foldl_append]
  rfl
theorem rest_sub (L : List Lot) (b : Int) : List.Sublist ((restL L b).map Lot.n) (L.map Lot.n) := by
  have h : List.Sublist ((restL L b).map Lot.n) ((L.map (lessL (tkS L b).1)).map Lot.n) := List.Sublist.map _ List.filter_sublist
  rw [List.map_map] at h
  exact h
theorem lotG_sub (g : Str) (L : List Lot) (e : Ent) : List.Sublist ((lotG g L e).map Lot.n) (L.map Lot.n ++ [e.name]) := by
  have base : List.Sublist (L.map Lot.n) (L.map Lot.n ++ [e.name]) := List.sublist_append_left _ _
  unfold lotG
  split
  · cases e with
    | come n m g' p k r =>
      show List.Sublist ((L ++ [Lot.mk n k r]).map Lot.n) _
      rw [List.map_append]
      exact List.Sublist.refl _
    | go n m g' p k => exact (rest_sub L k).trans base
    | move n m g' o t k => exact base
    | some_ n m g' o t => exact base
    | swap n m o t => exact base
    | count n m g' p k h => exact base
    | look n m g' p => exact base
  · exact base
theorem lots_fold_sub (g : Str) : ∀ (es : List Ent) (L : List Lot), List.Sublist ((es.foldl (lotG g) L).map Lot.n) (L.map Lot.n ++ es.map Ent.name)
  | [], L => by rw [List.map_nil, List.append_nil]; exact List.Sublist.refl _
  | e :: r, L => by
    refine (lots_fold_sub g r (lotG g L e)).trans ?_
    have h := List.Sublist.append_right (lotG_sub g L e) (r.map Ent.name)
    rw [List.append_assoc] at h
    exact h
theorem lotsN_sub (g : Str) (es : List Ent) : List.Sublist ((lotsN g es).map Lot.n) (es.map Ent.name) := by
  have h := lots_fold_sub g es []
  rw [List.map_nil, List.nil_append] at h
  exact h
theorem lotsN_len (g : Str) (es : List Ent) : (lotsN g es).length ≤ es.length := by
  have h := (lotsN_sub g es).length_le
  rw [List.length_map, List.length_map] at h
  exact h
/-! the law's line -/
structure Ln where
  n : Str
  b : Int
  e : Int
  p : Int
def Ln.vals (x : Ln) : List V := [.str x.n, .int x.b, .int x.e, .int x.p]
abbrev LnsAt (H : Hp) : List Addr → List Ln → Prop := Paired fun a x => H a = some (.tup x.vals)
def lnStep (g : Str) (s : List Ln × Int × Int) : Ent → List Ln × Int × Int
  | .come n _ g' _ k r => if g' = g then (s.1 ++ [⟨n, s.2.1, s.2.1 + k, r⟩], s.2.1 + k, s.2.2) else s
  | .go _ _ g' _ k => if g' = g then (s.1, s.2.1, mnI (s.2.2 + k) s.2.1) else s
  | _ => s
def lineN (g : Str) (es : List Ent) : List Ln × Int × Int := es.foldl (lnStep g) ([], 0, 0)
theorem lineN_snoc (g : Str) (es : List Ent) (e : Ent) : lineN g (es ++ [e]) = lnStep g (lineN g es) e := by
  unfold lineN
  rw [List.foldl_append]
  rfl
def dueStep (gone : Int) (x : Ln) : Lot := ⟨x.n, x.e - mxI x.b gone, x.p⟩
def dueL (L : List Ln) (gone : Int) : List Lot := (L.filter fun x => decide (x.e > gone)).map (dueStep gone)
def Cont : Int → List Ln → Int → Prop
  | c, [], d => c = d
  | c, x :: r, d => x.b = c ∧ c < x.e ∧ Cont x.e r d
theorem cont_le : ∀ {L : List Ln} {c d : Int}, Cont c L d → c ≤ d
  | [], _, _, h => Int.le_of_eq h
  | x :: r, c, d, ⟨_, h2, h3⟩ => by have := cont_le h3; omega
theorem cont_snoc {n : Str} {k p : Int} (hk : 1 ≤ k) : ∀ {L : List Ln} {c d : Int}, Cont c L d → Cont c (L ++ [⟨n, d, d + k, p⟩]) (d + k)
  | [], c, d, h => by
    have h' : c = d := h
    exact ⟨h'.symm, (by show c < d + k; omega), rfl⟩
  | x :: r, c, d, ⟨h1, h2, h3⟩ => ⟨h1, h2, cont_snoc hk h3⟩
theorem dueL_cons (x : Ln) (r : List Ln) (g : Int) : dueL (x :: r) g = if x.e > g then dueStep g x :: dueL r g else dueL r g := by
  unfold dueL
  rw [List.filter_cons]
  by_cases z : x.e > g
  · rw [if_pos (decide_eq_true z), if_pos z, List.map_cons]
  · rw [if_neg (by rw [decide_eq_false z]; intro q; cases q), if_neg z]
theorem due_same : ∀ {L : List Ln} {c d g g' : Int}, Cont c L d → g ≤ c → g' ≤ c → dueL L g = dueL L g'
  | [], _, _, _, _, _, _, _ => rfl
  | x :: r, c, d, g, g', ⟨h1, h2, h3⟩, hg, hg' => by
    rw [dueL_cons, dueL_cons, if_pos (by omega), if_pos (by omega), due_same h3 (g := g) (g' := g') (by omega) (by omega)]
    refine congrArg (· :: dueL r g') ?_
    unfold dueStep
    rw [mxI_eq, mxI_eq, h1]
    refine congrArg (fun z => Lot.mk x.n z x.p) ?_
    omega
theorem due_drop : ∀ {L : List Ln} {c d g w : Int}, Cont c L d → c ≤ g → g ≤ d → 0 ≤ w → dueL L (mnI (g + w) d) = dropF (dueL L g) w
  | [], _, _, _, _, _, _, _, _ => rfl
  | x :: r, c, d, g, w, ⟨h1, h2, h3⟩, hc, hd, hw => by
    have le := cont_le h3
    have mn := mnI_eq (g + w) d
    rw [dueL_cons x r g, dueL_cons]
    by_cases z : x.e > g
    · rw [if_pos z, dropF]
      have lf : (dueStep g x).left = x.e - g := by
        show x.e - mxI x.b g = x.e - g
        rw [mxI_eq]
        omega
      rw [lf]
      by_cases y : x.e - g ≤ w
      · rw [if_pos y, if_neg (by omega)]
        rw [due_same h3 (g := g) (g' := x.e) (by omega) (Int.le_refl _), ← due_drop h3 (g := x.e) (w := w - (x.e - g)) (Int.le_refl _) le (by omega)]
        refine congrArg (dueL r) (congrArg (fun z => mnI z d) ?_)
        omega
      · rw [if_neg y, if_pos (by omega)]
        have e1 : mnI (g + w) d = g + w := by omega
        rw [e1, due_same h3 (g := g + w) (g' := g) (by omega) (by omega)]
        refine congrArg (· :: dueL r g) ?_
        unfold dueStep
        rw [mxI_eq]
        refine congrArg (fun z => Lot.mk x.n z x.p) ?_
        omega
    · rw [if_neg z, if_neg (by omega)]
      exact due_drop h3 (by omega) hd hw
theorem due_pos {L : List Ln} {c d g : Int} (h : Cont c L d) : ∀ l ∈ dueL L g, 0 < l.left := by
  induction L generalizing c with
  | nil => intro l hl; cases hl
  | cons x r ih =>
    obtain ⟨h1, h2, h3⟩ := h
    intro l hl
    rw [dueL_cons] at hl
    by_cases z : x.e > g
    · rw [if_pos z] at hl
      rcases List.mem_cons.mp hl with rfl | hl
      · show 0 < x.e - mxI x.b g
        rw [mxI_eq]
        omega
      · exact ih h3 l hl
    · rw [if_neg z] at hl
      exact ih h3 l hl
theorem due_sub (L : List Ln) (g : Int) : List.Sublist ((dueL L g).map Lot.n) (L.map Ln.n) := by
  unfold dueL
  rw [List.map_map]
  exact List.Sublist.map Ln.n List.filter_sublist
structure LRel (L : List Lot) (s : List Ln × Int × Int) : Prop where
  eq : L = dueL s.1 s.2.2
  co : Cont 0 s.1 s.2.1
  g0 : 0 ≤ s.2.2
  g1 : s.2.2 ≤ s.2.1
def Ent.Pos : Ent → Prop
  | .come _ _ _ _ k _ => 1 ≤ k
  | .go _ _ _ _ k => 1 ≤ k
  | _ => True
theorem lrel_step {g : Str} {L : List Lot} {s : List Ln × Int × Int} {e : Ent} (h : LRel L s) (nd : (s.1.map Ln.n).Nodup) (hp : e.Pos) : LRel (lotG g L e) (lnStep g s e) := by
  obtain ⟨he, hc, h0, h1⟩ := h
  unfold lotG
  cases e with
  | come n m g' p k r =>
    have hk : 1 ≤ k := hp
    by_cases z : g' = g
    · rw [if_pos (show (Ent.come n m g' p k r).goodV = V.str g from congrArg V.str z)]
      show LRel (L ++ [⟨n, k, r⟩]) (if g' = g then _ else s)
      rw [if_pos z]
      refine ⟨?_, cont_snoc hk hc, h0, (by show s.2.2 ≤ s.2.1 + k; omega)⟩
      show L ++ [⟨n, k, r⟩] = dueL (s.1 ++ [⟨n, s.2.1, s.2.1 + k, r⟩]) s.2.2
      unfold dueL
      rw [List.filter_append, List.map_append, he]
      refine congrArg (dueL s.1 s.2.2 ++ ·) ?_
      rw [List.filter_cons, if_pos (decide_eq_true (by show s.2.1 + k > s.2.2; omega))]
      show _ = [dueStep s.2.2 ⟨n, s.2.1, s.2.1 + k, r⟩]
      unfold dueStep
      rw [mxI_eq]
      refine congrArg (fun z => [Lot.mk n z r]) ?_
      show k = s.2.1 + k - max s.2.1 s.2.2
      omega
    · rw [if_neg (show ¬ (Ent.come n m g' p k r).goodV = V.str g from fun y => z (V.str.inj y))]
      show LRel L (if g' = g then _ else s)
      rw [if_neg z]
      exact ⟨he, hc, h0, h1⟩
  | go n m g' p k =>
    have hk : 1 ≤ k := hp
    by_cases z : g' = g
    · rw [if_pos (show (Ent.go n m g' p k).goodV = V.str g from congrArg V.str z)]
      show LRel (restL L k) (if g' = g then _ else s)
      rw [if_pos z]
      have mn := mnI_eq (s.2.2 + k) s.2.1
      refine ⟨?_, hc, (by show 0 ≤ mnI (s.2.2 + k) s.2.1; omega), (by show mnI (s.2.2 + k) s.2.1 ≤ s.2.1; omega)⟩
      show restL L k = dueL s.1 (mnI (s.2.2 + k) s.2.1)
      rw [due_drop hc h0 h1 (by omega), ← he]
      unfold restL
      rw [tkS_eq]
      refine rest_drop ?_ ?_ (by omega)
      · rw [he]
        exact (due_sub s.1 s.2.2).nodup nd
      · rw [he]
        exact due_pos hc
    · rw [if_neg (show ¬ (Ent.go n m g' p k).goodV = V.str g from fun y => z (V.str.inj y))]
      show LRel L (if g' = g then _ else s)
      rw [if_neg z]
      exact ⟨he, hc, h0, h1⟩
  | move n m g' o t k => exact (by split <;> exact ⟨he, hc, h0, h1⟩)
  | some_ n m g' o t => exact (by split <;> exact ⟨he, hc, h0, h1⟩)
  | swap n m o t => exact (by split <;> exact ⟨he, hc, h0, h1⟩)
  | count n m g' p k h => exact (by split <;> exact ⟨he, hc, h0, h1⟩)
  | look n m g' p => exact (by split <;> exact ⟨he, hc, h0, h1⟩)
theorem ln_names (g : Str) (s : List Ln × Int × Int) (e : Ent) : List.Sublist ((lnStep g s e).1.map Ln.n) (s.1.map Ln.n ++ [e.name]) := by
  have base : List.Sublist (s.1.map Ln.n) (s.1.map Ln.n ++ [e.name]) := List.sublist_append_left _ _
  cases e with
  | come n m g' p k r =>
    show List.Sublist ((if g' = g then _ else s).1.map Ln.n) _
    split
    · show List.Sublist ((s.1 ++ [Ln.mk n s.2.1 (s.2.1 + k) r]).map Ln.n) _
      rw [List.map_append]
      exact List.Sublist.refl _
    · exact base
  | go n m g' p k =>
    show List.Sublist ((if g' = g then _ else s).1.map Ln.n) _
    split
    · exact base
    · exact base
  | move n m g' o t k => exact base
  | some_ n m g' o t => exact base
  | swap n m o t => exact base
  | count n m g' p k h => exact base
  | look n m g' p => exact base
theorem lrel_fold {g : Str} : ∀ (es : List Ent) (L : List Lot) (s : List Ln × Int × Int), LRel L s → (s.1.map Ln.n ++ es.map Ent.name).Nodup → (∀ e ∈ es, e.Pos) → LRel (es.foldl (lotG g) L) (es.foldl (lnStep g) s)
  | [], _, _, h, _, _ => h
  | e :: r, L, s, h, nd, hp => by
    rw [List.foldl_cons, List.foldl_cons]
    refine lrel_fold r _ _ (lrel_step h ((List.nodup_append.mp nd).1) (hp e List.mem_cons_self)) ?_ fun x hx => hp x (List.mem_cons_of_mem _ hx)
    have h2 := List.Sublist.append_right (ln_names g s e) (r.map Ent.name)
    rw [List.append_assoc] at h2
    exact h2.nodup nd
theorem From.pos {e : Ent} {P G HL : List Str} (h : e.From P G HL) : e.Pos := by
  cases e with
  | come n m g p k r => exact h.2.2.1
  | go n m g p k => exact h.2.2.1
  | move n m g o t k => exact True.intro
  | some_ n m g o t => exact True.intro
  | swap n m o t => exact True.intro
  | count n m g p k hd => exact True.intro
  | look n m g p => exact True.intro
theorem lots_due {P G : List Str} {es : List Ent} {m : Nat} (gd : Good P G es m) (g : Str) (k : Nat) : LRel (lotsN g (es.take k)) (lineN g (es.take k)) := by
  refine lrel_fold (es.take k) [] ([], 0, 0) ⟨rfl, rfl, Int.le_refl _, Int.le_refl _⟩ ?_ fun e he => ?_
  · show ((es.take k).map Ent.name).Nodup
    rw [List.map_take]
    exact (List.take_sublist _ _).nodup gd.nms
  · obtain ⟨_, _, _, HL, _, fr⟩ := gd.ents e (List.mem_of_mem_take he)
    exact From.pos fr
/-! ### lots, told by the program -/
def spTaken : Sp := fun vs H Q _ => ∃ (l : Addr) (as : List Addr) (L : List Lot) (b : Int), vs = [.ref l, .int b] ∧ H l = some (.lst (as.map V.ref)) ∧ LotsAt H as L ∧ L.length ≤ 100 ∧
  ∀ (t p : Addr) (ps : List Addr) (H' : Hp), Same H H' → H p = none → H' t = some (.tup [.ref p, .int (tkS L b).2]) → H' p = some (.lst (ps.map V.ref)) → PrtsAt H' ps (tkS L b).1 → Q (.ref t) H'
section
variable {P : Program} {w : World} {K : PySem.W.Frag} {mg : Str → Option Value} {base : Heap}
abbrev sTakenN : List Str := ["lots", "many", "parts", "bare", "name", "left", "price", "part"]
theorem sc_sTaken : FnScope sTakenN ["lots", "many"] (defScope sTaken) := ⟨rfl, rfl, rfl, by decide +kernel, rfl, by decide +kernel, by decide +kernel⟩
set_option maxHeartbeats 2000000 in
theorem ok_taken {f : Addr} {fd : FuncData} (F : Fun K "taken_from" "taken_from" sTaken f fd) (mn : mg "min" = none) : FnOk P w K mg base CX0 1 f fd ["lots", "many"] spTaken := by
  refine F.ok sc_sTaken (fun vs H Q E h => ?_) (fun cdv A outer s H vs Q E hr h => ?_)
  · obtain ⟨l, as, L, b, rfl, _⟩ := h
    rfl
  · obtain ⟨l, as, L, b, rfl, hl, la, le, q⟩ := h
    have nd := sc_sTaken.nd
    refine ⟨_, pss_cons (ps_set (i := 2) nd rfl (Or.inl rfl) (pe_lst pa_nil))
      (pss_cons (ps_set (i := 3) nd rfl (Or.inl rfl) (pv 1))
      (pss_cons (ps_for PassesOwn.never rfl (pi_list (pv 0)) (pg_tup (by rfl) (pgs_cons (pg_name (i := 4) nd rfl (Or.inl rfl)) (pgs_cons (pg_name (i := 5) nd rfl (Or.inl rfl)) (pgs_cons (pg_name (i := 6) nd rfl (Or.inl rfl)) pgs_nil))))
        (pss_cons (ps_set (i := 7) nd rfl (Or.inl rfl) (pe_callB (call_min2 rfl) (by rfl) mn (by decide +kernel) (pa_cons (pv 5) (pa_cons (pv 3) pa_nil))))
        (pss_one (ps_if (pt_cmpR op_gt (pv 7) pe_int (nomark _)) (pss_cons (ps_expr (pe_bm PySem.F.plainAttrs_list PySem.F.slot_list_append PySem.F.type_list_append mt_append (pv 2) (pa_cons (pe_tup (pa_cons (pv 4) (pa_cons (pv 7) pa_nil))) pa_nil)))
          (pss_one (ps_aug (i := 3) nd rfl (Or.inl rfl) (pv 7) ip_sub))) pss_nil))))
      (pss_one (ps_ret (pe_tup (pa_cons (pv 2) (pa_cons (pv 3) pa_nil))))))), ?_⟩
    refine ⟨Nat.zero_le _, fun D nD => ?_⟩
    have s1 := @same_new _ _ (.lst []) nD
    have hD1 : (upd H D (.lst [])) D = some (.lst (([] : List Addr).map V.ref)) := upd_same
    generalize upd H D (.lst []) = H1 at s1 hD1
    refine ⟨_, rfl, _, rfl, l, rfl, ⟨_, SqL.of (s1 _ _ hl)⟩, ?_⟩
    refine for_list (K := K) (a := l) (xs := as.map V.ref) (fun i σ H' => ∃ y4 y5 y6 y7, ∃ ps : List Addr, σ = [some (.ref l), some (.int b), some (.ref D), some (.int (tkS (L.take i) b).2), y4, y5, y6, y7] ∧ Same H H' ∧ H' D = some (.lst (ps.map V.ref)) ∧ PrtsAt H' ps (tkS (L.take i) b).1)
      ⟨_, _, _, _, [], rfl, s1, hD1, .nil⟩ (fun i σ H' _ z => by obtain ⟨_, _, _, _, _, _, z, _⟩ := z; exact SqL.of (z _ _ hl)) ?_ ?_
    · rintro i x σ H2 hx ⟨y4, y5, y6, y7, ps, rfl, s2, hD2, pp⟩
      rw [List.getElem?_map] at hx
      obtain ⟨a, ha, rfl⟩ := Option.map_eq_some_iff.mp hx
      obtain ⟨x, hx, hax0⟩ := paired_get la ha
      have hax := s2 _ _ hax0
      have sn : tkS (L.take (i + 1)) b = tkStep (tkS (L.take i) b) x := by rw [take_snoc hx, tkS_snoc]
      have lp : ps.length ≤ 100 := by
        rw [Paired.length pp]
        have := tkS_len (L.take i) b
        rw [List.length_take] at this
        omega
      rw [sn]
      generalize tkS (L.take i) b = st at pp
      refine ⟨a, _, rfl, SqT.of hax, rfl, _, _, rfl, _, _, rfl, _, _, rfl, rfl, _, rfl, _, rfl, x.left, st.2, rfl, ?_⟩
      refine ⟨_, rfl, _, _, rfl, rfl, _, rfl, ite2 (fun z => ?_) (fun z => ?_)⟩
      · have z' : 0 < mnI x.left st.2 := of_decide_eq_true z
        have e1 : tkStep st x = (st.1 ++ [⟨x.n, mnI x.left st.2⟩], st.2 - mnI x.left st.2) := if_pos z'
        rw [e1]
        refine ⟨_, rfl, .inl ⟨rfl, _, SqL.of hD2⟩, _, rfl, _, rfl, (by show 2 ≤ sizeLine; decide), fun t nt => ?_⟩
        have s3 := @same_new _ _ (.tup [V.str x.n, .int (mnI x.left st.2)]) nt
        refine ⟨D, _, _, rfl, rfl, s3 _ _ hD2, ?_, ?_⟩
        · rw [List.length_map]
          exact small1000 (by omega)
        refine ⟨_, rfl, _, rfl, _, _, rfl, rfl, ⟨_, _, _, _, ps ++ [t], rfl, fun c o e => (upd_ne (ne_of_none e nD)).trans (s3 _ _ (s2 c o e)), ?_, ?_⟩⟩
        · rw [upd_same, List.map_append]
          rfl
        · have nDt : t ≠ D := fun z => by rw [z] at nt; rw [nt] at hD2; cases hD2
          refine Paired.snoc (prts_on (fun c xs e => (upd_ne (ne_of e (s3 _ _ hD2) (by intro z; cases z))).trans e) (prts_on (TK.of s3) pp)) ?_
          rw [upd_ne nDt, upd_same]
          rfl
      · have z' : ¬ 0 < mnI x.left st.2 := fun y => z (decide_eq_true y)
        have e1 : tkStep st x = st := if_neg z'
        rw [e1]
        exact ⟨_, _, _, _, ps, rfl, s2, hD2, pp⟩
    · rintro σ H2 ⟨y4, y5, y6, y7, ps, rfl, s2, hD2, pp⟩
      rw [List.length_map, Paired.length la, List.take_length] at pp ⊢
      refine ⟨_, rfl, _, rfl, (by show 2 ≤ sizeLine; decide), fun t nt => ?_⟩
      have s3 := @same_new _ _ (.tup [V.ref D, .int (tkS L b).2]) nt
      exact q t D ps _ (s2.trans s3) nD upd_same (s3 _ _ hD2) (prts_on (TK.of s3) pp)
end
def spLotsW : Sp := fun vs H Q _ => ∃ (l a : Addr) (as : List Addr) (L : List Lot) (e : Ent), vs = [.ref l, .ref a] ∧ H l = some (.lst (as.map V.ref)) ∧ LotsAt H as L ∧ H a = some (.tup e.vals) ∧ (L.map Lot.n).Nodup ∧ L.length ≤ 60 ∧
  ∀ (l' : Addr) (as' : List Addr) (H' : Hp), Same H H' → (l' = l ∨ H l' = none) → H' l' = some (.lst (as'.map V.ref)) → LotsAt H' as' (lotStep L e) → Q (.ref l') H'
theorem lotStep_else {L : List Lot} {e : Ent} (h1 : e.word ≠ "come") (h2 : e.word ≠ "go") : lotStep L e = L := by
  cases e with
  | come n m g p k r => exact absurd rfl h1
  | go n m g p k => exact absurd rfl h2
  | _ => rfl
section
variable {P : Program} {w : World} {K : PySem.W.Frag} {mg : Str → Option Value} {base : Heap}
abbrev sLotsWN : List Str := ["lots", "entry", "parts", "bare", "took", "name", "many", "rest", "left", "price", "lot"]
theorem sc_sLotsW : FnScope sLotsWN ["lots", "entry"] (defScope sLotsW) := ⟨rfl, rfl, rfl, by decide +kernel, rfl, by decide +kernel, by decide +kernel⟩
set_option maxHeartbeats 4000000 in
theorem ok_lotsW {f fT : Addr} {fd dT : FuncData} (F : Fun K "lots_with" "lots_with" sLotsW f fd) (TF : DefT P w K mg base "taken_from" 1 fT dT ["lots", "many"] spTaken) : FnOk P w K mg base CX0 2 f fd ["lots", "entry"] spLotsW := by
  refine F.ok sc_sLotsW (fun vs H Q E h => ?_) (fun cdv A outer s H vs Q E hr h => ?_)
  · obtain ⟨l, a, as, L, e, rfl, _⟩ := h
    rfl
  · obtain ⟨l, a, as, L, e, rfl, hl, la, ha, nn, le, q⟩ := h
    have hu := hu_of hr
    have nd := sc_sLotsW.nd
    refine ⟨_, pss_cons (ps_if (pt_cmpR op_eq (pe_ix ix_tup (pv 1) pe_int (fun _ _ => rfl)) pe_str (nomark _)) (pss_one (ps_ret (pe_op op_cat (pv 0) (pe_lst (pa_cons (pe_tup (pa_cons (pe_ix ix_tup (pv 1) pe_int (fun _ _ => rfl)) (pa_cons (pe_ix ix_tup (pv 1) pe_int (fun _ _ => rfl)) (pa_cons (pe_ix ix_tup (pv 1) pe_int (fun _ _ => rfl)) pa_nil)))) pa_nil))))) pss_nil)
      (pss_cons (ps_if (pt_cmpR op_eq (pe_ix ix_tup (pv 1) pe_int (fun _ _ => rfl)) pe_str (nomark _)) (pss_cons (ps_asg (pe_call TF.ok hr (by rfl) TF.g TF.kp TF.b .nil pass0 (pa_cons (pv 0) (pa_cons (pe_ix ix_tup (pv 1) pe_int (fun _ _ => rfl)) pa_nil))) (pg_tup (by rfl) (pgs_cons (pg_name (i := 2) nd rfl (Or.inl rfl)) (pgs_cons (pg_name (i := 3) nd rfl (Or.inl rfl)) pgs_nil))))
        (pss_cons (ps_set (i := 4) nd rfl (Or.inr rfl) (pe_dc (own := [("name", 5), ("many", 6)]) (g := gTup K 2 (gCons (gName 5) (gCons (gName 6) gNil))) (tt := tYes) (tk := tVar 5) (tv := tVar 6) rfl nd (pi_list (pv 2)) (blkOk_by (N := sLotsWN) (sc := defScope sLotsW) (by decide +kernel)) (fun _ _ _ _ _ => (pg_tup (by rfl) (pgs_cons (pg_name (i := 5) nd rfl (Or.inl rfl)) (pgs_cons (pg_name (i := 6) nd rfl (Or.inl rfl)) pgs_nil)))) (fun _ _ _ _ _ => pts_nil) (fun _ _ _ _ _ => (pv 5)) (fun _ _ _ _ _ => (pv 6))))
        (pss_cons (ps_setLc (i := 7) (own := [("name", 5), ("left", 8), ("price", 9)]) (g := gTup K 3 (gCons (gName 5) (gCons (gName 8) (gCons (gName 9) gNil)))) (tt := tYes) (te := tTup (tCons (tVar 5) (tCons (tOp (rI0 fun i j => .int (i - j)) (tVar 8) (tDGet2 (tVar 4) (tVar 5) (tC (V.int 0)))) (tCons (tVar 9) tNil)))) rfl nd rfl rfl (sw_true rfl rfl rfl (by decide +kernel)) (pi_list (pv 0)) (blkOk_by (N := sLotsWN) (sc := defScope sLotsW) (by decide +kernel)) (fun _ _ _ _ _ => (pg_tup (by rfl) (pgs_cons (pg_name (i := 5) nd rfl (Or.inl rfl)) (pgs_cons (pg_name (i := 8) nd rfl (Or.inl rfl)) (pgs_cons (pg_name (i := 9) nd rfl (Or.inl rfl)) pgs_nil))))) (fun _ _ _ _ _ => pts_nil) (fun _ _ _ _ _ => (pe_tup (pa_cons (pv 5) (pa_cons (pe_op op_sub (pv 8) (pe_dget2 hu (pv 4) (pv 5) pe_int ⟨rfl, rfl, rfl, rfl⟩)) (pa_cons (pv 9) pa_nil))))))
        (pss_one (ps_ret (pe_lc (own := [("lot", 10)]) (g := gName 10) (tt := tTest (tOp (rI0 fun i j => .bl (decide (i > j))) (tOp (rIxT K) (tVar 10) (tC (V.int 1))) (tC (V.int 0)))) (te := tVar 10) rfl nd (pi_list (pv 7)) (blkOk_by (N := sLotsWN) (sc := defScope sLotsW) (by decide +kernel)) (fun _ _ _ _ _ => (pg_name (i := 10) nd rfl (Or.inl rfl))) (fun _ _ _ _ _ => (pts_one (pt_cmpR op_gt (pe_ix ix_tup (pv 10) pe_int (fun _ _ => rfl)) pe_int (nomark _)))) (fun _ _ _ _ _ => (pv 10)))))))) pss_nil)
      (pss_one (ps_ret (pv 0)))), ?_⟩
    have lla : as.length = L.length := Paired.length la
    refine ⟨_, rfl, a, _, 0, _, rfl, rfl, SqT.of ha, at0 e, rfl, _, rfl, ite2 (fun ew => ?_) (fun nc => ?_)⟩
    · obtain ⟨nm, mm, g, pl, k, r, rfl⟩ := come_ent (V.str.inj (of_decide_eq_true ew))
      refine ⟨_, rfl, _, rfl, a, _, 1, _, rfl, rfl, SqT.of ha, atI_nat (j := 1) rfl, _, rfl, a, _, 5, _, rfl, rfl, SqT.of ha, atI_nat (j := 5) rfl, _, rfl, a, _, 6, _, rfl, rfl, SqT.of ha, atI_nat (j := 6) rfl, (by show 3 ≤ sizeLine; decide), fun t nt => ?_⟩
      have s1 := @same_new _ _ (.tup [V.str (Ent.come nm mm g pl k r).name, .int k, .int r]) nt
      have ht : (upd H t (.tup [V.str (Ent.come nm mm g pl k r).name, .int k, .int r])) t = some (.tup [V.str (Ent.come nm mm g pl k r).name, .int k, .int r]) := upd_same
      generalize upd H t (.tup [V.str (Ent.come nm mm g pl k r).name, .int k, .int r]) = H1 at s1 ht
      refine ⟨(by show 1 ≤ sizeLine; decide), fun o no => ?_⟩
      have s2 := @same_new _ _ (.lst [V.ref t]) no
      refine ⟨l, o, _, _, rfl, rfl, s2 _ _ (s1 _ _ hl), upd_same, ?_, fun p np => ?_⟩
      · rw [List.length_map]
        show as.length + 1 ≤ sizeLine
        exact Nat.le_of_lt (small1000 (by omega))
      · have s3 := s2.trans (@same_new _ _ (.lst (as.map V.ref ++ [V.ref t])) np)
        refine q p (as ++ [t]) _ (s1.trans s3) (.inr ((s1.trans s2).free np)) ?_ ?_
        · rw [upd_same, List.map_append]
          rfl
        · exact Paired.snoc (lots_on (TK.of (s1.trans s3)) la) (s3 _ _ ht)
    · refine ⟨_, rfl, a, _, 0, _, rfl, rfl, SqT.of ha, at0 e, rfl, _, rfl, ite2 (fun ew => ?_) (fun ng => ?_)⟩
      · obtain ⟨nm, mm, g, pl, k, rfl⟩ := go_ent (V.str.inj (of_decide_eq_true ew))
        refine ⟨_, rfl, _, rfl, a, _, 5, _, rfl, rfl, SqT.of ha, atI_nat (j := 5) rfl, l, as, L, k, rfl, hl, la, by omega, fun t p ps H1 s1 np ht hp pp => ?_⟩
        refine ⟨t, _, rfl, SqT.of ht, rfl, _, _, rfl, _, _, rfl, rfl, ?_⟩
        have q' : ∀ (l' : Addr) (as' : List Addr) (H' : Hp), Same H H' → H l' = none → H' l' = some (.lst (as'.map V.ref)) → LotsAt H' as' (restL L k) → Q (.ref l') H' := fun l' as' H' z1 z2 z3 z4 => q l' as' H' z1 (.inr z2) z3 z4
        have nps : ((tkS L k).1.map Prt.n).Nodup := by
          rw [tkS_eq]
          exact (tkR_sub L k).nodup nn
        have lps : (tkS L k).1.length ≤ 60 := Nat.le_trans (tkS_len L k) le
        unfold restL at q'
        generalize (tkS L k).1 = PS at pp nps lps q'
        have llp : ps.length = PS.length := Paired.length pp
        refine ⟨_, rfl, p, rfl, ⟨_, SqL.of hp⟩, fun D nD => ?_⟩
        refine walk_any (walk_list (K := K) (a := p) (xs := ps.map V.ref)) (fun i H' => Same H1 H' ∧ H' D = some (.dK (pkv (PS.take i)))) ⟨same_new nD, upd_same⟩ (fun i H' _ z => SqL.of (z.1 _ _ hp)) ?_ ?_
        · rintro i x H' _ hi ⟨sm, hD⟩ ⟨rfl, hx⟩
          rw [List.getElem?_map] at hx
          obtain ⟨c, hc, rfl⟩ := Option.map_eq_some_iff.mp hx
          obtain ⟨y, hy, hcy⟩ := paired_get pp hc
          refine ⟨c, _, rfl, SqT.of (sm _ _ hcy), rfl, _, _, rfl, _, _, rfl, rfl, rfl, yesT ⟨_, rfl, _, rfl, _, Sum.inr y.n, rfl, hD, ?_, fun b o e => (upd_ne (ne_of_none e nD)).trans (sm b o e), ?_⟩⟩
          · rw [List.length_map, List.length_take]
            exact small1000 (by omega)
          · rw [upd_same, take_snoc hy]
            have nx : y.n ∉ (PS.take i).map Prt.n := fun z => by
              have lt : i < PS.length := (List.getElem?_eq_some_iff.mp hy).1
              have w := nps
              rw [← List.take_append_drop i PS, List.map_append, List.nodup_append] at w
              refine w.2.2 y.n z y.n ?_ rfl
              rw [List.drop_eq_getElem_cons lt]
              rw [List.getElem?_eq_getElem lt] at hy
              rw [Option.some.inj hy]
              exact List.mem_cons_self
            exact congrArg (fun z => some (HO.dK z)) (pkv_put nx)
        · rintro H2 ⟨s2, hD2⟩
          rw [List.length_map, llp, List.take_length] at hD2
          have s12 := s1.trans s2
          refine ⟨_, rfl, l, rfl, ⟨_, SqL.of (s12 _ _ hl)⟩, fun R nR => ?_⟩
          refine lc_list (K := K) (a := l) (xs := as.map V.ref) (fun i H' => Same H2 H' ∧ ∃ rs : List Addr, H' R = some (.lst (rs.map V.ref)) ∧ LotsAt H' rs ((L.take i).map (lessL PS))) ⟨same_new nR, [], upd_same, .nil⟩ (fun i H' _ z => SqL.of (z.1 _ _ (s12 _ _ hl))) ?_ ?_
          · rintro i x H' hx ⟨sm, rs, hR, lr⟩
            rw [List.getElem?_map] at hx
            obtain ⟨c, hc, rfl⟩ := Option.map_eq_some_iff.mp hx
            obtain ⟨y, hy, hcy⟩ := paired_get la hc
            refine ⟨c, _, rfl, SqT.of (sm _ _ (s12 _ _ hcy)), rfl, _, _, rfl, _, _, rfl, _, _, rfl, rfl, rfl, yesT ⟨_, rfl, _, rfl, _, rfl, D, rfl, .inl ⟨_, Rd.of (sm _ _ hD2)⟩, _, rfl, _, .inl ⟨_, Sum.inr y.n, Rd.of (sm _ _ hD2), rfl, rfl⟩, ?_⟩⟩
            rw [pkv_val]
            refine ⟨_, _, rfl, rfl, _, rfl, (by show 3 ≤ sizeLine; decide), fun t nt => ?_⟩
            have s3 := @same_new _ _ (.tup [V.str y.n, .int (y.left - pval PS y.n), .int y.price]) nt
            refine ⟨_, s3 _ _ hR, ?_, fun b o e => (upd_ne (ne_of_none e nR)).trans (s3 _ _ (sm b o e)), rs ++ [t], ?_, ?_⟩
            · rw [List.length_map, Paired.length lr, List.length_map, List.length_take]
              exact small1000 (by omega)
            · rw [upd_same, List.map_append]
              rfl
            · have nRt : t ≠ R := fun z => by rw [z] at nt; rw [nt] at hR; cases hR
              rw [take_snoc hy, List.map_append]
              refine Paired.snoc (lots_on (fun c xs e => (upd_ne (ne_of e (s3 _ _ hR) (by intro z; cases z))).trans e) (lots_on (TK.of s3) lr)) ?_
              rw [upd_ne nRt, upd_same]
              rfl
          · rintro H3 ⟨s3, rs, hR3, lr⟩
            rw [List.length_map, lla, List.take_length] at lr
            have s13 := s12.trans s3
            refine ⟨_, rfl, R, rfl, ⟨_, SqL.of hR3⟩, fun E nE => ?_⟩
            refine lc_list (K := K) (a := R) (xs := rs.map V.ref) (fun i H' => Same H3 H' ∧ ∃ es : List Addr, H' E = some (.lst (es.map V.ref)) ∧ LotsAt H' es (((L.map (lessL PS)).take i).filter posL)) ⟨same_new nE, [], upd_same, .nil⟩ (fun i H' _ z => SqL.of (z.1 _ _ hR3)) ?_ ?_
            · rintro i x H' hx ⟨sm, es, hE, lr'⟩
              rw [List.getElem?_map] at hx
              obtain ⟨c, hc, rfl⟩ := Option.map_eq_some_iff.mp hx
              obtain ⟨y, hy, hcy⟩ := paired_get lr hc
              rw [take_snoc hy, List.filter_append]
              refine ⟨rfl, _, rfl, c, _, 1, _, rfl, rfl, SqT.of (sm _ _ hcy), atI_nat (j := 1) rfl, _, _, rfl, rfl, _, rfl, ite2 (fun z => ?_) (fun z => ?_)⟩
              · refine ⟨_, rfl, _, hE, ?_, fun b o e => (upd_ne (ne_of_none e nE)).trans (sm b o e), es ++ [c], ?_, ?_⟩
                · rw [List.length_map, Paired.length lr']
                  have := List.length_filter_le posL ((L.map (lessL PS)).take i)
                  rw [List.length_take, List.length_map] at this
                  exact small1000 (by omega)
                · rw [upd_same, List.map_append]
                  rfl
                · have e1 : [y].filter posL = [y] := by
                    rw [List.filter_cons, if_pos (show posL y = true from z)]
                    rfl
                  rw [e1]
                  have kE : TK H' (upd H' E (.lst (es.map V.ref ++ [V.ref c]))) := fun c xs e => (upd_ne (ne_of e hE (by intro z; cases z))).trans e
                  exact Paired.snoc (lots_on kE lr') (kE _ _ (sm _ _ hcy))
              · have e1 : [y].filter posL = [] := by
                  rw [List.filter_cons, if_neg (show ¬ posL y = true from z)]
                  rfl
                rw [e1, List.append_nil]
                exact ⟨sm, es, hE, lr'⟩
            · rintro H4 ⟨s4, es, hE, lr'⟩
              rw [List.length_map, Paired.length lr, List.take_length] at lr'
              exact q' E es H4 (s13.trans s4) (s13.free nE) hE lr'
      · have c1 : e.word ≠ "come" := fun z => nc (decide_eq_true (congrArg V.str z))
        have c2 : e.word ≠ "go" := fun z => ng (decide_eq_true (congrArg V.str z))
        refine ⟨_, rfl, q l as H (fun _ _ z => z) (.inl rfl) hl ?_⟩
        rw [lotStep_else c1 c2]
        exact la
end
def spLotsB : Sp := fun vs H Q _ => ∃ (h : Addr) (P G : List Str) (es : List Ent) (m k : Nat) (g : Str), vs = [.ref h, .str g, .int k] ∧ HouseF H h P G es ∧ Good P G es m ∧ m ≤ 30 ∧ k ≤ m ∧
  ∀ (l : Addr) (as : List Addr) (H' : Hp), Same H H' → H l = none → H' l = some (.lst (as.map V.ref)) → LotsAt H' as (lotsN g (es.take k)) → Q (.ref l) H'
theorem lots_nd {P G : List Str} {es : List Ent} {m : Nat} (gd : Good P G es m) (g : Str) (k : Nat) : ((lotsN g (es.take k)).map Lot.n).Nodup :=
  (lotsN_sub g (es.take k)).nodup (by rw [List.map_take]; exact (List.take_sublist _ _).nodup gd.nms)
theorem ents_take {H : Hp} {as : List Addr} {es : List Ent} (h : EntsAt H as es) (k : Nat) : EntsAt H (as.take k) (es.take k) := by
  induction h generalizing k with
  | nil => simp only [List.take_nil]; exact .nil
  | cons a _ ih =>
    cases k with
    | zero => exact .nil
    | succ n => exact .cons a (ih n)
section
variable {P : Program} {w : World} {K : PySem.W.Frag} {mg : Str → Option Value} {base : Heap}
abbrev sLotsBN : List Str := ["house", "good", "at", "lots", "entry"]
theorem sc_sLotsB : FnScope sLotsBN ["house", "good", "at"] (defScope sLotsB) := ⟨rfl, rfl, rfl, by decide +kernel, rfl, by decide +kernel, by decide +kernel⟩
set_option maxHeartbeats 2000000 in
theorem ok_lotsB {f fG fW : Addr} {fd dG dW : FuncData} (F : Fun K "lots_behind" "lots_behind" sLotsB f fd) (GO : DefT P w K mg base "good_of" 1 fG dG ["entry"] spGood) (LW : DefT P w K mg base "lots_with" 2 fW dW ["lots", "entry"] spLotsW) :
    FnOk P w K mg base CX0 3 f fd ["house", "good", "at"] spLotsB := by
  refine F.ok sc_sLotsB (fun vs H Q E h => ?_) (fun cdv A outer s H vs Q E hr h => ?_)
  · obtain ⟨h, Ps, G, es, m, k, g, rfl, _⟩ := h
    rfl
  · obtain ⟨h, Ps, G, es, m, k, g, rfl, ho, gd, m30, km, q⟩ := h
    have nd := sc_sLotsB.nd
    have hr1 : Room 1 _ := hr.mono (by decide)
    refine ⟨_, pss_cons (ps_set (i := 3) nd rfl (Or.inl rfl) (pe_lst pa_nil))
      (pss_cons (ps_for PassesOwn.never rfl (pi_tup (pe_slice sl_F (pe_ix ix_tup (pv 0) pe_int (fun _ _ => rfl)) po_none (po_some (pv 2)))) (pg_name (i := 4) nd rfl (Or.inl rfl))
        (pss_one (ps_if (pt_cmpR op_eq (pe_call GO.ok hr1 (by rfl) GO.g GO.kp GO.b .nil pass0 (pa_cons (pv 4) pa_nil)) (pv 1) (nomark _)) (pss_one (ps_set (i := 3) nd rfl (Or.inl rfl) (pe_call LW.ok hr (by rfl) LW.g LW.kp LW.b .nil pass0 (pa_cons (pv 3) (pa_cons (pv 4) pa_nil))))) pss_nil)))
      (pss_one (ps_ret (pv 3)))), ?_⟩
    obtain ⟨hp, hg, he, tps, ob, g1, g2, g3, ⟨g4, g6⟩, g5⟩ := ho.ex
    refine ⟨Nat.zero_le _, fun D nD => ?_⟩
    have s1 := @same_new _ _ (.lst []) nD
    have hD1 : (upd H D (.lst [])) D = some (.lst (([] : List Addr).map V.ref)) := upd_same
    generalize upd H D (.lst []) = H1 at s1 hD1
    refine ⟨_, rfl, h, _, 2, _, rfl, rfl, SqT.of (s1 _ _ g1), atI_nat (j := 2) rfl, _, rfl, (k : Int), rfl, he, _, rfl, sqt_fz (s1 _ _ g4), fun C H2 s2 hC => ?_⟩
    rw [cut_take, ← List.map_take] at hC
    have s12 := s1.trans s2
    refine ⟨C, rfl, ⟨_, hC⟩, ?_⟩
    refine for_tup (K := K) (a := C) (xs := (tps.take k).map V.ref) (fun i σ H' => ∃ y4, ∃ (l : Addr) (as : List Addr), σ = [some (.ref h), some (.str g), some (.int k), some (.ref l), y4] ∧ Same H2 H' ∧ H l = none ∧ H' l = some (.lst (as.map V.ref)) ∧ LotsAt H' as (lotsN g ((es.take k).take i)))
      ⟨_, D, [], rfl, fun _ _ z => z, nD, s2 _ _ hD1, .nil⟩ (fun i σ H' _ z => by obtain ⟨_, _, _, _, z, _⟩ := z; exact sqt_same hC z) ?_ ?_
    · rintro i x σ H3 hx ⟨y4, l, as, rfl, s3, nl, hl, la⟩
      rw [List.getElem?_map] at hx
      obtain ⟨a, ha, rfl⟩ := Option.map_eq_some_iff.mp hx
      obtain ⟨e, hes, hae⟩ := (ents_take (g5.on (TK.of (s12.trans s3))) k).get ha
      have sn : lotsN g ((es.take k).take (i + 1)) = lotG g (lotsN g ((es.take k).take i)) e := by rw [take_snoc hes, lotsN_snoc]
      have nn : ((lotsN g ((es.take k).take i)).map Lot.n).Nodup := by
        rw [List.take_take]
        exact lots_nd gd g _
      have ll : (lotsN g ((es.take k).take i)).length ≤ 60 := by
        have := lotsN_len g ((es.take k).take i)
        rw [List.length_take, List.length_take] at this
        omega
      rw [sn]
      generalize lotsN g ((es.take k).take i) = L at la nn ll
      refine ⟨_, rfl, a, e, rfl, hae, _, rfl, scal_good e g, _, rfl, ?_⟩
      by_cases zg : e.goodV = .str g
      · have e1 : lotG g L e = lotStep L e := if_pos zg
        rw [decide_eq_true zg, e1]
        refine iteT ⟨_, rfl, _, rfl, l, a, as, L, e, rfl, hl, la, hae, nn, ll, fun l' as' H4 s4 o4 h4 la4 => ?_⟩
        refine ⟨_, l', as', rfl, s3.trans s4, ?_, h4, la4⟩
        rcases o4 with rfl | o4
        · exact nl
        · exact (s12.trans s3).free o4
      · have e1 : lotG g L e = L := if_neg zg
        rw [decide_eq_false zg, e1]
        exact iteF ⟨_, l, as, rfl, s3, nl, hl, la⟩
    · rintro σ H3 ⟨y4, l, as, rfl, s3, nl, hl, la⟩
      have e1 : (es.take k).take ((tps.take k).map V.ref).length = es.take k := by
        rw [List.length_map, List.length_take, g5.len, List.take_take]
        congr 1
        have := gd.many
        omega
      rw [e1] at la
      exact ⟨_, rfl, q l as H3 (s12.trans s3) nl hl la⟩
end
/-! ### a text and whatever thing, compared; the place of a tuple in a tuple -/
namespace EqT
/-- a thing: data, or a dict -/
def Tng (K : PySem.W.Frag) (G : Hp) (y : V) : Prop := (∃ d, Dp K G y d ∧ SeqAt.shaped d = true) ∨ (∃ a kvs, y = V.ref a ∧ G a = some (.dK kvs)) ∨ ∃ s, y = V.str s
theorem eqv_txt {K : PySem.W.Frag} {G : Hp} {y : V} {d : PyData} {s : Str} (h : Dp K G y d) : PyData.eqv (.str s) d = decide (y = V.str s) := by
  cases h with
  | str x =>
    by_cases z : x = s
    · subst z
      rw [decide_eq_true rfl]
      show (x == x) = true
      simp
    · rw [decide_eq_false fun q => z (V.str.inj q)]
      show (s == x) = false
      exact beq_eq_false_iff_ne.mpr (Ne.symm z)
  | non => exact (decide_eq_false fun q => nomatch q).symm
  | bl b => exact (decide_eq_false fun q => nomatch q).symm
  | int i => exact (decide_eq_false fun q => nomatch q).symm
  | lst _ _ => exact (decide_eq_false fun q => nomatch q).symm
  | tup _ _ => exact (decide_eq_false fun q => nomatch q).symm
open PySem PySem.Spec in
theorem no_str (t : Str) (u : Tok) (l : Addr) (es : Array DictEntry) (n : Nat) (od : Option Addr) (sl : Array (Option Value)) :
    Meets (Builtin.«str.__eq__» ⟨[.str t u, .ref l], []⟩) (fun _ R z => z.heap.get? l = some ⟨.type "dict", od, .dict es n, sl⟩ ∧ R (.ok (.ret .notImplemented)) z) := by
  refine .of_wp fun prog w A R z h => ?_
  obtain ⟨hp, g, d, tk, os⟩ := z
  obtain ⟨hl, h⟩ := h
  wp_walk using wpAny_loadPart' hl, wpAny_load hl
  exact ⟨_, rfl, h⟩
theorem no_dict (t : Str) (u : Tok) (l : Addr) (es : Array DictEntry) (n : Nat) (od : Option Addr) (sl : Array (Option Value)) :
    Meets (Builtin.«dict.__eq__» ⟨[.ref l, .str t u], []⟩) (fun _ R z => z.heap.get? l = some ⟨.type "dict", od, .dict es n, sl⟩ ∧ R (.ok (.ret .notImplemented)) z) := by
  refine .of_wp fun prog w A R z h => ?_
  obtain ⟨hp, g, d, tk, os⟩ := z
  obtain ⟨hl, h⟩ := h
  have f1 := F.sub_str_dict
  wp_walk using wpAny_loadPart' hl, wpAny_load hl
  exact ⟨_, rfl, h⟩
theorem txt_dict {prog : Program} {w : World} {A : Around} {E : Value → Shared → Prop} {z : Shared} {Q : Value → Shared → Prop} {t : Str} {u : Tok} {l : Addr} {es : Array DictEntry} {n : Nat} {od : Option Addr} {sl : Array (Option Value)} (ho : z.heap.get? l = some ⟨.type "dict", od, .dict es n, sl⟩) (hu : A.units < cLine) (h : Q (.bool false) z) :
    wpAny (model prog w) A (compareOp .Eq (.str t u) (.ref l)) Q E z := by
  exact SeqAt.rc_eq_decline_or (k := false) (typeIs_str z t u) ⟨_, ho, rfl⟩ (by decide) F.sub_dict_str F.slot_str_eq F.slot_dict_eq_refl
    (fun _ hq => call_meets F.slot_str_eq (typeIs_str z t u) F.entry_str_eq (F.args_str_eq_2 _ _) (no_str t u l es n od sl) ⟨ho, hq⟩)
    (fun _ hq => call_meets F.slot_dict_eq_refl ⟨_, ho, rfl⟩ F.entry_dict_eq (F.args_dict_eq_2 _ _) (no_dict t u l es n od sl) ⟨ho, hq⟩)
    (fun _ hq => wpAny_of_eq (rfl : isSame (.str t u) (.ref l) = pure false) hq) (.inr hu) h
theorem op_eqT {X : Cx} (hu : X.A.units + 64 < cLine) : OpR X (compareOp .Eq) (fun x y G W => ∃ s, x = V.str s ∧ PyData.strOk s = true ∧ Tng X.K G y ∧ W (V.bl (decide (y = V.str s))) G) := by
  rintro pins z τ G x y v u W I rx ry ⟨s, rfl, so, th, q⟩
  obtain ⟨t, rfl⟩ : ∃ t, v = Value.str s t := rx
  rcases th with ⟨d, hd, sd⟩ | ⟨a, kvs, rfl, ha⟩ | ⟨s', rfl⟩
  · obtain ⟨as, r2⟩ := Dp.reads I d y u hd ry
    rw [← eqv_txt hd] at q
    exact SeqAt.compareEq_shaped (Reads.str s t) r2 (by simp [SeqAt.shaped, PyData.canLay0, PyData.depth, so]) sd hu ⟨.bl _, G, I, rfl, q⟩
  · obtain rfl : u = Value.ref a := ry
    obtain ⟨_, _, vs, _, o, es, ep, h1, h2, h3, _⟩ := (show ObjOk X.prog X.w G z.heap a (.dK kvs) from I.hok a _ ha)
    rw [decide_eq_false fun q => nomatch q] at q
    obtain ⟨oc, od, dt, sl⟩ := o
    have z1 := h2.1
    dsimp only at z1 h3
    subst z1 h3
    exact txt_dict h1 (by omega) ⟨.bl false, G, I, rfl, q⟩
  · refine op_eq pins z τ G (V.str s) (V.str s') _ u W I ⟨t, rfl⟩ ry ⟨rfl, ?_⟩
    have e : decide (V.str s = V.str s') = decide (V.str s' = V.str s) := by
      by_cases w : s = s'
      · rw [w]
      · rw [decide_eq_false fun q => w (V.str.inj q), decide_eq_false fun q => w (V.str.inj q).symm]
    rw [e]
    exact q
theorem at_dict {A : Around} {z : Shared} {t : Str} {u : Tok} {l : Addr} {es : Array DictEntry} {n : Nat} {od : Option Addr} {sl : Array (Option Value)} (ho : z.heap.get? l = some ⟨.type "dict", od, .dict es n, sl⟩) (hu : A.units < cLine) : SeqAt.EqAt A z (.str t u) (.ref l) false := fun prog w E Q h => by
  unfold eqBool
  refine wpAny_holding (wpAny_ite_split (fun q => absurd (eq_of_beq q) nofun) fun _ => ?_)
  exact wpAny_bind (txt_dict ho hu (wpAny_truthy_bool h))
/-- a thing, not in a list of texts -/
def rOutT (K : PySem.W.Frag) : R2 := fun x y G W => ∃ (l : Addr) (ns : List Str), y = V.ref l ∧ SqL K G l (ns.map V.str) ∧ (∀ n ∈ ns, PyData.strOk n = true) ∧ Tng K G x ∧ W (V.bl (!decide (x ∈ ns.map V.str))) G
theorem op_outT {X : Cx} (hu : X.A.units + 65 < cLine) : OpR X (compareOp .NotIn) (rOutT X.K) := by
  rintro pins z τ G x y v u W I rx ry ⟨l, ns, rfl, hl, so, th, q⟩
  obtain rfl : u = Value.ref l := ry
  obtain ⟨its, rv, pl, hz⟩ := I.list hl
  have item : ∀ w ∈ its, ∃ n t, n ∈ ns ∧ w = Value.str n t := fun w hw => by
    obtain ⟨i, hi⟩ := List.mem_iff_getElem?.mp hw
    have lt := (List.getElem?_eq_some_iff.mp hi).1
    have lt' : i < ns.length := by rw [← rv.length, List.length_map] at lt; exact lt
    obtain ⟨w', hw', t', e'⟩ := rv.get (i := i) (x := .str ns[i]) (by simp [lt'])
    rw [hi] at hw'
    obtain rfl := Option.some.inj hw'
    exact ⟨ns[i], t', List.getElem_mem lt', e'⟩
  have one : ∀ w ∈ its, SeqAt.EqAt X.A.in1 z w v (match w with | .str n _ => decide (x = V.str n) | _ => false) := fun w hw => by
    obtain ⟨n, t, hn, rfl⟩ := item w hw
    show SeqAt.EqAt X.A.in1 z (.str n t) v (decide (x = V.str n))
    rcases th with ⟨d, hd, sd⟩ | ⟨a, kvs, rfl, ha⟩ | ⟨s', rfl⟩
    · obtain ⟨as, r2⟩ := Dp.reads I d x v hd rx
      rw [← eqv_txt hd]
      exact SeqAt.eqAt_reads (.str n) d X.A.in1 z _ _ _ _ (Reads.str n t) r2 (by rw [PyData.canLay0]; exact so n hn) (SeqAt.canLay_of_shaped sd) (by
        show X.A.units + 1 + min (PyData.depth (.str n)) d.depth < cLine
        have : PyData.depth (.str n) = 0 := rfl
        omega)
    · obtain rfl : v = Value.ref a := rx
      obtain ⟨_, _, vs, _, o, es, ep, h1, h2, h3, _⟩ := (show ObjOk X.prog X.w G z.heap a (.dK kvs) from I.hok a _ ha)
      rw [decide_eq_false fun q => nomatch q]
      obtain ⟨oc, od, dt, sl⟩ := o
      have z1 := h2.1
      dsimp only at z1 h3
      subst z1 h3
      exact at_dict h1 (by show X.A.units + 1 < cLine; omega)
    · obtain ⟨t', rfl⟩ : ∃ t', v = Value.str s' t' := rx
      have e : decide (V.str s' = V.str n) = (n == s') := by
        by_cases w : n = s'
        · rw [w, decide_eq_true rfl]
          exact (beq_self_eq_true s').symm
        · rw [decide_eq_false fun q => w (V.str.inj q).symm]
          exact (beq_eq_false_iff_ne.mpr w).symm
      rw [e]
      exact SeqAt.EqAt.str_str n t s' t'
  refine SeqAt.notIn_listAt (fun w => match w with | .str n _ => decide (x = V.str n) | _ => false) pl.isList (fun w hw => one w (by simpa using hw)) ⟨.bl _, G, I, rfl, ?_⟩
  have e : (its.toArray.any fun w => match w with | .str n _ => decide (x = V.str n) | _ => false) = decide (x ∈ ns.map V.str) := by
    by_cases w : x ∈ ns.map V.str
    · rw [decide_eq_true w]
      obtain ⟨n, hn, rfl⟩ := List.mem_map.mp w
      obtain ⟨i, hi⟩ := List.mem_iff_getElem?.mp hn
      obtain ⟨w', hw', t', e'⟩ := rv.get (i := i) (x := .str n) (by rw [List.getElem?_map, hi]; rfl)
      rw [List.any_toArray]
      refine List.any_eq_true.mpr ⟨w', List.mem_of_getElem? hw', ?_⟩
      rw [e']
      exact decide_eq_true rfl
    · rw [decide_eq_false w, List.any_toArray, List.any_eq_false]
      intro w' hw' q'
      obtain ⟨n, t, hn, rfl⟩ := item w' hw'
      exact w (by rw [of_decide_eq_true q']; exact List.mem_map_of_mem hn)
  rw [e]
  exact q
/-- t.index(x), t and x data -/
def rIxD (K : PySem.W.Frag) : V → List V → Hp → VK → Prop := fun x xs G W => ∃ (a : Addr) (y : V) (d : PyData) (ds : List PyData) (j : Nat), x = V.ref a ∧ xs = [y] ∧ Dp K G (V.ref a) (.tuple ds) ∧ Dp K G y d ∧ SeqAt.shaped (.tuple ds) = true ∧ SeqAt.shaped d = true ∧
  (∃ e, ds[j]? = some e ∧ PyData.eqv e d = true) ∧ (∀ (m : Nat) (e : PyData), m < j → ds[m]? = some e → PyData.eqv e d = false) ∧ W (V.int (j : Nat)) G
theorem mt_ixD {X : Cx} (hu : X.A.units + 65 < cLine) : MtR X "tuple.index" (rIxD X.K) := by
  rintro pins z τ G x xs v us W I rx rxs ⟨a, y, d, ds, j, rfl, rfl, dt, dy, st, sy, ⟨e, he, hit⟩, miss, q⟩
  cases rx
  cases rxs with
  | cons ry rt =>
    rename_i uy ut
    cases rt
    obtain ⟨bs, r1⟩ := Dp.reads I d y uy dy ry
    have lay : PyData.canLayAll0 ds = true := SeqAt.canLay_of_shaped st
    have rm : X.A.units + 1 + min (PyData.depthAll ds) d.depth < cLine := room_in_shaped sy hu
    cases dt with
    | tup hs ha =>
      obtain ⟨its, rv, ⟨⟨oc, od, dt, sl⟩, ho, hc, n, hd⟩, hz⟩ := I.tuple hs
      simp only at hc hd
      subst hc hd
      obtain ⟨as, ra⟩ := Dp.readsAll I ds _ its ha rv
      have ln : its.length = ds.length := SeqAt.ReadsAll.length ds its as ra
      have mp : its.map (SeqAt.readOf z.heap) = ds := SeqAt.readsAll_map ds its as lay ra
      have lt : j < its.toArray.size := by
        have := (List.getElem?_eq_some_iff.mp he).1
        simp only [List.size_toArray]
        omega
      have rd : ∀ (m : Nat) (hm : m < its.toArray.size) (e' : PyData), ds[m]? = some e' → SeqAt.readOf z.heap its.toArray[m] = e' := by
        intro m hm e' h'
        have hml : m < its.length := by simpa using hm
        rw [← mp, List.getElem?_map, List.getElem?_eq_getElem hml] at h'
        have := Option.some.inj (show some (SeqAt.readOf z.heap its[m]) = some e' from h')
        simpa using this
      refine call_meets PySem.F.slot_tuple_index ⟨_, ho, rfl⟩ PySem.F.entry_tuple_index (PySem.F.args_tuple_index_2 _ _)
        (TI.tuple_indexAt a its.toArray n od sl uy (fun u => PyData.eqv (SeqAt.readOf z.heap u) d) j lt ?_ ?_) ⟨ho, SeqAt.items_eqAt (vs := its.toArray) (show ReadsAll z.heap its.toArray.toList ds as from ra) r1 lay (SeqAt.canLay_of_shaped sy) rm, ⟨.int (j : Nat), G, I.tok _, ⟨_, rfl⟩, q⟩⟩
      · show PyData.eqv (SeqAt.readOf z.heap its.toArray[j]) d = true
        rw [rd j lt e he]
        exact hit
      · intro m hm hmj
        have hmd : m < ds.length := by
          have := (List.getElem?_eq_some_iff.mp he).1
          omega
        show PyData.eqv (SeqAt.readOf z.heap its.toArray[m]) d = false
        rw [rd m hm _ (List.getElem?_eq_getElem hmd)]
        exact miss m _ hmj (List.getElem?_eq_getElem hmd)
end EqT
/-! ### the parts told, the law -/
theorem name_ok {y : Str} (h : nameB y = true) : PyData.strOk y = true := by
  have all : y.cps.toList.all signB = true := by
    unfold nameB at h
    rw [Bool.and_eq_true] at h
    exact h.2
  have low : ∀ c ∈ abc.cps.toList, c < 0x110000 := by decide +kernel
  unfold PyData.strOk
  rw [← Array.all_toList, List.all_eq_true]
  intro c hc
  exact decide_eq_true (low c (of_decide_eq_true (List.all_eq_true.mp all c hc)))
theorem lay_strs : ∀ {ys : List Str}, (∀ y ∈ ys, nameB y = true) → PyData.canLayAll0 (ys.map PyData.str) = true
  | [], _ => rfl
  | y :: r, h => by
    rw [List.map_cons, PyData.canLayAll0, PyData.canLay0, name_ok (h y List.mem_cons_self), lay_strs fun z hz => h z (List.mem_cons_of_mem _ hz)]
    rfl
theorem deep_strs : ∀ ys : List Str, PyData.depthAll (ys.map PyData.str) = 0
  | [] => rfl
  | _ :: r => by simp [PyData.depthAll, PyData.depth, deep_strs r]
theorem shaped_strs {ys : List Str} (h : ∀ y ∈ ys, nameB y = true) : SeqAt.shaped (.tuple (ys.map PyData.str)) = true := by
  simp [SeqAt.shaped, PyData.canLay0, PyData.depth, lay_strs h, deep_strs]
/-! ### entries as data, compared -/
theorem word_ok (e : Ent) : PyData.strOk e.word = true := by
  have h : ∀ x ∈ words7, PyData.strOk x = true := by decide +kernel
  exact h _ e.word_in
theorem entD_cons (e : Ent) : entD e = .tuple (.str e.word :: .str e.name :: .int e.moment :: e.rest.map dV) := rfl
theorem rest_lay {e : Ent} {P G HL : List Str} (hP : ∀ y ∈ P, nameB y = true) (hG : ∀ y ∈ G, nameB y = true) (hH : ∀ y ∈ HL, nameB y = true) (h : e.From P G HL) : PyData.canLayAll0 (e.rest.map dV) = true := by
  have e0 : PyData.strOk "" = true := by decide +kernel
  cases e with
  | come n m g p k r => simp [Ent.rest, dV, PyData.canLayAll0, PyData.canLay0, name_ok (hG _ h.1), name_ok (hP _ h.2.1)]
  | go n m g p k => simp [Ent.rest, dV, PyData.canLayAll0, PyData.canLay0, name_ok (hG _ h.1), name_ok (hP _ h.2.1)]
  | move n m g o t k => simp [Ent.rest, dV, PyData.canLayAll0, PyData.canLay0, name_ok (hG _ h.1), name_ok (hP _ h.2.1), name_ok (hP _ h.2.2.1)]
  | some_ n m g o t =>
    have ot : PyData.strOk t = true := by
      rcases h.2.2 with z | z
      · rw [z]; exact e0
      · exact name_ok (hP _ z.1)
    simp [Ent.rest, dV, PyData.canLayAll0, PyData.canLay0, name_ok (hG _ h.1), name_ok (hP _ h.2.1), ot]
  | swap n m o t => simp [Ent.rest, dV, PyData.canLayAll0, PyData.canLay0, name_ok (hP _ h.1), name_ok (hP _ h.2.1)]
  | count n m g p k hd => simp [Ent.rest, dV, PyData.canLayAll0, PyData.canLay0, name_ok (hG _ h.1), name_ok (hP _ h.2.1), name_ok (hH _ h.2.2.2.2)]
  | look n m g p => simp [Ent.rest, dV, PyData.canLayAll0, PyData.canLay0, name_ok (hG _ h.1), name_ok (hP _ h.2)]
theorem lay_ent {P G : List Str} {es : List Ent} {m : Nat} (gd : Good P G es m) {e : Ent} (he : e ∈ es) : (entD e).canLay0 = true := by
  obtain ⟨n1, _, _, HL, hH, fr⟩ := gd.ents e he
  rw [entD_cons, PyData.canLay0]
  simp only [PyData.canLayAll0, PyData.canLay0, word_ok, name_ok n1, rest_lay gd.nm gd.gn hH fr, Bool.and_self]
theorem dV_depth : ∀ vs : List V, PyData.depthAll (vs.map dV) = 0
  | [] => rfl
  | v :: r => by
    rw [List.map_cons]
    cases v <;> simp [dV, PyData.depthAll, PyData.depth, dV_depth r]
theorem entD_depth (e : Ent) : (entD e).depth = 1 := by
  unfold entD
  rw [PyData.depth, dV_depth]
theorem shaped_ent {P G : List Str} {es : List Ent} {m : Nat} (gd : Good P G es m) {e : Ent} (he : e ∈ es) : SeqAt.shaped (entD e) = true := by
  unfold SeqAt.shaped
  rw [lay_ent gd he, entD_depth]
  decide
theorem lay_ents {es : List Ent} : (∀ e ∈ es, (entD e).canLay0 = true) → PyData.canLayAll0 (es.map entD) = true := by
  induction es with
  | nil => intro _; rfl
  | cons e r ih =>
    intro h
    rw [List.map_cons, PyData.canLayAll0, h e List.mem_cons_self, ih fun x hx => h x (List.mem_cons_of_mem _ hx)]
    rfl
theorem depth_ents (es : List Ent) : PyData.depthAll (es.map entD) ≤ 1 := by
  induction es with
  | nil => exact Nat.zero_le _
  | cons e r ih =>
    rw [List.map_cons, PyData.depthAll, entD_depth]
    omega
theorem shaped_ents {P G : List Str} {es : List Ent} {m : Nat} (gd : Good P G es m) : SeqAt.shaped (.tuple (es.map entD)) = true := by
  unfold SeqAt.shaped
  rw [PyData.canLay0, PyData.depth, lay_ents fun e he => lay_ent gd he]
  have := depth_ents es
  exact decide_eq_true (by omega)
theorem eqv_ent {e f : Ent} (h : e.name ≠ f.name) : PyData.eqv (entD e) (entD f) = false := by
  rw [entD_cons, entD_cons, PyData.eqv, PyData.eqvAll, PyData.eqvAll]
  have : PyData.eqv (.str e.name) (.str f.name) = false := beq_eq_false_iff_ne.mpr h
  rw [this, Bool.false_and, Bool.and_false]
theorem nth_name {P G : List Str} {es : List Ent} {m : Nat} (gd : Good P G es m) {i j : Nat} {e f : Ent} (hi : es[i]? = some e) (hj : es[j]? = some f) (h : e.name = f.name) : i = j := by
  have h1 : (es.map Ent.name)[i]? = some e.name := by rw [List.getElem?_map, hi]; rfl
  have h2 : (es.map Ent.name)[j]? = some e.name := by rw [List.getElem?_map, hj, h]; rfl
  exact nodup_ix gd.nms h1 h2
structure DefX (P : Program) (w : World) (K : PySem.W.Frag) (mg : Str → Option Value) (base : Heap) (x : Str) (k : Nat) (f : Addr) (fd : FuncData) (ps : List Str) (sp : Sp) : Prop where
  ok : FnOk P w K mg base (L2.CX P w) k f fd ps sp
  g : mg x = some (.ref f)
  kp : PySem.W.keepIn K (.ref f) = true
  b : Binds K fd ps []
/-- an own class of errors over ValueError -/
structure Err (K : PySem.W.Frag) (mg : Str → Option Value) (x : Str) (C : Addr) : Prop where
  gC : mg x = some (.ref C)
  ex : PySem.W.excIn K C [.type "ValueError", .type "Exception", .type "BaseException", .type "object"] "ValueError.__new__" = true
  kp : PySem.W.keepIn K (.ref C) = true
  sb : PySem.W.subIn K (.ref C) (.type "BaseException") = some true
  ty : PySem.W.typeIn K (.ref C) = some (.type "type")
/-! ### an entry by its name; what a go took -/
theorem ps_nox {X : Cx} {st : Stmt} {t : TS} (h : PS X.nox st t) : PS X st t := by
  constructor
  intro pins z τ G D I hw
  exact wpAny_mono (h.run pins z τ G D (I.wish _) hw) (fun _ _ q => q.unwish) fun _ _ q => False.elim q
theorem room65 {k : Nat} {A : Around} (r : Room k A) : A.units + 65 < cLine := by
  have := r.un
  omega
def spCalled (K : PySem.W.Frag) (CN : Addr) : Sp := fun vs H Q E => ∃ (h : Addr) (P G : List Str) (es : List Ent) (m : Nat) (v : V), vs = [.ref h, v] ∧ HouseF H h P G es ∧ Good P G es m ∧ EqT.Tng K H v ∧
  ((∃ e ∈ es, v = .str e.name ∧ ∀ a, H a = some (.tup e.vals) → Q (.ref a) H) ∨ ((∀ e ∈ es, v ≠ .str e.name) ∧ E (.ref CN) none H))
section
variable {P : Program} {w : World} {K : PySem.W.Frag} {mg : Str → Option Value} {base : Heap}
abbrev sCalledN : List Str := ["house", "name", "entry"]
theorem sc_sCalled : FnScope sCalledN ["house", "name"] (defScope sCalled) := ⟨rfl, rfl, rfl, by decide +kernel, rfl, by decide +kernel, by decide +kernel⟩
set_option maxHeartbeats 2000000 in
theorem ok_called {f CN : Addr} {fd : FuncData} (F : Fun K "entry_called" "entry_called" sCalled f fd) (EN : Err K mg "NoName" CN) : FnOk P w K mg base (L2.CX P w) 1 f fd ["house", "name"] (spCalled K CN) := by
  refine F.okX sc_sCalled (fun vs H Q E h => ?_) (fun cdv A outer s H vs Q E hr h => ?_)
  · obtain ⟨h, Ps, G, es, m, v, rfl, _⟩ := h
    rfl
  · obtain ⟨h, Ps, G, es, m, v, rfl, ho, gd, tg, ways⟩ := h
    have nd := sc_sCalled.nd
    refine ⟨_, pss_cons (ps_nox <| ps_for PassesOwn.never rfl (pi_tup (pe_ix ix_tup (pv 0) pe_int (fun _ _ => rfl))) (pg_name (i := 2) nd rfl (Or.inl rfl))
        (pss_one (ps_if (pt_cmpR (EqT.op_eqT hr.units) (pe_ix ix_tup (pv 2) pe_int (fun _ _ => rfl)) (pv 1) (nomark _)) (pss_one (ps_ret (pv 2))) pss_nil)))
      (pss_one (ps_raise rfl (takes_of rfl rfl rfl rfl) (pmk_own PySem.F.excBase_ValueError EN.ex EN.gC EN.kp (raises_own EN.sb EN.ty) rfl))), ?_⟩
    obtain ⟨hp, hg, he, tps, ob, g1, g2, g3, ⟨g4, g6⟩, g5⟩ := ho.ex
    refine ⟨_, rfl, h, _, 2, _, rfl, rfl, SqT.of g1, atI_nat (j := 2) rfl, he, rfl, ⟨_, sqt_fz g4⟩, ?_⟩
    refine for_tup (K := K) (a := he) (xs := tps.map V.ref) (fun i σ H' => ∃ y2, σ = [some (.ref h), some v, y2] ∧ H' = H ∧ ∀ e ∈ es.take i, v ≠ .str e.name)
      ⟨_, rfl, rfl, fun e he => nomatch he⟩ (fun i σ H' _ z => by obtain ⟨_, _, rfl, _⟩ := z; exact sqt_fz g4) ?_ ?_
    · rintro i x σ H1 hx ⟨y2, rfl, rfl, no⟩
      rw [List.getElem?_map] at hx
      obtain ⟨a, ha, rfl⟩ := Option.map_eq_some_iff.mp hx
      obtain ⟨e, hes, hae⟩ := g5.get ha
      refine ⟨_, rfl, a, _, 1, _, rfl, rfl, SqT.of hae, at1 e, _, rfl, e.name, rfl, name_ok (gd.ents e (List.mem_of_getElem? hes)).1, tg, _, rfl, ite2 (fun z => ?_) (fun z => ?_)⟩
      · have z' : v = .str e.name := of_decide_eq_true z
        rcases ways with ⟨e', m', hv, q⟩ | ⟨none_, _⟩
        · have en : e' = e := by
            obtain ⟨j, hj⟩ := List.mem_iff_getElem?.mp m'
            have ij := nth_name gd hj hes (V.str.inj (hv.symm.trans z'))
            rw [ij, hes] at hj
            exact (Option.some.inj hj).symm
          subst en
          exact ⟨_, rfl, q a hae⟩
        · exact absurd z' (none_ e (List.mem_of_getElem? hes))
      · refine ⟨_, rfl, rfl, fun e' he' => ?_⟩
        rw [take_snoc hes] at he'
        rcases List.mem_append.mp he' with he' | he'
        · exact no e' he'
        · rw [List.mem_singleton.mp he']
          exact fun y => z (decide_eq_true y)
    · rintro σ H1 ⟨y2, rfl, rfl, no⟩
      rw [List.length_map, g5.len, List.take_length] at no
      rcases ways with ⟨e', m', hv, q⟩ | ⟨_, q⟩
      · exact absurd hv (no e' m')
      · exact q
def TakenWays (es : List Ent) (v : V) (CN CG : Addr) (H : Hp) (Q : VK) (E : XK) : Prop :=
  (∃ (j : Nat) (n : Str) (mo : Int) (g p : Str) (k : Int), es[j]? = some (.go n mo g p k) ∧ v = .str n ∧ ∀ (t pl : Addr) (ps : List Addr) (H' : Hp), Same H H' → H pl = none → H' t = some (.tup [.ref pl, .int (tkS (lotsN g (es.take j)) k).2]) → H' pl = some (.lst (ps.map V.ref)) → PrtsAt H' ps (tkS (lotsN g (es.take j)) k).1 → Q (.ref t) H') ∨
    (∃ e ∈ es, v = .str e.name ∧ e.word ≠ "go" ∧ E (.ref CG) none H) ∨ ((∀ e ∈ es, v ≠ .str e.name) ∧ E (.ref CN) none H)
def spTakenBy (K : PySem.W.Frag) (CN CG : Addr) : Sp := fun vs H Q E => ∃ (h : Addr) (P G : List Str) (es : List Ent) (m : Nat) (v : V), vs = [.ref h, v] ∧ HouseF H h P G es ∧ Good P G es m ∧ m ≤ 30 ∧ EqT.Tng K H v ∧ TakenWays es v CN CG H Q E
abbrev sTakenByN : List Str := ["house", "name", "go"]
theorem sc_sTakenBy : FnScope sTakenByN ["house", "name"] (defScope sTakenBy) := ⟨rfl, rfl, rfl, by decide +kernel, rfl, by decide +kernel, by decide +kernel⟩
set_option maxHeartbeats 2000000 in
theorem ok_takenBy {f fE fT fL fG CN CG : Addr} {fd dE dT dL dG : FuncData} (F : Fun K "taken_by" "taken_by" sTakenBy f fd) (EC : DefX P w K mg base "entry_called" 1 fE dE ["house", "name"] (spCalled K CN)) (TF : DefT P w K mg base "taken_from" 1 fT dT ["lots", "many"] spTaken)
    (LB : DefT P w K mg base "lots_behind" 3 fL dL ["house", "good", "at"] spLotsB) (GO : DefT P w K mg base "good_of" 1 fG dG ["entry"] spGood) (EG : Err K mg "NoGo" CG) : FnOk P w K mg base (L2.CX P w) 4 f fd ["house", "name"] (spTakenBy K CN CG) := by
  refine F.okX sc_sTakenBy (fun vs H Q E h => ?_) (fun cdv A outer s H vs Q E hr h => ?_)
  · obtain ⟨h, Ps, G, es, m, v, rfl, _⟩ := h
    rfl
  · obtain ⟨h, Ps, G, es, m, v, rfl, ho, gd, m30, tg, ways⟩ := h
    have hu65 := room65 hr
    have nd := sc_sTakenBy.nd
    have hr1 : Room 1 _ := hr.mono (by decide)
    refine ⟨_, pss_cons (ps_set (i := 2) nd rfl (Or.inl rfl) (pe_callS EC.ok hr1 (by rfl) EC.g EC.kp EC.b (fun σ => passAt (takes_of rfl rfl rfl rfl) σ) (pa_cons (pv 0) (pa_cons (pv 1) pa_nil))))
      (pss_cons (ps_if (pt_cmpR op_ne (pe_ix ix_tup (pv 2) pe_int (fun _ _ => rfl)) pe_str (nomark _)) (pss_one (ps_raise rfl (takes_of rfl rfl rfl rfl) (pmk_own PySem.F.excBase_ValueError EG.ex EG.gC EG.kp (raises_own EG.sb EG.ty) rfl))) pss_nil)
      (PSs.nox <| pss_one (ps_ret (pe_call TF.ok hr1 (by rfl) TF.g TF.kp TF.b .nil pass0 (pa_cons (pe_call LB.ok hr (by rfl) LB.g LB.kp LB.b .nil pass0 (pa_cons (pv 0) (pa_cons (pe_call GO.ok hr1 (by rfl) GO.g GO.kp GO.b .nil pass0 (pa_cons (pv 2) pa_nil)) (pa_cons (pe_bmF PySem.F.slot_tuple_index PySem.F.type_tuple_index (EqT.mt_ixD hu65) (pe_ix ix_tup (pv 0) pe_int (fun _ _ => rfl)) (pa_cons (pv 2) pa_nil)) pa_nil)))) (pa_cons (pe_ix ix_tup (pv 2) pe_int (fun _ _ => rfl)) pa_nil)))))), ?_⟩
    have en : ∀ (Q' : VK), (∀ a e, e ∈ es → v = .str e.name → H a = some (.tup e.vals) → Q' (.ref a) H) → (∃ e ∈ es, v = .str e.name) → spCalled K CN [.ref h, v] H Q' (fun c d G => E c d G) := fun Q' hq ⟨e, he, hv⟩ =>
      ⟨h, Ps, G, es, m, v, rfl, ho, gd, tg, .inl ⟨e, he, hv, fun a ha => hq a e he hv ha⟩⟩
    obtain ⟨hp, hg, he, tps, ob, g1, g2, g3, ⟨g4, g6⟩, g5⟩ := ho.ex
    rcases ways with ⟨j, n, mo, g, p, k, hj, rfl, q⟩ | ⟨e, hE, hv, ng, q⟩ | ⟨no, q⟩
    · refine ⟨_, rfl, _, rfl, h, Ps, G, es, m, _, rfl, ho, gd, tg, .inl ⟨.go n mo g p k, List.mem_of_getElem? hj, rfl, fun a ha => ?_⟩⟩
      refine ⟨_, rfl, a, _, 0, _, rfl, rfl, SqT.of ha, at0 _, rfl, false, ?_, iteF ?_⟩
      · show V.bl (!decide (V.str "go" = V.str "go")) = V.bl false
        rw [decide_eq_true rfl]
        rfl
      refine ⟨_, rfl, _, rfl, a, _, rfl, ha, _, rfl, h, _, 2, _, rfl, rfl, SqT.of g1, atI_nat (j := 2) rfl, ⟨he, ob, _, rfl, g4, g6⟩, _, rfl, he, .ref a, entD (.go n mo g p k), es.map entD, j, rfl, rfl, .tup (sqt_fz g4) (dp_ents g5), dp_ent ha, shaped_ents gd, shaped_ent gd (List.mem_of_getElem? hj), ⟨entD (.go n mo g p k), by rw [List.getElem?_map, hj]; rfl, PySem.SeqAt.eqv_refl _ (lay_ent gd (List.mem_of_getElem? hj))⟩, fun i e' hi he' => ?_, ?_⟩
      · rw [List.getElem?_map] at he'
        obtain ⟨f, hf, rfl⟩ := Option.map_eq_some_iff.mp he'
        exact eqv_ent fun z => Nat.ne_of_lt hi (nth_name gd hf hj z)
      have jl : j ≤ m := by
        have := (List.getElem?_eq_some_iff.mp hj).1
        have := gd.many
        omega
      refine ⟨h, Ps, G, es, m, j, g, rfl, ho, gd, m30, jl, fun l as H1 s1 nl hl la => ?_⟩
      have ll : (lotsN g (es.take j)).length ≤ 100 := by
        have := lotsN_len g (es.take j)
        rw [List.length_take] at this
        omega
      exact ⟨_, rfl, a, _, 5, _, rfl, rfl, SqT.of (s1 _ _ ha), atI_nat (j := 5) rfl, l, as, lotsN g (es.take j), k, rfl, hl, la, ll, fun t pl ps H2 s2 np ht hp pp => q t pl ps H2 (s1.trans s2) (s1.free np) ht hp pp⟩
    · refine ⟨_, rfl, _, rfl, h, Ps, G, es, m, _, rfl, ho, gd, tg, .inl ⟨e, hE, hv, fun a ha => ?_⟩⟩
      refine ⟨_, rfl, a, _, 0, _, rfl, rfl, SqT.of ha, at0 e, rfl, true, ?_, iteT q⟩
      show V.bl (!decide (V.str e.word = V.str "go")) = V.bl true
      rw [decide_eq_false fun z => ng (V.str.inj z)]
      rfl
    · exact ⟨_, rfl, _, rfl, h, Ps, G, es, m, _, rfl, ho, gd, tg, .inr ⟨no, q⟩⟩
end
/-! ### the text of lots isn't long -/
def Ln.Ok (x : Ln) : Prop := nameB x.n = true ∧ x.e - x.b ≤ 1000000000 ∧ 0 ≤ x.p ∧ x.p ≤ 1000000000
theorem ln_ok {g : Str} : ∀ (es : List Ent) (s : List Ln × Int × Int), (∀ x ∈ s.1, x.Ok) → (∀ e ∈ es, nameB e.name = true ∧ ∃ P G HL : List Str, e.From P G HL) → ∀ x ∈ (es.foldl (lnStep g) s).1, x.Ok
  | [], s, h, _ => h
  | e :: r, s, h, he => by
    rw [List.foldl_cons]
    refine ln_ok r _ ?_ fun e' h' => he e' (List.mem_cons_of_mem _ h')
    obtain ⟨nn, P, G, HL, fr⟩ := he e List.mem_cons_self
    cases e with
    | come n m g' p k r' =>
      show ∀ x ∈ (if g' = g then _ else s).1, x.Ok
      obtain ⟨_, _, f3, f4, f5, f6⟩ := fr
      split
      · intro x hx
        rcases List.mem_append.mp hx with hx | hx
        · exact h x hx
        · rw [List.mem_singleton.mp hx]
          exact ⟨nn, (by show s.2.1 + k - s.2.1 ≤ _; omega), f5, f6⟩
      · exact h
    | go n m g' p k =>
      show ∀ x ∈ (if g' = g then _ else s).1, x.Ok
      split
      · exact h
      · exact h
    | move n m g' o t k => exact h
    | some_ n m g' o t => exact h
    | swap n m o t => exact h
    | count n m g' p k h' => exact h
    | look n m g' p => exact h
theorem lots_mem {P G : List Str} {es : List Ent} {m : Nat} (gd : Good P G es m) {g : Str} {k : Nat} {l : Lot} (h : l ∈ lotsN g (es.take k)) : nameB l.n = true ∧ 0 < l.left ∧ l.left ≤ 1000000000 ∧ 0 ≤ l.price ∧ l.price ≤ 1000000000 := by
  have r := lots_due gd g k
  rw [r.eq] at h
  have pos := due_pos r.co l h
  obtain ⟨x, hx, rfl⟩ := List.mem_map.mp h
  obtain ⟨o1, o2, o3, o4⟩ := ln_ok (g := g) (es.take k) ([], 0, 0) (fun x hx => nomatch hx) (fun e he => by
    obtain ⟨n1, _, _, HL, _, fr⟩ := gd.ents e (List.mem_of_mem_take he)
    exact ⟨n1, P, G, HL, fr⟩) x ((List.mem_filter.mp hx).1)
  refine ⟨o1, pos, ?_, o3, o4⟩
  show x.e - mxI x.b _ ≤ _
  rw [mxI_eq]
  omega
/-! ### costs and worths -/
def priceL : List Lot → Str → Int
  | [], _ => 0
  | l :: r, n => if l.n = n then l.price else priceL r n
def costL (L : List Lot) (b : Int) : Int := ((tkR L b).map fun p => p.k * priceL L p.n).sum
def worthL (L : List Lot) : Int := (L.map fun l => l.left * l.price).sum
def costR : List Lot → Int → Int
  | [], _ => 0
  | l :: r, b => if 0 < mnI l.left b then mnI l.left b * l.price + costR r (b - mnI l.left b) else costR r b
theorem tkR_mem : ∀ {L : List Lot} {b : Int} {p : Prt}, p ∈ tkR L b → ∃ l ∈ L, p.n = l.n
  | l :: r, b, p, h => by
    rw [tkR] at h
    by_cases z : 0 < mnI l.left b
    · rw [if_pos z] at h
      rcases List.mem_cons.mp h with rfl | h
      · exact ⟨l, List.mem_cons_self, rfl⟩
      · obtain ⟨l', h1, h2⟩ := tkR_mem h
        exact ⟨l', List.mem_cons_of_mem _ h1, h2⟩
    · rw [if_neg z] at h
      obtain ⟨l', h1, h2⟩ := tkR_mem h
      exact ⟨l', List.mem_cons_of_mem _ h1, h2⟩
theorem price_skip {l : Lot} {r : List Lot} (n1 : l.n ∉ r.map Lot.n) (ps : List Prt) (h : ∀ p ∈ ps, ∃ x ∈ r, p.n = x.n) : (ps.map fun p => p.k * priceL (l :: r) p.n) = ps.map fun p => p.k * priceL r p.n := by
  refine List.map_congr_left fun p hp => ?_
  obtain ⟨x, hx, e⟩ := h p hp
  have ne : ¬ l.n = p.n := fun z => n1 (by rw [z, e]; exact List.mem_map_of_mem hx)
  rw [priceL, if_neg ne]
theorem cost_R : ∀ {L : List Lot} {b : Int}, (L.map Lot.n).Nodup → costL L b = costR L b
  | [], _, _ => rfl
  | l :: r, b, nd => by
    obtain ⟨n1, n2⟩ := List.nodup_cons.mp nd
    unfold costL
    rw [tkR, costR]
    by_cases z : 0 < mnI l.left b
    · rw [if_pos z, if_pos z, List.map_cons, List.sum_cons, price_skip n1 _ fun p hp => tkR_mem hp]
      have h2 := cost_R (L := r) (b := b - mnI l.left b) n2
      unfold costL at h2
      rw [h2]
      show mnI l.left b * priceL (l :: r) l.n + _ = _
      rw [priceL, if_pos rfl]
    · rw [if_neg z, if_neg z, price_skip n1 _ fun p hp => tkR_mem hp]
      exact cost_R (L := r) n2
theorem costR_zero : ∀ (L : List Lot) (b : Int), b ≤ 0 → costR L b = 0
  | [], _, _ => rfl
  | l :: r, b, h => by
    have z : ¬ 0 < mnI l.left b := by rw [mnI_eq]; omega
    rw [costR, if_neg z]
    exact costR_zero r b h
def btwT (g z : Int) (x : Ln) : Int := mxI 0 (mnI x.e z - mxI x.b g)
def btw (L : List Ln) (g z : Int) : Int := (L.map fun x => btwT g z x * x.p).sum
theorem btw_cons (x : Ln) (r : List Ln) (g z : Int) : btw (x :: r) g z = btwT g z x * x.p + btw r g z := by
  unfold btw
  rw [List.map_cons, List.sum_cons]
theorem btwT_eq (g z : Int) (x : Ln) : btwT g z x = max 0 (min x.e z - max x.b g) := by
  unfold btwT
  rw [mxI_eq, mnI_eq, mxI_eq]
theorem btw_same : ∀ {L : List Ln} {c d g g' z : Int}, Cont c L d → g ≤ c → g' ≤ c → btw L g z = btw L g' z
  | [], _, _, _, _, _, _, _, _ => rfl
  | x :: r, c, d, g, g', z, ⟨h1, h2, h3⟩, hg, hg' => by
    rw [btw_cons, btw_cons, btw_same h3 (g := g) (g' := g') (by omega) (by omega)]
    have : btwT g z x = btwT g' z x := by rw [btwT_eq, btwT_eq]; omega
    rw [this]
theorem btw_zero : ∀ {L : List Ln} {c d g z : Int}, Cont c L d → z ≤ c → btw L g z = 0
  | [], _, _, _, _, _, _ => rfl
  | x :: r, c, d, g, z, ⟨h1, h2, h3⟩, hz => by
    have t0 : btwT g z x = 0 := by rw [btwT_eq]; omega
    rw [btw_cons, t0, btw_zero h3 (by omega)]
    omega
theorem cost_btw : ∀ {L : List Ln} {c d g w : Int}, Cont c L d → c ≤ g → 0 ≤ w → costR (dueL L g) w = btw L g (g + w)
  | [], _, _, _, _, _, _, _ => rfl
  | x :: r, c, d, g, w, ⟨h1, h2, h3⟩, hc, hw => by
    rw [dueL_cons, btw_cons]
    by_cases z : x.e > g
    · rw [if_pos z, costR]
      have lf : (dueStep g x).left = x.e - g := by
        show x.e - mxI x.b g = x.e - g
        rw [mxI_eq]
        omega
      have pr : (dueStep g x).price = x.p := rfl
      have mn := mnI_eq (x.e - g) w
      have bt : btwT g (g + w) x = mnI (x.e - g) w := by rw [btwT_eq]; omega
      rw [lf, pr, bt]
      by_cases y : x.e - g ≤ w
      · have e1 : mnI (x.e - g) w = x.e - g := by omega
        rw [e1, if_pos (by omega)]
        rw [due_same h3 (g := g) (g' := x.e) (by omega) (Int.le_refl _), cost_btw h3 (g := x.e) (w := w - (x.e - g)) (Int.le_refl _) (by omega), btw_same h3 (g := g) (g' := x.e) (by omega) (Int.le_refl _)]
        have e2 : x.e + (w - (x.e - g)) = g + w := by omega
        rw [e2]
      · have e1 : mnI (x.e - g) w = w := by omega
        rw [e1, btw_zero h3 (by omega)]
        by_cases w0 : 0 < w
        · rw [if_pos w0, costR_zero _ _ (by omega)]
        · have w0' : w = 0 := by omega
          rw [if_neg w0, w0', costR_zero _ _ (Int.le_refl _)]
          omega
    · rw [if_neg z]
      have t0 : btwT g (g + w) x = 0 := by rw [btwT_eq]; omega
      rw [t0, cost_btw h3 (by omega) hw]
      omega
theorem worth_btw : ∀ {L : List Ln} {c d D g : Int}, Cont c L d → d ≤ D → worthL (dueL L g) = btw L g D
  | [], _, _, _, _, _, _ => rfl
  | x :: r, c, d, D, g, ⟨h1, h2, h3⟩, hD => by
    have le := cont_le h3
    have ih := worth_btw h3 hD (g := g)
    rw [dueL_cons, btw_cons]
    by_cases z : x.e > g
    · rw [if_pos z]
      show worthL (dueStep g x :: dueL r g) = _
      unfold worthL at ih ⊢
      rw [List.map_cons, List.sum_cons, ih]
      have : (dueStep g x).left = btwT g D x := by
        show x.e - mxI x.b g = _
        rw [btwT_eq, mxI_eq]
        omega
      rw [this]
      rfl
    · rw [if_neg z]
      have t0 : btwT g D x = 0 := by rw [btwT_eq]; omega
      rw [t0, ih]
      omega
/-! each lot came so -/
theorem lots_come (g : Str) : ∀ (es : List Ent) (L : List Lot) (A : List Ent), (∀ l ∈ L, ∃ mo pl k, Ent.come l.n mo g pl k l.price ∈ A) → ∀ l ∈ es.foldl (lotG g) L, ∃ mo pl k, Ent.come l.n mo g pl k l.price ∈ A ++ es
  | [], L, A, h => by rw [List.append_nil]; exact h
  | e :: r, L, A, h => by
    rw [List.foldl_cons]
    have h2 := lots_come g r (lotG g L e) (A ++ [e]) ?_
    · rw [List.append_assoc] at h2
      exact h2
    · have keep : ∀ l ∈ L, ∃ mo pl k, Ent.come l.n mo g pl k l.price ∈ A ++ [e] := fun l hl => by
        obtain ⟨mo, pl, k, q⟩ := h l hl
        exact ⟨mo, pl, k, List.mem_append_left _ q⟩
      unfold lotG
      split
      · rename_i zg
        cases e with
        | come n m g' p k r' =>
          obtain rfl : g' = g := V.str.inj zg
          intro l hl
          rcases List.mem_append.mp hl with hl | hl
          · exact keep l hl
          · rw [List.mem_singleton.mp hl]
            exact ⟨m, p, k, List.mem_append_right _ List.mem_cons_self⟩
        | go n m g' p k =>
          intro l hl
          obtain ⟨x, hx, rfl⟩ := List.mem_map.mp (List.mem_filter.mp hl).1
          exact keep x hx
        | move n m g' o t k => exact keep
        | some_ n m g' o t => exact keep
        | swap n m o t => exact keep
        | count n m g' p k hd => exact keep
        | look n m g' p => exact keep
      · exact keep
theorem price_at : ∀ {L : List Lot} {l : Lot}, (L.map Lot.n).Nodup → l ∈ L → priceL L l.n = l.price
  | x :: r, l, nd, h => by
    obtain ⟨n1, n2⟩ := List.nodup_cons.mp nd
    rw [priceL]
    rcases List.mem_cons.mp h with rfl | h
    · exact if_pos rfl
    · rw [if_neg fun z => n1 (by rw [z]; exact List.mem_map_of_mem h)]
      exact price_at n2 h
/-! ### cost_of, worth_behind -/
theorem int_inj : ∀ {xs ys : List Int}, xs.map V.int = ys.map V.int → xs = ys
  | [], [], _ => rfl
  | [], _ :: _, h => nomatch h
  | _ :: _, [], h => nomatch h
  | x :: xs, y :: ys, h => by rw [V.int.inj (List.cons.inj h).1, int_inj (List.cons.inj h).2]
def spWorth (Ts : List Addr) : Sp := fun vs H Q _ => ∃ (h : Addr) (P G : List Str) (es : List Ent) (m k : Nat) (g : Str), vs = [.ref h, .str g, .int k] ∧ HouseF H h P G es ∧ Good P G es m ∧ m ≤ 30 ∧ k ≤ m ∧ TabsG Ts H ∧
  ∀ H', TB1 Ts H H' → Q (.int (worthL (lotsN g (es.take k)))) H'
def CostWays (es : List Ent) (v : V) (Ts : List Addr) (CN CG : Addr) (H : Hp) (Q : VK) (E : XK) : Prop :=
  (∃ (j : Nat) (n : Str) (mo : Int) (g p : Str) (k : Int), es[j]? = some (.go n mo g p k) ∧ v = .str n ∧ ∀ H', TB1 Ts H H' → Q (.int (costL (lotsN g (es.take j)) k)) H') ∨
    (∃ e ∈ es, v = .str e.name ∧ e.word ≠ "go" ∧ E (.ref CG) none H) ∨ ((∀ e ∈ es, v ≠ .str e.name) ∧ E (.ref CN) none H)
def spCost (K : PySem.W.Frag) (CN CG : Addr) (Ts : List Addr) : Sp := fun vs H Q E => ∃ (h : Addr) (P G : List Str) (es : List Ent) (m : Nat) (v : V), vs = [.ref h, v] ∧ HouseF H h P G es ∧ Good P G es m ∧ m ≤ 30 ∧ EqT.Tng K H v ∧ TabsG Ts H ∧ CostWays es v Ts CN CG H Q E
theorem TB1.tf {Ts : List Addr} {H H' : Hp} (t : TB1 Ts H H') : TF H H' := ⟨t.tk, fun a o xs e => t.2 a _ e fun ps z => nomatch z⟩
section
variable {P : Program} {w : World} {K : PySem.W.Frag} {mg : Str → Option Value} {base : Heap}
abbrev sWorthN : List Str := ["house", "good", "at", "name", "left", "price"]
theorem sc_sWorth : FnScope sWorthN ["house", "good", "at"] (defScope sWorth) := ⟨rfl, rfl, rfl, by decide +kernel, rfl, by decide +kernel, by decide +kernel⟩
set_option maxHeartbeats 4000000 in
theorem ok_worth {f cA T fL : Addr} {dL : FuncData} {oc kV doc pm ct : Value} {od an : Option Addr} {osl : Array (Option Value)}
    (lk : K.lookup f = some ⟨oc, od, .func (PySem.W.fnOf "worth_behind" "worth_behind" (defArgs sWorth) (defBody sWorth) (defScope sWorth) .none kV doc pm an (.ref cA) ct), osl⟩) (cd : PySem.W.codeIn K (.ref cA) "worth_behind" = true)
    (TB : GxR.TabB base mg cA T) {Ts : List Addr} (hT : T ∈ Ts) (LB : DefT P w K mg base "lots_behind" 3 fL dL ["house", "good", "at"] spLotsB) (ms : mg "sum" = none) :
    FnOk P w K mg base CX0 4 f (PySem.W.fnOf "worth_behind" "worth_behind" (defArgs sWorth) (defBody sWorth) (defScope sWorth) .none kV doc pm an (.ref cA) ct) ["house", "good", "at"] (spWorth Ts) := by
  refine fn_of lk cd sc_sWorth (fun vs H Q E h => ?_) (fun A outer s H vs Q E hr h => ?_)
  · obtain ⟨h, Ps, G, es, m, k, g, rfl, _⟩ := h
    rfl
  · obtain ⟨h, Ps, G, es, m, k, g, rfl, ho, gd, m30, km, tg, q⟩ := h
    have nd := sc_sWorth.nd
    refine ⟨_, PSs.nox (pss_one (ps_ret (pe_sumG (T := T) (c := cA) (k := 1) (own := [("name", 3), ("left", 4), ("price", 5)]) (g := gTup K 3 (gCons (gName 3) (gCons (gName 4) (gCons (gName 5) gNil)))) (tt := tYes) (te := tOp (rI CMul fun i j => .int (i * j)) (tVar 4) (tVar 5)) (hr.mono (by decide)) (by rfl) ms rfl nd TB rfl ⟨blkOk_by (N := sWorthN) (sc := defScope sWorth) (by decide +kernel), rfl, by decide +kernel, rfl⟩
        (pi_list (pe_call LB.ok hr (by rfl) LB.g LB.kp LB.b .nil pass0 (pa_cons (pv 0) (pa_cons (pv 1) (pa_cons (pv 2) pa_nil))))) (fun _ _ _ _ _ _ => pg_tup (by rfl) (pgs_cons (pg_name (i := 3) nd rfl (Or.inl rfl)) (pgs_cons (pg_name (i := 4) nd rfl (Or.inl rfl)) (pgs_cons (pg_name (i := 5) nd rfl (Or.inl rfl)) pgs_nil)))) (fun _ _ _ _ _ _ _ => pts_nil) (fun _ _ _ _ _ _ _ => pe_op op_mul (pv 4) (pv 5))))), ?_⟩
    refine ⟨_, rfl, _, rfl, _, rfl, h, Ps, G, es, m, k, g, rfl, ho, gd, m30, km, fun l as H1 s1 nl hl la => ?_⟩
    have tg1 := tabs_sm s1 tg
    refine ⟨l, rfl, ⟨_, SqL.of hl⟩, tg1 T hT, fun H2 tb2 => ?_⟩
    have t2 : TB1 Ts H1 H2 := .tab tb2 tg1 hT
    have t02 : TB1 Ts H H2 := (TB1.same tg s1).tr t2
    have hl2 := t2.lst hl
    have la2 := lots_on t2.tk la
    have ln := Paired.length la
    generalize hLL : lotsN g (es.take k) = LL at q la la2 ln
    have bd : ∀ x ∈ LL, x.price < 2 ^ 64 ∧ -(2 ^ 64) < x.price := fun x hx => by
      rw [← hLL] at hx
      obtain ⟨_, _, _, b1, b2⟩ := lots_mem gd hx
      omega
    clear hLL
    refine ⟨fun i n ys H' => n = LL.length - i ∧ i ≤ LL.length ∧ H' = H2 ∧ ys = ((LL.take i).map fun l => l.left * l.price).map V.int, ⟨_, rfl, Nat.zero_le _, rfl, rfl⟩, ?_⟩
    rintro i n ys H3 ⟨rfl, hi, rfl, rfl⟩
    by_cases lt : i < LL.length
    · refine .inr ⟨⟨_, _, SqL.of hl2, List.getElem?_eq_getElem (by rw [List.length_map, ln]; exact lt)⟩, fun v H4 yl => ?_⟩
      obtain ⟨rfl, yl⟩ := yl
      have gy := yl _ (SqL.of hl2)
      rw [List.getElem?_map] at gy
      obtain ⟨a, ha, rfl⟩ := Option.map_eq_some_iff.mp gy
      obtain ⟨x, hx, hax⟩ := paired_get la2 ha
      have xb := bd x (List.mem_of_getElem? hx)
      refine ⟨a, _, rfl, SqT.of hax, rfl, _, _, rfl, _, _, rfl, _, _, rfl, rfl, rfl, yesT ⟨_, rfl, _, rfl, x.left, x.price, rfl, rfl, .inr ⟨xb.2, xb.1⟩, ⟨_, rfl⟩, _, Nat.sub_lt_sub_left lt (Nat.lt_succ_self _), rfl, lt, rfl, ?_⟩⟩
      rw [take_snoc hx, List.map_append, List.map_append]
      rfl
    · have ei : i = LL.length := by omega
      subst ei
      refine .inl ⟨⟨_, SqL.of hl2, by rw [List.length_map, ln]; exact Nat.le_refl _⟩, fun ns hns => ?_⟩
      rw [List.take_length] at hns
      rw [← int_inj hns]
      exact q _ t02
abbrev sCostN : List Str := ["house", "name", "parts", "bare", "lot", "many"]
theorem sc_sCost : FnScope sCostN ["house", "name"] (defScope sCost) := ⟨rfl, rfl, rfl, by decide +kernel, rfl, by decide +kernel, by decide +kernel⟩
set_option maxHeartbeats 4000000 in
theorem ok_cost {f cA T fB fE CN CG : Addr} {dB dE : FuncData} {oc kV doc pm ct : Value} {od an : Option Addr} {osl : Array (Option Value)}
    (lk : K.lookup f = some ⟨oc, od, .func (PySem.W.fnOf "cost_of" "cost_of" (defArgs sCost) (defBody sCost) (defScope sCost) .none kV doc pm an (.ref cA) ct), osl⟩) (cd : PySem.W.codeIn K (.ref cA) "cost_of" = true)
    (TB : GxR.TabB base mg cA T) {Ts : List Addr} (hT : T ∈ Ts) (TK' : DefX P w K mg base "taken_by" 4 fB dB ["house", "name"] (spTakenBy K CN CG)) (EC : DefX P w K mg base "entry_called" 1 fE dE ["house", "name"] (spCalled K CN)) (ms : mg "sum" = none) :
    FnOk P w K mg base (L2.CX P w) 5 f (PySem.W.fnOf "cost_of" "cost_of" (defArgs sCost) (defBody sCost) (defScope sCost) .none kV doc pm an (.ref cA) ct) ["house", "name"] (spCost K CN CG Ts) := by
  refine fn_of lk cd sc_sCost (fun vs H Q E h => ?_) (fun A outer s H vs Q E hr h => ?_)
  · obtain ⟨h, Ps, G, es, m, v, rfl, _⟩ := h
    rfl
  · obtain ⟨h, Ps, G, es, m, v, rfl, ho, gd, m30, th, tg, ways⟩ := h
    have nd := sc_sCost.nd
    refine ⟨_, pss_cons (ps_asg (pe_callS TK'.ok hr (by rfl) TK'.g TK'.kp TK'.b (fun σ => passAt (takes_of rfl rfl rfl rfl) σ) (pa_cons (pv 0) (pa_cons (pv 1) pa_nil))) (pg_tup (by rfl) (pgs_cons (pg_name (i := 2) nd rfl (Or.inl rfl)) (pgs_cons (pg_name (i := 3) nd rfl (Or.inl rfl)) pgs_nil))))
      (PSs.nox (pss_one (ps_ret (pe_sumG (T := T) (c := cA) (k := 1) (own := [("lot", 4), ("many", 5)]) (g := gTup K 2 (gCons (gName 4) (gCons (gName 5) gNil))) (tt := tYes) (te := tOp (rI CMul fun i j => .int (i * j)) (tVar 5) (tOp (rIxT K) (tCall (spCalled K CN) [] E0 (tCons (tVar 0) (tCons (tVar 4) tNil))) (tC (V.int 6)))) (hr.mono (by decide)) (by rfl) ms rfl nd TB rfl ⟨blkOk_by (N := sCostN) (sc := defScope sCost) (by decide +kernel), rfl, by decide +kernel, rfl⟩
        (pi_list (pv 2)) (fun _ _ _ _ _ _ => pg_tup (by rfl) (pgs_cons (pg_name (i := 4) nd rfl (Or.inl rfl)) (pgs_cons (pg_name (i := 5) nd rfl (Or.inl rfl)) pgs_nil))) (fun _ _ _ _ _ _ _ => pts_nil) (fun _ _ _ _ _ _ hr' => pe_op op_mul (pv 5) (pe_ix ix_tup (pe_call EC.ok hr' (by rfl) EC.g EC.kp EC.b .nil passL (pa_cons (pv 0) (pa_cons (pv 4) pa_nil))) pe_int (fun _ _ => rfl))))))), ?_⟩
    refine ⟨_, rfl, _, rfl, h, Ps, G, es, m, v, rfl, ho, gd, m30, th, ?_⟩
    rcases ways with ⟨j, n, mo, g, p, k, hj, rfl, q⟩ | w2 | w3
    · refine Or.inl ⟨j, n, mo, g, p, k, hj, rfl, fun t pl ps H1 s1 npl ht hpl pp => ?_⟩
      have tg1 := tabs_sm s1 tg
      refine ⟨t, _, rfl, SqT.of ht, rfl, _, _, rfl, _, _, rfl, rfl, ?_⟩
      refine ⟨_, rfl, pl, rfl, ⟨_, SqL.of hpl⟩, tg1 T hT, fun H2 tb2 => ?_⟩
      have t2 : TB1 Ts H1 H2 := .tab tb2 tg1 hT
      have t02 : TB1 Ts H H2 := (TB1.same tg s1).tr t2
      have hl2 := t2.lst hpl
      have pp2 := prts_on t2.tk pp
      have ho2 := ho.on t02.tf
      have nn := lots_nd gd g j
      have lc := lots_come g (es.take j) [] [] (fun l hl => nomatch hl)
      have lm : ∀ l ∈ lotsN g (es.take j), 0 ≤ l.price ∧ l.price ≤ 1000000000 := fun l hl => (lots_mem gd hl).2.2.2
      have eS : (tkS (lotsN g (es.take j)) k).1 = tkR (lotsN g (es.take j)) k := by rw [tkS_eq]
      rw [eS] at pp2
      have lc' : ∀ l ∈ lotsN g (es.take j), ∃ mo pl k, Ent.come l.n mo g pl k l.price ∈ es := fun l hl => by
        obtain ⟨mo, pl, k, z⟩ := lc l hl
        exact ⟨mo, pl, k, List.mem_of_mem_take z⟩
      unfold costL at q
      generalize lotsN g (es.take j) = LL at q nn lc' lm pp2
      have mm : ∀ x ∈ tkR LL k, ∃ l ∈ LL, x.n = l.n := fun x hx => tkR_mem hx
      generalize tkR LL k = PS at q pp2 mm
      have ln := Paired.length pp2
      refine ⟨fun i n ys H' => n = PS.length - i ∧ i ≤ PS.length ∧ H' = H2 ∧ ys = ((PS.take i).map fun x => x.k * priceL LL x.n).map V.int, ⟨_, rfl, Nat.zero_le _, rfl, rfl⟩, ?_⟩
      rintro i n ys H3 ⟨rfl, hi, rfl, rfl⟩
      by_cases lt : i < PS.length
      · refine .inr ⟨⟨_, _, SqL.of hl2, List.getElem?_eq_getElem (by rw [List.length_map, ln]; exact lt)⟩, fun v H4 yl => ?_⟩
        obtain ⟨rfl, yl⟩ := yl
        have gy := yl _ (SqL.of hl2)
        rw [List.getElem?_map] at gy
        obtain ⟨a, ha, rfl⟩ := Option.map_eq_some_iff.mp gy
        obtain ⟨x, hx, hax⟩ := paired_get pp2 ha
        obtain ⟨l, hl, el⟩ := mm x (List.mem_of_getElem? hx)
        obtain ⟨mo', pl', k', hce⟩ := lc' l hl
        have pb := lm l hl
        have nb : nameB l.n = true := (gd.ents _ hce).1
        refine ⟨a, _, rfl, SqT.of hax, rfl, _, _, rfl, _, _, rfl, rfl, rfl, yesT ⟨_, rfl, _, rfl, _, rfl, h, Ps, G, es, m, _, rfl, ho2, gd, .inl ⟨.str x.n, .str _, by rw [el]; simp [SeqAt.shaped, PyData.canLay0, PyData.depth, name_ok nb]⟩, .inl ⟨_, hce, by rw [el]; rfl, fun b hb => ?_⟩⟩⟩
        refine ⟨b, _, 6, _, rfl, rfl, SqT.of hb, atI_nat (j := 6) rfl, x.k, l.price, rfl, rfl, .inr ⟨by omega, by omega⟩, ⟨_, rfl⟩, _, Nat.sub_lt_sub_left lt (Nat.lt_succ_self _), rfl, lt, rfl, ?_⟩
        rw [take_snoc hx, List.map_append, List.map_append]
        refine congrArg _ ?_
        show [V.int (x.k * l.price)] = [V.int (x.k * priceL LL x.n)]
        rw [el, price_at nn hl]
      · have ei : i = PS.length := by omega
        subst ei
        refine .inl ⟨⟨_, SqL.of hl2, by rw [List.length_map, ln]; exact Nat.le_refl _⟩, fun ns hns => ?_⟩
        rw [List.take_length] at hns
        rw [← int_inj hns]
        exact q _ t02
    · exact Or.inr (Or.inl w2)
    · exact Or.inr (Or.inr w3)
end
/-! ### all worth is somewhere: the mathematics -/
structure TkF (L : List Lot) (b : Int) : Prop where
  sum : ((tkR L b).map Prt.k).sum + tkB L b = b
  pos : 0 ≤ tkB L b
  bare : 0 < tkB L b → dropF L b = []
  one : ∀ p ∈ tkR L b, 1 ≤ p.k
  pre : (L.map Lot.n).take (tkR L b).length = (tkR L b).map Prt.n
  rest : (dropF L b).map Lot.n = (L.map Lot.n).drop (tkR L b).length ∨ (tkR L b ≠ [] ∧ (dropF L b).map Lot.n = (L.map Lot.n).drop ((tkR L b).length - 1))
theorem tk_facts : ∀ {L : List Lot} {b : Int}, (∀ l ∈ L, 0 < l.left) → 0 ≤ b → TkF L b
  | [], b, _, h => ⟨by simp [tkR, tkB], h, fun _ => rfl, fun p hp => (nomatch hp), rfl, .inl rfl⟩
  | l :: r, b, hp, hb => by
    have pl := hp l List.mem_cons_self
    have pr : ∀ x ∈ r, 0 < x.left := fun x hx => hp x (List.mem_cons_of_mem _ hx)
    by_cases zb : b = 0
    · subst zb
      obtain ⟨e1, e2⟩ := tkR_zero (l :: r) 0 (Int.le_refl _)
      have e3 : (dropF (l :: r) 0).map Lot.n = (l :: r).map Lot.n := by
        rw [dropF, if_neg (by omega)]
        rfl
      refine ⟨by rw [e1, e2]; rfl, by rw [e2]; exact Int.le_refl _, fun z => ?_, fun p hp => ?_, by rw [e1]; rfl, .inl ?_⟩
      · rw [e2] at z
        exact absurd z (by decide)
      · rw [e1] at hp
        cases hp
      · rw [e1, e3]
        rfl
    · have mp : 0 < mnI l.left b := by rw [mnI_eq]; omega
      have e1 : tkR (l :: r) b = ⟨l.n, mnI l.left b⟩ :: tkR r (b - mnI l.left b) := by rw [tkR, if_pos mp]
      have e2 : tkB (l :: r) b = tkB r (b - mnI l.left b) := by rw [tkB, if_pos mp]
      by_cases z : l.left ≤ b
      · have e : mnI l.left b = l.left := by rw [mnI_eq]; omega
        rw [e] at e1 e2
        have e3 : dropF (l :: r) b = dropF r (b - l.left) := by rw [dropF, if_pos z]
        have ih := tk_facts (L := r) (b := b - l.left) pr (by omega)
        refine ⟨?_, by rw [e2]; exact ih.pos, by rw [e2, e3]; exact ih.bare, fun p hp => ?_, ?_, ?_⟩
        · have := ih.sum
          rw [e1, e2, List.map_cons, List.sum_cons]
          show l.left + _ + _ = _
          omega
        · rw [e1] at hp
          rcases List.mem_cons.mp hp with rfl | hp
          · show 1 ≤ l.left
            omega
          · exact ih.one p hp
        · rw [e1, List.map_cons, List.map_cons, List.length_cons, List.take_succ_cons, ih.pre]
        · rw [e1, e3, List.map_cons, List.length_cons]
          rcases ih.rest with w | ⟨w1, w2⟩
          · exact .inl (by rw [w]; rfl)
          · refine .inr ⟨by simp, ?_⟩
            rw [w2, Nat.add_sub_cancel]
            cases hq : tkR r (b - l.left) with
            | nil => exact absurd hq w1
            | cons q qs => rfl
      · have e : mnI l.left b = b := by rw [mnI_eq]; omega
        rw [e, Int.sub_self] at e1 e2
        obtain ⟨q1, q2⟩ := tkR_zero r 0 (Int.le_refl _)
        rw [q1] at e1
        rw [q2] at e2
        have e3 : (dropF (l :: r) b).map Lot.n = (l :: r).map Lot.n := by
          rw [dropF, if_neg z]
          rfl
        refine ⟨by rw [e1, e2]; simp, by rw [e2]; exact Int.le_refl _, fun w => ?_, fun p hp => ?_, by rw [e1]; rfl, .inr ⟨by rw [e1]; simp, by rw [e1, e3]; rfl⟩⟩
        · rw [e2] at w
          exact absurd w (by decide)
        · rw [e1] at hp
          rw [List.mem_singleton.mp hp]
          show 1 ≤ b
          omega
/-! what is left, by names -/
def lotP (l : Lot) : Prt := ⟨l.n, l.left⟩
theorem lotP_n (L : List Lot) : (L.map lotP).map Prt.n = L.map Lot.n := by rw [List.map_map]; rfl
theorem left_drop : ∀ {L : List Lot} {b : Int}, (L.map Lot.n).Nodup → (∀ l ∈ L, 0 < l.left) → 0 ≤ b → ∀ x, pval ((dropF L b).map lotP) x = pval (L.map lotP) x - pval (tkR L b) x
  | [], _, _, _, _, _ => rfl
  | l :: r, b, nd, hp, hb, x => by
    obtain ⟨n1, n2⟩ := List.nodup_cons.mp nd
    have pl := hp l List.mem_cons_self
    have pr : ∀ x ∈ r, 0 < x.left := fun x hx => hp x (List.mem_cons_of_mem _ hx)
    by_cases zb : b = 0
    · subst zb
      rw [(tkR_zero (l :: r) 0 (Int.le_refl _)).1, dropF, if_neg (by omega), Int.sub_zero]
      show _ = _ - (0 : Int)
      rw [Int.sub_zero]
    · have mp : 0 < mnI l.left b := by rw [mnI_eq]; omega
      rw [tkR, if_pos mp, dropF]
      have rno : pval (r.map lotP) l.n = 0 := pval_no (by rw [lotP_n]; exact n1)
      by_cases z : l.left ≤ b
      · have e : mnI l.left b = l.left := by rw [mnI_eq]; omega
        rw [e, if_pos z, left_drop n2 pr (by omega) x, List.map_cons, pval, pval]
        show _ = (if l.n = x then l.left else _) - if l.n = x then l.left else _
        by_cases w : l.n = x
        · rw [if_pos w, if_pos w, ← w, rno, pval_no fun q => n1 ((tkR_sub _ _).subset q)]
          omega
        · rw [if_neg w, if_neg w]
      · have e : mnI l.left b = b := by rw [mnI_eq]; omega
        rw [e, if_neg z, Int.sub_self, (tkR_zero r 0 (Int.le_refl _)).1, List.map_cons, List.map_cons, pval, pval, pval]
        show (if l.n = x then l.left - b else _) = (if l.n = x then l.left else _) - if l.n = x then b else (0 : Int)
        by_cases w : l.n = x
        · rw [if_pos w, if_pos w, if_pos w]
        · rw [if_neg w, if_neg w, if_neg w, Int.sub_zero]
theorem worth_cons (l : Lot) (r : List Lot) : worthL (l :: r) = l.left * l.price + worthL r := by
  unfold worthL
  rw [List.map_cons, List.sum_cons]
theorem worth_drop : ∀ {L : List Lot} {b : Int}, (∀ l ∈ L, 0 < l.left) → 0 ≤ b → worthL (dropF L b) + costR L b = worthL L
  | [], _, _, _ => rfl
  | l :: r, b, hp, hb => by
    have pl := hp l List.mem_cons_self
    have pr : ∀ x ∈ r, 0 < x.left := fun x hx => hp x (List.mem_cons_of_mem _ hx)
    by_cases zb : b = 0
    · subst zb
      rw [costR_zero _ _ (Int.le_refl _), dropF, if_neg (by omega), worth_cons, worth_cons]
      show (l.left - 0) * l.price + _ + _ = _
      rw [Int.sub_zero, Int.add_zero]
    · have mp : 0 < mnI l.left b := by rw [mnI_eq]; omega
      rw [costR, if_pos mp, dropF]
      by_cases z : l.left ≤ b
      · have e : mnI l.left b = l.left := by rw [mnI_eq]; omega
        rw [e, if_pos z, worth_cons]
        have := worth_drop (L := r) (b := b - l.left) pr (by omega)
        omega
      · have e : mnI l.left b = b := by rw [mnI_eq]; omega
        rw [e, if_neg z, Int.sub_self, costR_zero _ _ (Int.le_refl _), worth_cons, worth_cons]
        show (l.left - b) * l.price + _ + _ = _
        rw [Int.sub_mul]
        omega
/-! what came, what was taken -/
def comeP (g : Str) : Ent → List Prt
  | .come n _ g' _ k _ => if g' = g then [⟨n, k⟩] else []
  | _ => []
def comeW (g : Str) : Ent → Int
  | .come _ _ g' _ k r => if g' = g then k * r else 0
  | _ => 0
def cameP (g : Str) (es : List Ent) : List Prt := es.flatMap (comeP g)
def cameW (g : Str) (es : List Ent) : Int := (es.map (comeW g)).sum
def lft (g : Str) (es : List Ent) (x : Str) : Int := pval ((lotsN g es).map lotP) x
def tookP (g : Str) (es : List Ent) : List Prt := (cameP g es).map fun p => ⟨p.n, p.k - lft g es p.n⟩
theorem cameP_snoc (g : Str) (es : List Ent) (e : Ent) : cameP g (es ++ [e]) = cameP g es ++ comeP g e := by
  unfold cameP
  rw [List.flatMap_append]
  simp
theorem cameW_snoc (g : Str) (es : List Ent) (e : Ent) : cameW g (es ++ [e]) = cameW g es + comeW g e := by
  unfold cameW
  rw [List.map_append, List.sum_append]
  simp
theorem came_sub (g : Str) : ∀ es : List Ent, List.Sublist ((cameP g es).map Prt.n) (es.map Ent.name)
  | [] => List.Sublist.slnil
  | e :: r => by
    have ih := came_sub g r
    have h : cameP g (e :: r) = comeP g e ++ cameP g r := rfl
    rw [h, List.map_append, List.map_cons]
    have h2 : (comeP g e).map Prt.n = [] ∨ (comeP g e).map Prt.n = [e.name] := by
      cases e with
      | come n m g' p k r' =>
        show List.map Prt.n (if g' = g then _ else _) = _ ∨ List.map Prt.n (if g' = g then _ else _) = _
        split
        · exact .inr rfl
        · exact .inl rfl
      | _ => exact .inl rfl
    rcases h2 with h2 | h2
    · rw [h2]
      exact ih.cons _
    · rw [h2]
      exact ih.cons₂ _
theorem tookP_n (g : Str) (es : List Ent) : (tookP g es).map Prt.n = (cameP g es).map Prt.n := by
  unfold tookP
  rw [List.map_map]
  rfl
theorem pval_app_no {ps qs : List Prt} {x : Str} (h : x ∉ ps.map Prt.n) : pval (ps ++ qs) x = pval qs x := by
  induction ps with
  | nil => rfl
  | cons p r ih =>
    rw [List.cons_append, pval, if_neg fun z => h (by rw [← z]; exact List.mem_cons_self)]
    exact ih fun z => h (List.mem_cons_of_mem _ z)
theorem pval_app_r {ps qs : List Prt} {x : Str} (h : x ∉ qs.map Prt.n) : pval (ps ++ qs) x = pval ps x := by
  induction ps with
  | nil => exact pval_no h
  | cons p r ih =>
    rw [List.cons_append, pval, pval, ih]
theorem pval_in : ∀ {ps : List Prt}, (ps.map Prt.n).Nodup → ∀ {p : Prt}, p ∈ ps → pval ps p.n = p.k
  | q :: r, nd, p, h => by
    obtain ⟨n1, n2⟩ := List.nodup_cons.mp nd
    rw [pval]
    rcases List.mem_cons.mp h with rfl | h
    · rw [if_pos rfl]
    · rw [if_neg fun z => n1 (by rw [z]; exact List.mem_map_of_mem h)]
      exact pval_in n2 h
/-- a come of the good -/
theorem took_come {g : Str} {es : List Ent} {n p : Str} {m k r : Int} (hn : n ∉ es.map Ent.name) : tookP g (es ++ [.come n m g p k r]) = tookP g es ++ [⟨n, 0⟩] := by
  have hl : lotsN g (es ++ [.come n m g p k r]) = lotsN g es ++ [⟨n, k, r⟩] := by
    rw [lotsN_snoc]
    show (if V.str g = V.str g then _ else _) = _
    rw [if_pos rfl]
    rfl
  have hc : cameP g (es ++ [.come n m g p k r]) = cameP g es ++ [⟨n, k⟩] := by
    rw [cameP_snoc]
    show _ ++ (if g = g then _ else _) = _
    rw [if_pos rfl]
  have ln : n ∉ (lotsN g es).map Lot.n := fun z => hn ((lotsN_sub g es).subset z)
  unfold tookP
  rw [hc, List.map_append]
  refine congr (congrArg _ (List.map_congr_left fun q hq => ?_)) ?_
  · have hq' : q.n ≠ n := fun z => hn (z ▸ (came_sub g es).subset (List.mem_map_of_mem hq))
    unfold lft
    rw [hl, List.map_append, pval_app_r]
    intro z
    rcases List.mem_singleton.mp z with w
    exact hq' w
  · have : lft g (es ++ [.come n m g p k r]) n = k := by
      unfold lft
      rw [hl, List.map_append, pval_app_no (by rw [lotP_n]; exact ln)]
      show pval [⟨n, k⟩] n = k
      rw [pval, if_pos rfl]
    show [(⟨n, k - _⟩ : Prt)] = _
    rw [this, Int.sub_self]
theorem lots_came (g : Str) : ∀ (es : List Ent) (L : List Lot) (C : List Prt), (∀ x ∈ L.map Lot.n, x ∈ C.map Prt.n) → ∀ x ∈ (es.foldl (lotG g) L).map Lot.n, x ∈ (C ++ es.flatMap (comeP g)).map Prt.n
  | [], L, C, h => by
    rw [List.flatMap_nil, List.append_nil]
    exact h
  | e :: r, L, C, h => by
    rw [List.foldl_cons, List.flatMap_cons, ← List.append_assoc]
    refine lots_came g r _ _ fun x hx => ?_
    have keep : ∀ {D : List Prt} {y : Str}, y ∈ L.map Lot.n → y ∈ (C ++ D).map Prt.n := fun {D y} hy => by
      rw [List.map_append]
      exact List.mem_append_left _ (h y hy)
    unfold lotG at hx
    split at hx
    · rename_i zg
      cases e with
      | come n m g' p k r' =>
        obtain rfl : g' = g := V.str.inj zg
        have hx' : x ∈ (L ++ [(⟨n, k, r'⟩ : Lot)]).map Lot.n := hx
        rw [List.map_append] at hx'
        rcases List.mem_append.mp hx' with w | w
        · exact keep w
        · have e : comeP g' (.come n m g' p k r') = [⟨n, k⟩] := if_pos rfl
          rw [List.mem_singleton.mp w, e, List.map_append]
          exact List.mem_append_right _ List.mem_cons_self
      | go n m g' p k => exact keep ((rest_sub L k).subset hx)
      | move n m g' o t k => exact keep hx
      | some_ n m g' o t => exact keep hx
      | swap n m o t => exact keep hx
      | count n m g' p k hd => exact keep hx
      | look n m g' p => exact keep hx
    · exact keep hx
theorem lots_in (g : Str) (es : List Ent) : ∀ x ∈ (lotsN g es).map Lot.n, x ∈ (cameP g es).map Prt.n := fun x hx => lots_came g es [] [] (fun _ h => h) x hx
theorem rest_is {L : List Lot} {b : Int} (nd : (L.map Lot.n).Nodup) (hp : ∀ l ∈ L, 0 < l.left) (hb : 0 ≤ b) : restL L b = dropF L b := by
  unfold restL
  rw [tkS_eq]
  exact rest_drop nd hp hb
/-- while a go is written -/
def tookJ (g : Str) (es : List Ent) (ps : List Prt) : List Prt := (cameP g es).map fun p => ⟨p.n, p.k - lft g es p.n + pval ps p.n⟩
theorem tookJ_n (g : Str) (es : List Ent) (ps : List Prt) : (tookJ g es ps).map Prt.n = (cameP g es).map Prt.n := by
  unfold tookJ
  rw [List.map_map]
  rfl
theorem tookJ_nil (g : Str) (es : List Ent) : tookJ g es [] = tookP g es := by
  unfold tookJ tookP
  refine List.map_congr_left fun p _ => ?_
  show (⟨p.n, _ + (0 : Int)⟩ : Prt) = _
  rw [Int.add_zero]
theorem putP_in : ∀ {ps : List Prt} {n : Str} {v : Int}, (ps.map Prt.n).Nodup → n ∈ ps.map Prt.n → putK (pkv ps) (Sum.inr n) (.int v) = pkv (ps.map fun p => if p.n = n then ⟨p.n, v⟩ else p) := fun {ps n v} nd h => by
  obtain ⟨q, hq, rfl⟩ := List.mem_map.mp h
  have yes : ((pkv ps).any fun kv => decide (kv.1 = Sum.inr q.n)) = true := List.any_eq_true.mpr ⟨_, List.mem_map_of_mem hq, decide_eq_true rfl⟩
  unfold putK
  rw [yes, if_pos rfl, List.map_map]
  show _ = List.map (fun p : Prt => ((Sum.inr p.n, V.int p.k) : Key × V)) _
  rw [List.map_map]
  refine List.map_congr_left fun p _ => ?_
  show (if (Sum.inr p.n : Key) = Sum.inr q.n then _ else _) = _
  by_cases z : p.n = q.n
  · rw [if_pos (congrArg Sum.inr z)]
    show _ = ((Sum.inr (if p.n = q.n then (⟨p.n, v⟩ : Prt) else p).n, V.int (if p.n = q.n then (⟨p.n, v⟩ : Prt) else p).k) : Key × V)
    rw [if_pos z]
  · rw [if_neg fun w => z (Sum.inr.inj w)]
    show _ = ((Sum.inr (if p.n = q.n then (⟨p.n, v⟩ : Prt) else p).n, V.int (if p.n = q.n then (⟨p.n, v⟩ : Prt) else p).k) : Key × V)
    rw [if_neg z]
theorem tookJ_put {g : Str} {es : List Ent} {ps : List Prt} {q : Prt} (nd : ((cameP g es).map Prt.n).Nodup) (hq : q.n ∈ (cameP g es).map Prt.n) (hn : q.n ∉ ps.map Prt.n) :
    putK (pkv (tookJ g es ps)) (Sum.inr q.n) (.int (pval (tookJ g es ps) q.n + q.k)) = pkv (tookJ g es (ps ++ [q])) := by
  have nj : ((tookJ g es ps).map Prt.n).Nodup := by rw [tookJ_n]; exact nd
  rw [putP_in nj (by rw [tookJ_n]; exact hq)]
  refine congrArg pkv ?_
  unfold tookJ
  rw [List.map_map]
  refine List.map_congr_left fun p hp => ?_
  show (if p.n = q.n then (⟨p.n, _⟩ : Prt) else ⟨p.n, _⟩) = _
  by_cases z : p.n = q.n
  · rw [if_pos z]
    have e1 : pval (tookJ g es ps) p.n = p.k - lft g es p.n + pval ps p.n := pval_in nj (p := ⟨p.n, p.k - lft g es p.n + pval ps p.n⟩) (List.mem_map_of_mem (f := fun p : Prt => (⟨p.n, p.k - lft g es p.n + pval ps p.n⟩ : Prt)) hp)
    have e2 : pval (ps ++ [q]) p.n = q.k := by
      rw [z, pval_app_no hn, pval, if_pos rfl]
    have e3 : pval ps p.n = 0 := by rw [z]; exact pval_no hn
    show (⟨p.n, pval (tookJ g es ps) q.n + q.k⟩ : Prt) = _
    rw [← z, e1, e2, e3, Int.add_zero]
  · rw [if_neg z, pval_app_r]
    intro w
    exact z (List.mem_singleton.mp w)
theorem took_go {g : Str} {es : List Ent} {n p : Str} {m k : Int} (nd : ((lotsN g es).map Lot.n).Nodup) (hp : ∀ l ∈ lotsN g es, 0 < l.left) (hk : 0 ≤ k) : tookP g (es ++ [.go n m g p k]) = tookJ g es (tkR (lotsN g es) k) ∧ cameP g (es ++ [.go n m g p k]) = cameP g es ∧ lotsN g (es ++ [.go n m g p k]) = dropF (lotsN g es) k := by
  have hl : lotsN g (es ++ [.go n m g p k]) = dropF (lotsN g es) k := by
    rw [lotsN_snoc]
    show (if V.str g = V.str g then restL _ _ else _) = _
    rw [if_pos rfl, rest_is nd hp hk]
  have hc : cameP g (es ++ [.go n m g p k]) = cameP g es := by
    rw [cameP_snoc]
    exact List.append_nil _
  refine ⟨?_, hc, hl⟩
  unfold tookP tookJ
  rw [hc]
  refine List.map_congr_left fun q _ => ?_
  have : lft g (es ++ [.go n m g p k]) q.n = lft g es q.n - pval (tkR (lotsN g es) k) q.n := by
    unfold lft
    rw [hl]
    exact left_drop nd hp hk q.n
  rw [this]
  exact congrArg (Prt.mk q.n) (by omega)
/-- an entry that neither comes nor goes, or of another good -/
theorem lot_none {g : Str} {es : List Ent} {e : Ent} (h : ¬ ((e.word = "come" ∨ e.word = "go") ∧ e.goodV = .str g)) : lotsN g (es ++ [e]) = lotsN g es ∧ cameP g (es ++ [e]) = cameP g es ∧ cameW g (es ++ [e]) = cameW g es := by
  have h1 : lotG g (lotsN g es) e = lotsN g es := by
    unfold lotG
    split
    · rename_i zg
      cases e with
      | come n m g' p k r => exact absurd ⟨.inl rfl, zg⟩ h
      | go n m g' p k => exact absurd ⟨.inr rfl, zg⟩ h
      | _ => rfl
    · rfl
  have h2 : comeP g e = [] ∧ comeW g e = 0 := by
    cases e with
    | come n m g' p k r =>
      have : ¬ g' = g := fun z => h ⟨.inl rfl, congrArg V.str z⟩
      exact ⟨if_neg this, if_neg this⟩
    | _ => exact ⟨rfl, rfl⟩
  rw [lotsN_snoc, cameP_snoc, cameW_snoc, h1, h2.1, h2.2, List.append_nil, Int.add_zero]
  exact ⟨rfl, rfl, rfl⟩
theorem dp_names {K : PySem.W.Frag} {H : Hp} {a : Addr} {ys : List Str} (h : H a = some (.lst (ys.map V.str))) : Dp K H (.ref a) (.list (ys.map PyData.str)) := .lst (SqL.of h) (dp_strs ys)
theorem shaped_names {ys : List Str} (h : ∀ y ∈ ys, nameB y = true) : SeqAt.shaped (.list (ys.map PyData.str)) = true := by
  simp [SeqAt.shaped, PyData.canLay0, PyData.depth, lay_strs h, deep_strs]
theorem eqv_strs : ∀ ys : List Str, PyData.eqvAll (ys.map PyData.str) (ys.map PyData.str) = true
  | [] => rfl
  | y :: r => by
    rw [List.map_cons, PyData.eqvAll, eqv_strs r, Bool.and_true]
    simp [PyData.eqv]
theorem eqv_names (ys : List Str) : PyData.eqv (.list (ys.map PyData.str)) (.list (ys.map PyData.str)) = true := by
  rw [PyData.eqv]
  exact eqv_strs ys
theorem eqv_nonil {ys : List Str} (h : ys ≠ []) : PyData.eqv (.list (ys.map PyData.str)) (.list []) = false := by
  cases ys with
  | nil => exact absurd rfl h
  | cons y r => rfl
theorem cut_tailV {xs : List V} {k : Nat} : cutV xs (some (k : Int)) none = xs.drop k := cut_tail
theorem pkv_get : ∀ {ps : List Prt}, (ps.map Prt.n).Nodup → ∀ {p : Prt}, p ∈ ps → valV (pkv ps) (Sum.inr p.n) = some (.int p.k)
  | q :: r, nd, p, h => by
    obtain ⟨n1, n2⟩ := List.nodup_cons.mp nd
    show valV ((Sum.inr q.n, V.int q.k) :: pkv r) (Sum.inr p.n) = _
    rcases List.mem_cons.mp h with rfl | h
    · exact valV_pos rfl
    · rw [valV_neg (fun z => n1 (by rw [show q.n = p.n from Sum.inr.inj z]; exact List.mem_map_of_mem h))]
      exact pkv_get n2 h
theorem merge_pkv : ∀ (ps acc : List Prt), ((acc ++ ps).map Prt.n).Nodup → mergeK (pkv acc) (pkv ps) = pkv (acc ++ ps)
  | [], acc, _ => by
    rw [List.append_nil]
    rfl
  | p :: r, acc, nd => by
    have e : acc ++ p :: r = (acc ++ [p]) ++ r := by rw [List.append_assoc]; rfl
    have np : p.n ∉ acc.map Prt.n := fun z => by
      rw [List.map_append, List.nodup_append] at nd
      exact nd.2.2 p.n z p.n List.mem_cons_self rfl
    rw [e] at nd ⊢
    rw [← merge_pkv r (acc ++ [p]) nd, ← pkv_put np]
    rfl
/-! ### enumerate(t), t a tuple -/
namespace EnT
def itO (a : Addr) : Obj := { cls := .type "tuple_iterator", data := .fields #[.ref a, .int 0 0] }
def enO (j : Addr) : Obj := { cls := .type "enumerate", data := .fields #[.none, .bool false, .ref j, rawInt 0, .none, .none] }
set_option maxHeartbeats 1000000 in
theorem new_enumT (a : Addr) (us : Array Value) : Meets (Builtin.«enumerate.__new__» ⟨[.type "enumerate", .ref a], []⟩) (fun _ R z => z.heap.IsTuple a us ∧ R (.ok (.ret (.ref (z.heap.push (itO a)).objs.size))) { z with heap := (z.heap.push (itO a)).push (enO z.heap.objs.size) }) :=
  .of_wp fun prog w A R z hz => by
    obtain ⟨hp, gs, ds, tks, oz⟩ := z
    obtain ⟨ht, kk⟩ := hz
    have sube := sub_enumerate
    have it1 : ∀ {A' : Around} {E' : Value → Shared → Prop} {Q' : Value → Shared → Prop}, Q' (.ref hp.objs.size) ⟨hp.push (itO a), gs, ds, tks, oz⟩ → wpAny (model prog w) A' (pyIter (.ref a)) Q' E' ⟨hp, gs, ds, tks, oz⟩ := fun qq => wpAny_pyIter_tuple (s := ⟨hp, gs, ds, tks, oz⟩) ht qq
    wp_walk using it1
    refine wpAny_stack_any fun stk => wpAny_pure ?_
    split
    · rename_i cc _ _ _ _ _
      cases (cc == Value.type "enumerate") <;> (wp_walk using it1; exact ⟨_, rfl, kk⟩)
    · wp_walk using it1
      exact ⟨_, rfl, kk⟩
theorem call_enumT {prog : Program} {w : World} {A : Around} {E : Value → Shared → Prop} {z : Shared} {a : Addr} {us : Array Value} {Q : Value → Shared → Prop} (ht : z.heap.IsTuple a us)
    (q : ∀ hn, IsEnum hn (z.heap.objs.size + 1) z.heap.objs.size 0 .none → hn.IsTupleIter z.heap.objs.size a 0 → (∀ b ob, z.heap.get? b = some ob → hn.get? b = some ob) → Q (.ref (z.heap.objs.size + 1)) { z with heap := hn }) :
    wpAny (model prog w) A (call (.type "enumerate") [.ref a]) Q E z := by
  refine callType_new F.called_enumerate (by decide) (F.typeCall_enumerate_1 _) (F.newCall_enumerate_1 _) (fun ob => F.args_object_init_2 ob _) F.entry_enumerate_new (new_enumT a us) ⟨ht, ?_⟩
  have z1 : (z.heap.push (itO a)).objs.size = z.heap.objs.size + 1 := Heap.size_push ..
  have en : IsEnum ((z.heap.push (itO a)).push (enO z.heap.objs.size)) (z.heap.objs.size + 1) z.heap.objs.size 0 .none := by
    have g := Heap.get?_push_size (z.heap.push (itO a)) (o := enO z.heap.objs.size) rfl
    rw [z1] at g
    exact g
  show _ ∧ _
  rw [z1]
  exact ⟨⟨_, en, rfl⟩, q _ en ⟨_, Heap.get?_push_of_some _ (Heap.get?_push_size _ rfl), rfl, rfl⟩ fun b ob e => Heap.get?_push_of_some _ (Heap.get?_push_of_some _ e)⟩
/-- the tuple at a, each item in a new pair -/
def ItT (K : PySem.W.Frag) (a : Addr) : It :=
  ⟨fun i H => ∃ (xs : List V) (x : V), SqT K H a xs ∧ xs[i]? = some x, fun i H v H' => ∃ T x, v = .ref T ∧ H T = none ∧ H' = upd H T (.tup [.int (i : Nat), x]) ∧ ∀ xs, SqT K H a xs → xs[i]? = some x, fun i H => ∃ xs : List V, SqT K H a xs ∧ xs.length ≤ i⟩
theorem turnT {P : Program} {w : World} {K : PySem.W.Frag} {tl : List Expr} {kk : Nat} {tp : Pos} (a e j : Addr) (naj : a ≠ j) (nae : a ≠ e) (nej : e ≠ j) :
    Turn P w K (.Tuple tl kk tp) (ItT K a) [e, j] e (fun i hn => (∃ old, IsEnum hn e j ((i : Nat) : Int) old) ∧ hn.IsTupleIter j a i) where
  mem := List.mem_cons_self
  obj := fun i hn st b hb => by
    obtain ⟨⟨old, he⟩, ob, ho, hc, hd⟩ := st
    simp only [List.mem_cons, List.not_mem_nil, or_false] at hb
    rcases hb with rfl | rfl
    · exact ⟨_, he, fun v q => nomatch q⟩
    · exact ⟨ob, ho, fun v q => by rw [hd] at q; cases q⟩
  keep := fun i hn hm st k => by
    obtain ⟨⟨old, he⟩, ht⟩ := st
    exact ⟨⟨old, k e List.mem_cons_self _ he⟩, ht.at fun ob q => k j (by simp) ob q⟩
  item := by
    intro X eP ew eK hc i pins z σ H E I fpo st go
    subst eP ew eK
    obtain ⟨⟨old, he⟩, hit⟩ := st
    obtain ⟨xs, x, hq, hx⟩ := go
    obtain ⟨us, rv, pt, _⟩ := I.tuple hq
    obtain ⟨u, hu, ru⟩ := rv.get hx
    have e_lt : e < z.heap.objs.size := Heap.lt_size he
    have j_lt : j < z.heap.objs.size := by
      obtain ⟨_, ho, _⟩ := hit
      exact Heap.lt_size ho
    have li : i < us.toArray.size := by
      have := (List.getElem?_eq_some_iff.mp hu).1
      simpa using this
    have isT : z.heap.IsTuple a us.toArray := pt
    refine wpAny_pyNext_enum_itemD (n := us.toArray.size) (Draws.tuple (show X.A.in1.handled = none from I.ok.hd hc) j a naj us.toArray) he ⟨hit, isT⟩ li nej (by simp only [List.mem_cons, List.not_mem_nil, or_false]; exact fun q => q.elim nej fun q => nae q.symm) fun x' hn tk px out st' hT _ kp => ?_
    have ex : x' = u := by
      have px' : us[i]? = some x' := by simpa using px
      exact Option.some.inj (px'.symm.trans hu)
    subst ex
    refine ⟨_, rfl, wpAny_letOwnedTupleGo_enum (s := { z with heap := hn, toks := tk + 1 }) out fun hm he' sb => ?_⟩
    have hT2 : hm.get? z.heap.objs.size = some { cls := .type "tuple", data := .seq #[.int i tk, x'] } := (sb.2 _ (Nat.ne_of_gt e_lt)).trans hT
    have nu : ObjOk X.prog X.w (upd H z.heap.objs.size (.tup [.int (i : Nat), x])) hm z.heap.objs.size (.tup [.int (i : Nat), x]) := ⟨(by show 2 ≤ sizeLine; decide), [.int i tk, x'], .cons ⟨_, rfl⟩ (.cons ru .nil), ⟨_, hT2, rfl, _, rfl⟩⟩
    have I1 : Inv X pins σ (upd H z.heap.objs.size (.tup [.int (i : Nat), x])) { z with heap := hm, toks := tk + 1 } :=
      I.turnedNew (ch := [e, j]) (fun b ob hb q => (sb.2 b fun y => hb (by simp [y])).trans (kp b ob (fun y => hb (by simp [y])) (fun y => hb (by simp [y])) q)) fpo (Nat.le_refl _) nu
    have e1 : ((i + 1 : Nat) : Int) = (i : Int) + 1 := Int.natCast_succ i
    refine ⟨.ref z.heap.objs.size, _, I1, rfl, ⟨_, x, rfl, I.hok.fresh (Nat.le_refl _), rfl, fun ys hy => ?_⟩, ⟨⟨x', by rw [e1]; exact he'⟩, st'.1.at fun ob q => (sb.2 j nej.symm).trans q⟩, fun b hb => ?_⟩
    · rw [I.tuple_inj hy hq]
      exact hx
    · have lb : b < z.heap.objs.size := by
        simp only [List.mem_cons, List.not_mem_nil, or_false] at hb
        rcases hb with rfl | rfl
        · exact e_lt
        · exact j_lt
      rw [upd_ne (Nat.ne_of_lt lb)]
      exact (fpo b hb).1
  done := by
    intro X eP ew eK hc i pins z σ H E I fpo st go
    subst eP ew eK
    obtain ⟨⟨old, he⟩, hit⟩ := st
    obtain ⟨xs, hq, hx⟩ := go
    obtain ⟨us, rv, pt, _⟩ := I.tuple hq
    have isT : z.heap.IsTuple a us.toArray := pt
    have ll := rv.length
    obtain ⟨p0, p1, p2, p3, p4, p5⟩ := fpo j (by simp)
    have tyE : z.TypeIs (.ref e) "enumerate" := ⟨_, he, rfl⟩
    unfold pyNext
    refine wpAny_bind (wpAny_attempt (wpAny_callSpecial?_slot (name := Str.ofString "__next__") tyE F.slot_enumerate_next (wpAny_call_entry F.slot_enumerate_next tyE F.entry_enumerate_next ?_ (F.args_enumerate_next_1 _))))
    show wpAny _ _ (field (.ref e) 2 >>= fun _ => _) _ _ _
    refine wpAny_bind (wpAny_field he rfl (x := .ref j) rfl (wpAny_bind (wpAny_nextOf_tuple_end (I.ok.hd hc) hit isT (by simp; omega) fun hn y eb hy => ?_)))
    obtain ⟨ob, ho, hcl⟩ := hy
    exact wpAny_bind (wpAny_isInstance (T := "StopIteration") (b := true) ⟨ob, ho, hcl⟩ isSubtype_stop (wpAny_pure ⟨rfl, I.turned (t' := z.toks) (fun b ob hb q => eb b ob hb q) p0 p1 p3 p4 p5⟩))
  self := fun A i z Q E st q => by
    obtain ⟨⟨_, he⟩, _⟩ := st
    exact wpAny_pyIter_enum he q
def iEnT (K : PySem.W.Frag) (ta : TA) : TI := fun σ H R => ta σ H fun vs H1 => ∃ a xs, vs = [.ref a] ∧ SqT K H1 a xs ∧ R (ItT K a) H1
end EnT
theorem pi_enumT {X : Cx} {e : Expr} {ta : TA} {p pos tpos : Pos} {tl : List Expr} {kk : Nat} (hg : Gl X "enumerate") (hm : X.mg "enumerate" = none) (ha : PA X [e] ta) (hs : starEach [e] X.env = [(false, eval e X.env)] := by rfl) :
    PI X (.Tuple tl kk tpos) (.Call (.Name "enumerate" p) [e] [] pos) (EnT.iEnT X.K ta) := by
  constructor
  intro pins z σ H R I h
  refine Call_ (ld_blt I hg hm boot_enumerate (PyProof.Rows.callWith_type1 (thn (ha.run pos pins z σ H _ I h) ?_) hs rfl))
  rintro us z1 ⟨vs, H1, I1, r1, a, xs, rfl, hq, q⟩
  obtain rfl := Vals.ref1 r1
  obtain ⟨its, rv, pt, _⟩ := I1.tuple hq
  have isT : z1.heap.IsTuple a its.toArray := pt
  have alt : a < z1.heap.objs.size := by
    obtain ⟨_, ho, _⟩ := isT
    exact Heap.lt_size ho
  refine EnT.call_enumT isT fun hn he hit kp => wpAny_pyIter_enum he ?_
  have I2 : Inv X pins σ H1 { z1 with heap := hn } := I1.kept (t' := z1.toks) kp
  refine ⟨z1.heap.objs.size + 1, [z1.heap.objs.size + 1, z1.heap.objs.size], _, _, H1, rfl, I2, EnT.turnT a (z1.heap.objs.size + 1) z1.heap.objs.size (Nat.ne_of_lt alt) (Nat.ne_of_lt (Nat.lt_succ_of_lt alt)) (Nat.succ_ne_self _), ⟨⟨.none, he⟩, hit⟩, fun b hb => ?_, q⟩
  have le : z1.heap.objs.size ≤ b := by
    simp only [List.mem_cons, List.not_mem_nil, or_false] at hb
    rcases hb with rfl | rfl
    · exact Nat.le_succ _
    · exact Nat.le_refl _
  exact I1.fpOk le (I1.hok.fresh le)
theorem walk_enumT {K : PySem.W.Frag} {a : Addr} {xs : List V} : Walk (EnT.ItT K a) xs.length (fun H => SqT K H a xs) (YPair (fun i => some (.int (i : Nat))) (fun i => xs[i]?)) := by
  refine ⟨fun i _ hi q => ⟨xs, xs[i], q, List.getElem?_eq_getElem hi⟩, fun _ q => ⟨xs, q, Nat.le_refl _⟩, fun i H v H' _ q y => ?_⟩
  obtain ⟨T, x, y1, y2, y3, y4⟩ := y
  exact ⟨T, _, x, y1, y2, y3, rfl, y4 xs q⟩
/-! ### what is told of a go -/
def spGoR : Sp := fun vs H Q _ => ∃ (h a : Addr) (P G : List Str) (es : List Ent) (m i : Nat) (n : Str) (mo : Int) (g p : Str) (k : Int), vs = [.ref h, .ref a, .int i] ∧ HouseF H h P G es ∧ Good P G es m ∧ m ≤ 30 ∧ es[i]? = some (.go n mo g p k) ∧ H a = some (.tup (Ent.go n mo g p k).vals) ∧ ∀ H', Same H H' → Q (.bl true) H'
section
variable {P : Program} {w : World} {K : PySem.W.Frag} {mg : Str → Option Value} {base : Heap}
abbrev sGoRN : List Str := ["_law_house_here", "_law_entry_here", "_law_at", "_law_ahead", "_law_name_here", "_law_left", "_law_price", "_law_behind", "_law_parts", "_law_bare", "_law_took", "_law_many_here"]
theorem sc_sGoR : FnScope sGoRN ["_law_house_here", "_law_entry_here", "_law_at"] (defScope sGoR) := ⟨rfl, rfl, rfl, by decide +kernel, rfl, by decide +kernel, by decide +kernel⟩
set_option maxHeartbeats 4000000 in
theorem ok_goR {f fL fT CN CG : Addr} {fd dL dT : FuncData} (F : Fun K "_law_go_right" "_law_go_right" sGoR f fd) (LB : DefT P w K mg base "lots_behind" 3 fL dL ["house", "good", "at"] spLotsB) (TY : DefX P w K mg base "taken_by" 4 fT dT ["house", "name"] (spTakenBy K CN CG)) (msu : mg "sum" = none) (ml : mg "len" = none) :
    FnOk P w K mg base CX0 5 f fd ["_law_house_here", "_law_entry_here", "_law_at"] spGoR := by
  refine F.ok sc_sGoR (fun vs H Q E h => ?_) (fun cdv A outer s H vs Q E hr h => ?_)
  · obtain ⟨h, a, Ps, G, es, m, i, n, mo, g, p, k, rfl, _⟩ := h
    rfl
  · obtain ⟨h, a, Ps, G, es, m, i, n, mo, g, p, k, rfl, ho, gd, m30, hes, ha, q⟩ := h
    have nd := sc_sGoR.nd
    have hr3 : Room 3 _ := hr.mono (by decide)
    refine ⟨_, pss_cons (ps_setLc (i := 3) (own := [("_law_name_here", 4), ("_law_left", 5), ("_law_price", 6)]) (g := gTup K 3 (gCons (gName 4) (gCons (gName 5) (gCons (gName 6) gNil)))) (tt := tYes) (te := tVar 4) rfl nd rfl rfl (sw_true rfl rfl rfl (by decide +kernel)) (pi_list (pe_call LB.ok hr3 (by rfl) LB.g LB.kp LB.b .nil pass0 (pa_cons (pv 0) (pa_cons (pe_ix ix_tup (pv 1) pe_int (fun _ _ => rfl)) (pa_cons (pv 2) pa_nil))))) (blkOk_by (N := sGoRN) (sc := defScope sGoR) (by decide +kernel)) (fun _ _ _ _ _ => (pg_tup (by rfl) (pgs_cons (pg_name (i := 4) nd rfl (Or.inl rfl)) (pgs_cons (pg_name (i := 5) nd rfl (Or.inl rfl)) (pgs_cons (pg_name (i := 6) nd rfl (Or.inl rfl)) pgs_nil))))) (fun _ _ _ _ _ => pts_nil) (fun _ _ _ _ _ => (pv 4)))
      (pss_cons (ps_setLc (i := 7) (own := [("_law_name_here", 4), ("_law_left", 5), ("_law_price", 6)]) (g := gTup K 3 (gCons (gName 4) (gCons (gName 5) (gCons (gName 6) gNil)))) (tt := tYes) (te := tVar 4) rfl nd rfl rfl (sw_true rfl rfl rfl (by decide +kernel)) (pi_list (pe_call LB.ok hr3 (by rfl) LB.g LB.kp LB.b .nil pass0 (pa_cons (pv 0) (pa_cons (pe_ix ix_tup (pv 1) pe_int (fun _ _ => rfl)) (pa_cons (pe_op op_add (pv 2) pe_int) pa_nil))))) (blkOk_by (N := sGoRN) (sc := defScope sGoR) (by decide +kernel)) (fun _ _ _ _ _ => (pg_tup (by rfl) (pgs_cons (pg_name (i := 4) nd rfl (Or.inl rfl)) (pgs_cons (pg_name (i := 5) nd rfl (Or.inl rfl)) (pgs_cons (pg_name (i := 6) nd rfl (Or.inl rfl)) pgs_nil))))) (fun _ _ _ _ _ => pts_nil) (fun _ _ _ _ _ => (pv 4)))
      (pss_cons (ps_asg (pe_call TY.ok hr (by rfl) TY.g TY.kp TY.b .nil passL (pa_cons (pv 0) (pa_cons (pe_ix ix_tup (pv 1) pe_int (fun _ _ => rfl)) pa_nil))) (pg_tup (by rfl) (pgs_cons (pg_name (i := 8) nd rfl (Or.inl rfl)) (pgs_cons (pg_name (i := 9) nd rfl (Or.inl rfl)) pgs_nil))))
      (pss_cons (ps_setLc (i := 10) (own := [("_law_name_here", 4), ("_law_many_here", 11)]) (g := gTup K 2 (gCons (gName 4) (gCons (gName 11) gNil))) (tt := tYes) (te := tVar 4) rfl nd rfl rfl (sw_true rfl rfl rfl (by decide +kernel)) (pi_list (pv 8)) (blkOk_by (N := sGoRN) (sc := defScope sGoR) (by decide +kernel)) (fun _ _ _ _ _ => (pg_tup (by rfl) (pgs_cons (pg_name (i := 4) nd rfl (Or.inl rfl)) (pgs_cons (pg_name (i := 11) nd rfl (Or.inl rfl)) pgs_nil)))) (fun _ _ _ _ _ => pts_nil) (fun _ _ _ _ _ => (pv 4)))
      (C8.pss_cut (ps_if (PW.pt (pw_or (pt_cmpR op_ne (pe_op op_add (pe_callB (cr_sum rfl) (by rfl) msu (by decide +kernel) (pa_cons (pe_lc (own := [("_law_name_here", 4), ("_law_many_here", 11)]) (g := gTup K 2 (gCons (gName 4) (gCons (gName 11) gNil))) (tt := tYes) (te := tVar 11) rfl nd (pi_list (pv 8)) (blkOk_by (N := sGoRN) (sc := defScope sGoR) (by decide +kernel)) (fun _ _ _ _ _ => (pg_tup (by rfl) (pgs_cons (pg_name (i := 4) nd rfl (Or.inl rfl)) (pgs_cons (pg_name (i := 11) nd rfl (Or.inl rfl)) pgs_nil)))) (fun _ _ _ _ _ => pts_nil) (fun _ _ _ _ _ => (pv 11))) pa_nil)) (pv 9)) (pe_ix ix_tup (pv 1) pe_int (fun _ _ => rfl)) (nomark _)) (pw_or (pt_cmpR op_lt (pv 9) pe_int (nomark _)) (pw_or1 (PW.pt (pw_and (pt_cmpR op_gt (pv 9) pe_int (nomark _)) (pw_and1 (pt_cmpR (op_neD hr.units) (pv 7) (pe_lst pa_nil) (nomark _))))))))) (pss_one (ps_ret pe_bl)) pss_nil)
      (pss_cons (ps_if (PW.pt (pw_or (pt_cmpR (op_neD hr.units) (pe_slice sl_list (pv 3) po_none (po_some (pe_callB call_len_seq (by rfl) ml PySem.boot_len (pa_cons (pv 10) pa_nil)))) (pv 10) (nomark _)) (pw_or1 (pt_cmpR (op_neD hr.units) (pe_lc (own := [("_law_name_here", 4), ("_law_many_here", 11)]) (g := gTup K 2 (gCons (gName 4) (gCons (gName 11) gNil))) (tt := tTest (tOp (rI0 fun i j => .bl (decide (i < j))) (tVar 11) (tC (V.int 1)))) (te := tVar 11) rfl nd (pi_list (pv 8)) (blkOk_by (N := sGoRN) (sc := defScope sGoR) (by decide +kernel)) (fun _ _ _ _ _ => (pg_tup (by rfl) (pgs_cons (pg_name (i := 4) nd rfl (Or.inl rfl)) (pgs_cons (pg_name (i := 11) nd rfl (Or.inl rfl)) pgs_nil)))) (fun _ _ _ _ _ => (pts_one (pt_cmpR op_lt (pv 11) pe_int (nomark _)))) (fun _ _ _ _ _ => (pv 11))) (pe_lst pa_nil) (nomark _))))) (pss_one (ps_ret pe_bl)) pss_nil)
      (pss_one (ps_ret (pe_or (pe_cmpR (op_eqD hr.units) (pv 7) (pe_slice sl_list (pv 3) (po_some (pe_callB call_len_seq (by rfl) ml PySem.boot_len (pa_cons (pv 10) pa_nil))) po_none) (nomark _)) (pe_one (pe_and (pe_cmpR (op_eqD hr.units) (pv 7) (pe_slice sl_list (pv 3) (po_some (pe_op op_sub (pe_callB call_len_seq (by rfl) ml PySem.boot_len (pa_cons (pv 10) pa_nil)) pe_int)) po_none) (nomark _)) (pe_one (pe_cmpR (op_neD hr.units) (pv 10) (pe_lst pa_nil) (nomark _))))))))))))), ?_⟩
    have lm := gd.many
    have li : i < m := by have := (List.getElem?_eq_some_iff.mp hes).1; omega
    obtain ⟨n1, _, _, HL, _, fr⟩ := gd.ents _ (List.mem_of_getElem? hes)
    have hk : 0 ≤ k := by have := fr.2.2.1; omega
    have th : ∀ {H' : Hp}, EqT.Tng K H' (.str n) := .inl ⟨_, .str _, by simp [SeqAt.shaped, PyData.canLay0, PyData.depth, name_ok (show nameB n = true from n1)]⟩
    have ndL := lots_nd gd g i
    have lm1 : ∀ l ∈ lotsN g (es.take i), nameB l.n = true ∧ 0 < l.left := fun l hl => ⟨(lots_mem gd hl).1, (lots_mem gd hl).2.1⟩
    have l30 : (lotsN g (es.take i)).length ≤ 30 := by
      have := lotsN_len g (es.take i)
      rw [List.length_take] at this
      omega
    have ls : lotsN g (es.take (i + 1)) = dropF (lotsN g (es.take i)) k := by
      rw [take_snoc hes]
      exact (took_go ndL (fun l hl => (lm1 l hl).2) hk).2.2
    have tf := tk_facts (L := lotsN g (es.take i)) (b := k) (fun l hl => (lm1 l hl).2) hk
    have nmL : ∀ y ∈ (lotsN g (es.take i)).map Lot.n, nameB y = true := fun y hy => by
      obtain ⟨l, hl, rfl⟩ := List.mem_map.mp hy
      exact (lm1 l hl).1
    obtain ⟨L, eL⟩ : ∃ L, lotsN g (es.take i) = L := ⟨_, rfl⟩
    rw [eL] at ndL lm1 l30 ls tf nmL
    refine ⟨_, rfl, _, rfl, a, _, 3, _, rfl, rfl, SqT.of ha, atI_nat (j := 3) rfl, _, rfl, h, Ps, G, es, m, i, g, rfl, ho, gd, m30, Nat.le_of_lt li, fun l0 as0 H1 s1 nl0 hl0 la0 => ?_⟩
    rw [eL] at la0
    have lla0 : as0.length = L.length := Paired.length la0
    refine ⟨l0, rfl, ⟨_, SqL.of hl0⟩, fun D nD => ?_⟩
    refine lc_list (K := K) (a := l0) (xs := as0.map V.ref) (fun j H' => Same H1 H' ∧ H' D = some (.lst (((L.take j).map Lot.n).map V.str))) ⟨same_new nD, upd_same⟩ (fun j H' _ z => SqL.of (z.1 _ _ hl0)) ?_ ?_
    · rintro j x H' hx ⟨sm, hD⟩
      rw [List.getElem?_map] at hx
      obtain ⟨c, hc, rfl⟩ := Option.map_eq_some_iff.mp hx
      obtain ⟨y, hy, hcy⟩ := paired_get la0 hc
      refine ⟨c, _, rfl, SqT.of (sm _ _ hcy), rfl, _, _, rfl, _, _, rfl, _, _, rfl, rfl, rfl, yesT ⟨_, rfl, _, hD, ?_, fun b o e => (upd_ne (ne_of_none e nD)).trans (sm b o e), ?_⟩⟩
      · rw [List.length_map, List.length_map, List.length_take]
        exact small1000 (by omega)
      · rw [upd_same, take_snoc hy, List.map_append, List.map_append]
        rfl
    rintro H2 ⟨s2, hD2⟩
    rw [List.length_map, lla0, List.take_length] at hD2
    have s12 := s1.trans s2
    have ho2 := ho.on (TF.of s12)
    have ha2 := s12 _ _ ha
    refine ⟨_, rfl, _, rfl, a, _, 3, _, rfl, rfl, SqT.of ha2, atI_nat (j := 3) rfl, _, rfl, _, 1, rfl, rfl, h, Ps, G, es, m, i + 1, g, rfl, ho2, gd, m30, li, fun l3 as3 H3 s3 nl3 hl3 la3 => ?_⟩
    rw [ls] at la3
    have lla3 : as3.length = (dropF L k).length := Paired.length la3
    have ld30 : (dropF L k).length ≤ 30 := by
      rw [← ls]
      have := lotsN_len g (es.take (i + 1))
      rw [List.length_take] at this
      omega
    refine ⟨l3, rfl, ⟨_, SqL.of hl3⟩, fun B nB => ?_⟩
    refine lc_list (K := K) (a := l3) (xs := as3.map V.ref) (fun j H' => Same H3 H' ∧ H' B = some (.lst ((((dropF L k).take j).map Lot.n).map V.str))) ⟨same_new nB, upd_same⟩ (fun j H' _ z => SqL.of (z.1 _ _ hl3)) ?_ ?_
    · rintro j x H' hx ⟨sm, hD⟩
      rw [List.getElem?_map] at hx
      obtain ⟨c, hc, rfl⟩ := Option.map_eq_some_iff.mp hx
      obtain ⟨y, hy, hcy⟩ := paired_get la3 hc
      refine ⟨c, _, rfl, SqT.of (sm _ _ hcy), rfl, _, _, rfl, _, _, rfl, _, _, rfl, rfl, rfl, yesT ⟨_, rfl, _, hD, ?_, fun b o e => (upd_ne (ne_of_none e nB)).trans (sm b o e), ?_⟩⟩
      · rw [List.length_map, List.length_map, List.length_take]
        exact small1000 (by omega)
      · rw [upd_same, take_snoc hy, List.map_append, List.map_append]
        rfl
    rintro H4 ⟨s4, hB4⟩
    rw [List.length_map, lla3, List.take_length] at hB4
    have s14 := s12.trans (s3.trans s4)
    have hD4 := s4 _ _ (s3 _ _ hD2)
    refine ⟨_, rfl, _, rfl, a, _, 1, _, rfl, rfl, SqT.of (s14 _ _ ha), atI_nat (j := 1) rfl, h, Ps, G, es, m, _, rfl, ho.on (TF.of s14), gd, m30, th, .inl ⟨i, n, mo, g, p, k, hes, rfl, fun t pl ps H5 s5 npl ht hpl pp => ?_⟩⟩
    rw [eL, tkS_eq] at ht pp
    have llp : ps.length = (tkR L k).length := Paired.length pp
    have lp30 : (tkR L k).length ≤ 30 := Nat.le_trans (tkR_len L k) l30
    refine ⟨t, _, rfl, SqT.of ht, rfl, _, _, rfl, _, _, rfl, rfl, ?_⟩
    refine ⟨_, rfl, pl, rfl, ⟨_, SqL.of hpl⟩, fun T nT => ?_⟩
    refine lc_list (K := K) (a := pl) (xs := ps.map V.ref) (fun j H' => Same H5 H' ∧ H' T = some (.lst ((((tkR L k).take j).map Prt.n).map V.str))) ⟨same_new nT, upd_same⟩ (fun j H' _ z => SqL.of (z.1 _ _ hpl)) ?_ ?_
    · rintro j x H' hx ⟨sm, hD⟩
      rw [List.getElem?_map] at hx
      obtain ⟨c, hc, rfl⟩ := Option.map_eq_some_iff.mp hx
      obtain ⟨y, hy, hcy⟩ := paired_get pp hc
      refine ⟨c, _, rfl, SqT.of (sm _ _ hcy), rfl, _, _, rfl, _, _, rfl, rfl, rfl, yesT ⟨_, rfl, _, hD, ?_, fun b o e => (upd_ne (ne_of_none e nT)).trans (sm b o e), ?_⟩⟩
      · rw [List.length_map, List.length_map, List.length_take]
        exact small1000 (by omega)
      · rw [upd_same, take_snoc hy, List.map_append, List.map_append]
        rfl
    rintro H6 ⟨s6, hT6⟩
    rw [List.length_map, llp, List.take_length] at hT6
    have s46 := s5.trans s6
    have hD6 := s46 _ _ hD4
    have hB6 := s46 _ _ hB4
    have nmD : ∀ y ∈ (dropF L k).map Lot.n, nameB y = true := fun y hy => by
      rcases tf.rest with w | ⟨_, w⟩
      · rw [w] at hy
        exact nmL y (List.mem_of_mem_drop hy)
      · rw [w] at hy
        exact nmL y (List.mem_of_mem_drop hy)
    have nmT : ∀ y ∈ (tkR L k).map Prt.n, nameB y = true := fun y hy => by
      rw [← tf.pre] at hy
      exact nmL y (List.mem_of_mem_take hy)
    refine ⟨fun σ' H' => σ' = [some (.ref h), some (.ref a), some (.int i), some (.ref D), none, none, none, some (.ref B), some (.ref pl), some (.int (tkB L k)), some (.ref T), none] ∧ Same H6 H', ?_, ?_⟩
    · skip
      refine ⟨_, rfl, pl, rfl, ⟨_, SqL.of (s6 _ _ hpl)⟩, fun S nS => ?_⟩
      refine lc_list (K := K) (a := pl) (xs := ps.map V.ref) (fun j H' => Same H6 H' ∧ H' S = some (.lst ((((tkR L k).take j).map Prt.k).map V.int))) ⟨same_new nS, upd_same⟩ (fun j H' _ z => SqL.of (z.1 _ _ (s6 _ _ hpl))) ?_ ?_
      · rintro j x H' hx ⟨sm, hD⟩
        rw [List.getElem?_map] at hx
        obtain ⟨c, hc, rfl⟩ := Option.map_eq_some_iff.mp hx
        obtain ⟨y, hy, hcy⟩ := paired_get pp hc
        refine ⟨c, _, rfl, SqT.of (sm _ _ (s6 _ _ hcy)), rfl, _, _, rfl, _, _, rfl, rfl, rfl, yesT ⟨_, rfl, _, hD, ?_, fun b o e => (upd_ne (ne_of_none e nS)).trans (sm b o e), ?_⟩⟩
        · rw [List.length_map, List.length_map, List.length_take]
          exact small1000 (by omega)
        · rw [upd_same, take_snoc hy, List.map_append, List.map_append]
          rfl
      rintro H7 ⟨s7, hS7⟩
      rw [List.length_map, llp, List.take_length] at hS7
      have s17 := (s14.trans s46).trans s7
      refine ⟨S, _, rfl, SqL.of hS7, _, rfl, _, _, rfl, rfl, _, rfl, a, _, 5, _, rfl, rfl, SqT.of (s17 _ _ ha), atI_nat (j := 5) rfl, rfl, false, ?_, ?_⟩
      · have e : V.int (((tkR L k).map Prt.k).sum + tkB L k) = V.int k := congrArg V.int tf.sum
        show V.bl (!decide (V.int (((tkR L k).map Prt.k).sum + tkB L k) = V.int k)) = _
        rw [decide_eq_true e]
        rfl
      refine iteF ⟨_, rfl, _, 0, rfl, rfl, false, ?_, ?_⟩
      · exact congrArg V.bl (decide_eq_false (by have := tf.pos; show ¬ tkB L k < 0; omega))
      refine iteF ⟨_, rfl, _, 0, rfl, rfl, _, rfl, ite2 (fun zb => ?_) (fun zb => ?_)⟩
      · refine ⟨_, rfl, Nat.zero_le _, fun E1 nE1 => ?_⟩
        have s8 := @same_new _ _ (.lst []) nE1
        have d0 : dropF L k = [] := tf.bare (of_decide_eq_true zb)
        have hB8 := s8 _ _ (s7 _ _ hB6)
        rw [d0] at hB8
        refine ⟨.list [], .list [], dp_names (ys := []) hB8, dp_names (ys := []) upd_same, rfl, rfl, false, rfl, iteF ⟨rfl, s7.trans s8⟩⟩
      · exact iteF ⟨rfl, s7⟩
    · rintro σ' H7 ⟨rfl, s7⟩
      have hD7 := s7 _ _ hD6
      have hB7 := s7 _ _ hB6
      have hT7 := s7 _ _ hT6
      have lT : ((((tkR L k).map Prt.n).map V.str).length : Int) = ((tkR L k).length : Nat) := by rw [List.length_map, List.length_map]
      refine ⟨_, rfl, _, rfl, T, _, rfl, .inl (SqL.of hT7), ?_⟩
      refine ⟨_, rfl, D, _, rfl, SqL.of hD7, fun C1 nC1 => ?_⟩
      have e1 : cutV ((L.map Lot.n).map V.str) none (some ((((tkR L k).map Prt.n).map V.str).length : Int)) = ((tkR L k).map Prt.n).map V.str := by
        rw [List.length_map, List.length_map, cut_take, ← List.map_take, tf.pre]
      rw [e1]
      have s8 := @same_new _ _ (.lst (((tkR L k).map Prt.n).map V.str)) nC1
      have hC1 : (upd H7 C1 (.lst (((tkR L k).map Prt.n).map V.str))) C1 = some (.lst (((tkR L k).map Prt.n).map V.str)) := upd_same
      generalize upd H7 C1 (.lst (((tkR L k).map Prt.n).map V.str)) = H8 at s8 hC1
      refine ⟨_, rfl, _, _, dp_names hC1, dp_names (s8 _ _ hT7), shaped_names nmT, shaped_names nmT, false, ?_, ?_⟩
      · rw [eqv_names]
        rfl
      have s68 := s7.trans s8
      refine iteF ⟨_, rfl, pl, rfl, ⟨_, SqL.of (s68 _ _ (s6 _ _ hpl))⟩, fun S nS => ?_⟩
      refine lc_list (K := K) (a := pl) (xs := ps.map V.ref) (fun j H' => Same H8 H' ∧ H' S = some (.lst [])) ⟨same_new nS, upd_same⟩ (fun j H' _ z => SqL.of (z.1 _ _ (s68 _ _ (s6 _ _ hpl)))) ?_ ?_
      · rintro j x H' hx ⟨sm, hD⟩
        rw [List.getElem?_map] at hx
        obtain ⟨c, hc, rfl⟩ := Option.map_eq_some_iff.mp hx
        obtain ⟨y, hy, hcy⟩ := paired_get pp hc
        have one := tf.one y (List.mem_of_getElem? hy)
        refine ⟨c, _, rfl, SqT.of (sm _ _ (s68 _ _ (s6 _ _ hcy))), rfl, _, _, rfl, _, _, rfl, rfl, rfl, _, rfl, _, 1, rfl, rfl, false, ?_, iteF ⟨sm, hD⟩⟩
        exact congrArg V.bl (decide_eq_false (by omega))
      rintro H9 ⟨s9, hS9⟩
      refine ⟨Nat.zero_le _, fun E1 nE1 => ?_⟩
      have s10 := @same_new _ _ (.lst []) nE1
      have hE1 : (upd H9 E1 (.lst [])) E1 = some (.lst []) := upd_same
      generalize upd H9 E1 (.lst []) = H10 at s10 hE1
      have s610 := s68.trans (s9.trans s10)
      refine ⟨.list [], .list [], dp_names (ys := []) (s10 _ _ hS9), dp_names (ys := []) hE1, rfl, rfl, false, rfl, iteF ?_⟩
      have hD10 := s610 _ _ hD6
      have hB10 := s610 _ _ hB6
      have hT10 := s610 _ _ hT6
      have sq : ∀ {H' : Hp}, Same H10 H' → Q (.bl true) H' := fun z => q _ ((s14.trans s46).trans (s610.trans z))
      refine ⟨_, rfl, _, rfl, _, rfl, T, _, rfl, .inl (SqL.of hT10), _, rfl, D, _, rfl, SqL.of hD10, fun C2 nC2 => ?_⟩
      have e2 : cutV ((L.map Lot.n).map V.str) (some ((((tkR L k).map Prt.n).map V.str).length : Int)) none = ((L.map Lot.n).drop (tkR L k).length).map V.str := by
        rw [List.length_map, List.length_map, cut_tail, ← List.map_drop]
      rw [e2]
      have s11 := @same_new _ _ (.lst (((L.map Lot.n).drop (tkR L k).length).map V.str)) nC2
      have hC2 : (upd H10 C2 (.lst (((L.map Lot.n).drop (tkR L k).length).map V.str))) C2 = some (.lst (((L.map Lot.n).drop (tkR L k).length).map V.str)) := upd_same
      generalize upd H10 C2 (.lst (((L.map Lot.n).drop (tkR L k).length).map V.str)) = H11 at s11 hC2
      refine ⟨_, _, dp_names (s11 _ _ hB10), dp_names hC2, shaped_names nmD, shaped_names fun y hy => nmL y (List.mem_of_mem_drop hy), ?_⟩
      refine ⟨_, rfl, ?_⟩
      rcases tf.rest with w | ⟨w1, w2⟩
      · rw [w, eqv_names]
        exact iteT (sq s11)
      · cases hq : PyData.eqv (.list (((dropF L k).map Lot.n).map PyData.str)) (.list (((L.map Lot.n).drop (tkR L k).length).map PyData.str)) with
        | true => exact iteT (sq s11)
        | false =>
          refine iteF ⟨_, rfl, _, rfl, _, rfl, T, _, rfl, .inl (SqL.of (s11 _ _ hT10)), _, 1, rfl, rfl, _, rfl, D, _, rfl, SqL.of (s11 _ _ hD10), fun C3 nC3 => ?_⟩
          have p1 : 1 ≤ (tkR L k).length := by
            cases hz : tkR L k with
            | nil => exact absurd hz w1
            | cons x r => exact Nat.succ_le_succ (Nat.zero_le _)
          have e3 : cutV ((L.map Lot.n).map V.str) (some (((((tkR L k).map Prt.n).map V.str).length : Int) - 1)) none = ((L.map Lot.n).drop ((tkR L k).length - 1)).map V.str := by
            have e : ((((tkR L k).map Prt.n).map V.str).length : Int) - 1 = (((tkR L k).length - 1 : Nat) : Int) := by
              rw [List.length_map, List.length_map]
              omega
            rw [e, cut_tail, ← List.map_drop]
          rw [e3]
          have s12' := @same_new _ _ (.lst (((L.map Lot.n).drop ((tkR L k).length - 1)).map V.str)) nC3
          have hC3 : (upd H11 C3 (.lst (((L.map Lot.n).drop ((tkR L k).length - 1)).map V.str))) C3 = some (.lst (((L.map Lot.n).drop ((tkR L k).length - 1)).map V.str)) := upd_same
          generalize upd H11 C3 (.lst (((L.map Lot.n).drop ((tkR L k).length - 1)).map V.str)) = H12 at s12' hC3
          have s1012 := s11.trans s12'
          refine ⟨_, _, dp_names (s1012 _ _ hB10), dp_names hC3, shaped_names nmD, shaped_names fun y hy => nmL y (List.mem_of_mem_drop hy), ?_⟩
          rw [w2, eqv_names]
          refine ⟨_, rfl, iteT ⟨_, rfl, Nat.zero_le _, fun E2 nE2 => ?_⟩⟩
          have s13 := @same_new _ _ (.lst []) nE2
          refine ⟨_, .list [], dp_names (s13 _ _ (s1012 _ _ hT10)), dp_names (ys := []) upd_same, shaped_names nmT, rfl, ?_⟩
          rw [eqv_nonil (by cases hz : tkR L k with | nil => exact absurd hz w1 | cons x r => simp)]
          exact sq (s1012.trans s13)
end
/-! ### all worth of a good is somewhere -/
theorem op_notInDK {X : Cx} (hu : X.A.units + 1 < cLine) : OpR X (compareOp .NotIn) (fun x y H Q => ∃ a o, y = V.ref a ∧ DGet H a x o ∧ Q (.bl (!o.isSome)) H) := by
  rintro pins z τ G x y v u W I rx ry ⟨a, o, rfl, g, q⟩
  obtain rfl : u = Value.ref a := ry
  exact d_notIn hu I g rx fun s3 I3 => ⟨.bl _, G, I3, rfl, q⟩
theorem call_lenDK {X : Cx} : CallR X (.builtin "len") (fun xs H Q => ∃ a kvs, xs = [V.ref a] ∧ H a = some (.dK kvs) ∧ Q (.int kvs.length) H) := by
  intro pins s σ H xs us Q I r h
  obtain ⟨a, kvs, rfl, ha, q⟩ := h
  obtain ⟨u, rfl, ru⟩ := vals1 r
  cases ru
  exact d_len I (.inl ha) fun t s' I' => ⟨.int kvs.length, H, I', ⟨t, rfl⟩, q⟩
theorem TB1.putD {Ts : List Addr} {H H' : Hp} {l : Addr} {kvs : List (Key × V)} {o : HO} (t : TB1 Ts H H') (n : H l = none) (e : H' l = some (.dK kvs)) : TB1 Ts H (upd H' l o) :=
  ⟨fun T hT => by
    obtain ⟨ps, e1, ok⟩ := t.1 T hT
    exact ⟨ps, (upd_ne (ne_of e1 e (by intro z; cases z))).trans e1, ok⟩, fun a u eu na => (upd_ne (ne_of_none eu n)).trans (t.2 a u eu na), fun a na => by
    by_cases z : a = l
    · rw [z]
      exact n
    · rw [upd_ne z] at na
      exact t.free a na⟩
def cstW (g : Str) (es : List Ent) : Int := cameW g es - worthL (lotsN g es)
theorem came_len (g : Str) (es : List Ent) : (cameP g es).length ≤ es.length := by
  have := (came_sub g es).length_le
  rw [List.length_map, List.length_map] at this
  exact this
def spGdR (Ts : List Addr) : Sp := fun vs H Q _ => ∃ (h : Addr) (P G : List Str) (es : List Ent) (m : Nat) (g : Str), vs = [.ref h, .str g] ∧ HouseF H h P G es ∧ Good P G es m ∧ m ≤ 30 ∧ TabsG Ts H ∧ ∀ H', TB1 Ts H H' → Q (.bl true) H'
section
variable {P : Program} {w : World} {K : PySem.W.Frag} {mg : Str → Option Value} {base : Heap}
abbrev sGdRN : List Str := ["_law_house_here", "_law_good", "_law_came", "_law_taken", "_law_worth", "_law_costs", "_law_at", "_law_entry_here", "_law_name_here", "_law_many_here", "_law_there", "_law_left", "_law_price"]
theorem sc_sGdR : FnScope sGdRN ["_law_house_here", "_law_good"] (defScope sGdR) := ⟨rfl, rfl, rfl, by decide +kernel, rfl, by decide +kernel, by decide +kernel⟩
set_option maxHeartbeats 8000000 in
theorem ok_gdR {f fL fT fC fB fR CN CG : Addr} {fd dL dT dC dB dR : FuncData} {Ts : List Addr} (F : Fun K "_law_good_right" "_law_good_right" sGdR f fd) (LB : DefT P w K mg base "lots_behind" 3 fL dL ["house", "good", "at"] spLotsB) (TY : DefX P w K mg base "taken_by" 4 fT dT ["house", "name"] (spTakenBy K CN CG))
    (CO : DefX P w K mg base "cost_of" 5 fC dC ["house", "name"] (spCost K CN CG Ts)) (WB : DefT P w K mg base "worth_behind" 4 fB dB ["house", "good", "at"] (spWorth Ts)) (GR : DefT P w K mg base "_law_go_right" 5 fR dR ["_law_house_here", "_law_entry_here", "_law_at"] spGoR)
    (me : mg "enumerate" = none) (md : mg "dict" = none) (ml : mg "len" = none) : FnOk P w K mg base CX0 6 f fd ["_law_house_here", "_law_good"] (spGdR Ts) := by
  refine F.ok sc_sGdR (fun vs H Q E h => ?_) (fun cdv A outer s H vs Q E hr h => ?_)
  · obtain ⟨h, Ps, G, es, m, g, rfl, _⟩ := h
    rfl
  · obtain ⟨h, Ps, G, es, m, g, rfl, ho, gd, m30, tg, q⟩ := h
    have hu := hu_of hr
    have nd := sc_sGdR.nd
    have hr3 : Room 3 _ := hr.mono (by decide)
    have hr4 : Room 4 _ := hr.mono (by decide)
    refine ⟨_, pss_cons (ps_set (i := 2) nd rfl (Or.inr rfl) (pe_dnewK))
      (pss_cons (ps_set (i := 3) nd rfl (Or.inr rfl) (pe_dnewK))
      (pss_cons (ps_set (i := 4) nd rfl (Or.inl rfl) pe_int)
      (pss_cons (ps_set (i := 5) nd rfl (Or.inl rfl) pe_int)
      (pss_cons (ps_for PassesOwn.never rfl (pi_enumT (by rfl) me (pa_cons (pe_ix ix_tup (pv 0) pe_int (fun _ _ => rfl)) pa_nil)) (pg_tup (by rfl) (pgs_cons (pg_name (i := 6) nd rfl (Or.inl rfl)) (pgs_cons (pg_name (i := 7) nd rfl (Or.inl rfl)) pgs_nil)))
        (C8.pss_cut (ps_if (PW.pt (pw_and (pt_cmpR op_eq (pe_ix ix_tup (pv 7) pe_int (fun _ _ => rfl)) pe_str (nomark _)) (pw_and1 (pt_cmpR op_eq (pe_ix ix_tup (pv 7) pe_int (fun _ _ => rfl)) (pv 1) (nomark _))))) (pss_cons (ps_dput hu (pv 2) (pe_ix ix_tup (pv 7) pe_int (fun _ _ => rfl)) (pe_ix ix_tup (pv 7) pe_int (fun _ _ => rfl)) rfl)
          (pss_cons (ps_dput hu (pv 3) (pe_ix ix_tup (pv 7) pe_int (fun _ _ => rfl)) pe_int rfl)
          (pss_one (ps_set (i := 4) nd rfl (Or.inl rfl) (pe_op op_add (pv 4) (pe_op op_mul (pe_ix ix_tup (pv 7) pe_int (fun _ _ => rfl)) (pe_ix ix_tup (pv 7) pe_int (fun _ _ => rfl)))))))) pss_nil)
        (C8.pss_cut (ps_if (PW.pt (pw_and (pt_cmpR op_eq (pe_ix ix_tup (pv 7) pe_int (fun _ _ => rfl)) pe_str (nomark _)) (pw_and1 (pt_cmpR op_eq (pe_ix ix_tup (pv 7) pe_int (fun _ _ => rfl)) (pv 1) (nomark _))))) (pss_cons (ps_if (pt_not (pt_val (pe_call GR.ok hr (by rfl) GR.g GR.kp GR.b .nil pass0 (pa_cons (pv 0) (pa_cons (pv 7) (pa_cons (pv 6) pa_nil)))))) (pss_one (ps_ret pe_bl)) pss_nil)
          (pss_cons (ps_set (i := 5) nd rfl (Or.inl rfl) (pe_op op_add (pv 5) (pe_call CO.ok hr (by rfl) CO.g CO.kp CO.b .nil passL (pa_cons (pv 0) (pa_cons (pe_ix ix_tup (pv 7) pe_int (fun _ _ => rfl)) pa_nil)))))
          (pss_one (ps_for PassesOwn.never rfl (pi_list (pe_ix ix_tup (pe_call TY.ok hr4 (by rfl) TY.g TY.kp TY.b .nil passL (pa_cons (pv 0) (pa_cons (pe_ix ix_tup (pv 7) pe_int (fun _ _ => rfl)) pa_nil))) pe_int (fun _ _ => rfl))) (pg_tup (by rfl) (pgs_cons (pg_name (i := 8) nd rfl (Or.inl rfl)) (pgs_cons (pg_name (i := 9) nd rfl (Or.inl rfl)) pgs_nil)))
            (pss_one (ps_dput hu (pv 3) (pv 8) (pe_op op_add (pe_dget2 hu (pv 3) (pv 8) pe_int ⟨rfl, rfl, rfl, rfl⟩) (pv 9)) rfl)))))) pss_nil)
        (pss_cons (ps_set (i := 10) nd rfl (Or.inr rfl) (pe_callTy (call_dictP rfl) (by rfl) md (by decide +kernel) (pa_cons (pe_lc (own := [("_law_name_here", 8), ("_law_left", 11), ("_law_price", 12)]) (g := gTup K 3 (gCons (gName 8) (gCons (gName 11) (gCons (gName 12) gNil)))) (tt := tYes) (te := tTup (tCons (tVar 8) (tCons (tVar 11) tNil))) rfl nd (pi_list (pe_call LB.ok hr3 (by rfl) LB.g LB.kp LB.b .nil pass0 (pa_cons (pv 0) (pa_cons (pv 1) (pa_cons (pe_op op_add (pv 6) pe_int) pa_nil))))) (blkOk_by (N := sGdRN) (sc := defScope sGdR) (by decide +kernel)) (fun _ _ _ _ _ => (pg_tup (by rfl) (pgs_cons (pg_name (i := 8) nd rfl (Or.inl rfl)) (pgs_cons (pg_name (i := 11) nd rfl (Or.inl rfl)) (pgs_cons (pg_name (i := 12) nd rfl (Or.inl rfl)) pgs_nil))))) (fun _ _ _ _ _ => pts_nil) (fun _ _ _ _ _ => (pe_tup (pa_cons (pv 8) (pa_cons (pv 11) pa_nil))))) pa_nil)))
        (pss_cons (ps_if (pt_cmpR (op_neD hr.units) (pe_lock (pe_lc (own := [("_law_name_here", 8)]) (g := gName 8) (tt := tTest (tOp rNe (tOp (rI0 fun i j => .int (i + j)) (tDGet2 (tVar 10) (tVar 8) (tC (V.int 0))) (tDGet (tVar 3) (tVar 8))) (tDGet (tVar 2) (tVar 8)))) (te := tVar 8) rfl nd (pi_keys (pv 2)) (blkOk_by (N := sGdRN) (sc := defScope sGdR) (by decide +kernel)) (fun _ _ _ _ _ => (pg_name (i := 8) nd rfl (Or.inl rfl))) (fun _ _ _ _ _ => (pts_one (pt_cmpR op_ne (pe_op op_add (pe_dget2 hu (pv 10) (pv 8) pe_int ⟨rfl, rfl, rfl, rfl⟩) (pe_dget hu (pv 3) (pv 8) (fun _ _ => rfl))) (pe_dget hu (pv 2) (pv 8) (fun _ _ => rfl)) (nomark _)))) (fun _ _ _ _ _ => (pv 8)))) (pe_lst pa_nil) (nomark _)) (pss_one (ps_ret pe_bl)) pss_nil)
        (pss_cons (ps_if (PW.pt (pw_or (pt_cmpR op_gt (pe_callB call_lenDK (by rfl) ml PySem.boot_len (pa_cons (pv 3) pa_nil)) (pe_callB call_lenDK (by rfl) ml PySem.boot_len (pa_cons (pv 2) pa_nil)) (nomark _)) (pw_or1 (pt_cmpR op_gt (pe_callB call_len_seq (by rfl) ml PySem.boot_len (pa_cons (pe_lock (pe_lc (own := [("_law_name_here", 8)]) (g := gName 8) (tt := tTest (tOp (fun x y H Q => ∃ a o, y = V.ref a ∧ DGet H a x o ∧ Q (.bl (!o.isSome)) H) (tVar 8) (tVar 2))) (te := tVar 8) rfl nd (pi_keys (pv 10)) (blkOk_by (N := sGdRN) (sc := defScope sGdR) (by decide +kernel)) (fun _ _ _ _ _ => (pg_name (i := 8) nd rfl (Or.inl rfl))) (fun _ _ _ _ _ => (pts_one (pt_cmpR (op_notInDK hu) (pv 8) (pv 2) (by rfl)))) (fun _ _ _ _ _ => (pv 8)))) pa_nil)) pe_int (nomark _))))) (pss_one (ps_ret pe_bl)) pss_nil)
        (pss_one (ps_if (pt_cmpR op_ne (pe_op op_add (pe_call WB.ok hr4 (by rfl) WB.g WB.kp WB.b .nil pass0 (pa_cons (pv 0) (pa_cons (pv 1) (pa_cons (pe_op op_add (pv 6) pe_int) pa_nil)))) (pv 5)) (pv 4) (nomark _)) (pss_one (ps_ret pe_bl)) pss_nil))))))))
      (pss_one (ps_ret (pe_and (pe_cmpR op_eq (pe_call WB.ok hr4 (by rfl) WB.g WB.kp WB.b .nil pass0 (pa_cons (pv 0) (pa_cons (pv 1) (pa_cons pe_int pa_nil)))) pe_int (nomark _)) (pe_one (pe_cmpR (op_eqD hr.units) (pe_call LB.ok hr3 (by rfl) LB.g LB.kp LB.b .nil pass0 (pa_cons (pv 0) (pa_cons (pv 1) (pa_cons pe_int pa_nil)))) (pe_lst pa_nil) (nomark _)))))))))), ?_⟩
    have lm := gd.many
    obtain ⟨hp, hg, he, tps, ob, g1, g2, g3, ⟨g4, g6⟩, g5⟩ := ho.ex
    have nms : ∀ e ∈ es, nameB e.name = true := fun e he => (gd.ents e he).1
    refine fun C nC => ?_
    have s1 := @same_new _ _ (.dK []) nC
    have hC1 : (upd H C (.dK [])) C = some (.dK (pkv (cameP g (es.take 0)))) := upd_same
    generalize upd H C (.dK []) = H1 at s1 hC1
    refine fun T nT => ?_
    have s2 := @same_new _ _ (.dK []) nT
    have hT2 : (upd H1 T (.dK [])) T = some (.dK (pkv (tookP g (es.take 0)))) := upd_same
    have nCT : C ≠ T := ne_of_none hC1 nT
    generalize upd H1 T (.dK []) = H2 at s2 hT2
    have nT0 : H T = none := s1.free nT
    have t2 : TB1 Ts H H2 := .same tg (s1.trans s2)
    refine ⟨_, rfl, h, _, 2, _, rfl, rfl, SqT.of (t2.tk _ _ g1), atI_nat (j := 2) rfl, he, _, rfl, sqt_fz (t2.tf.2 _ _ _ g4), ?_⟩
    refine for_it (walk_enumT (K := K) (a := he) (xs := tps.map V.ref)) (fun i σ H' => ∃ y6 y7 y8 y9 y10, σ = [some (.ref h), some (.str g), some (.ref C), some (.ref T), some (.int (cameW g (es.take i))), some (.int (cstW g (es.take i))), y6, y7, y8, y9, y10, none, none] ∧ TB1 Ts H H' ∧ H' C = some (.dK (pkv (cameP g (es.take i)))) ∧ H' T = some (.dK (pkv (tookP g (es.take i)))))
      ⟨_, _, _, _, _, rfl, t2, s2 _ _ hC1, hT2⟩ (fun i σ H' _ z => by obtain ⟨_, _, _, _, _, _, z, _⟩ := z; exact sqt_fz (z.tf.2 _ _ _ g4)) ?_ ?_
    · rintro i v σ H3 H4 hi ⟨y6, y7, y8, y9, y10, rfl, t3, hC3, hT3⟩ ⟨Tp, x, y, rfl, nTp, rfl, hx, hy⟩
      obtain rfl := Option.some.inj hx
      replace hy : (tps.map V.ref)[i]? = some y := hy
      rw [List.getElem?_map] at hy
      obtain ⟨tp, htp, rfl⟩ := Option.map_eq_some_iff.mp hy
      have s4 := @same_new _ _ (.tup [V.int (i : Nat), .ref tp]) nTp
      have hTp : (upd H3 Tp (.tup [V.int (i : Nat), .ref tp])) Tp = some (.tup [V.int (i : Nat), .ref tp]) := upd_same
      generalize upd H3 Tp (.tup [V.int (i : Nat), .ref tp]) = H4 at s4 hTp
      have t4 := t3.tr (.same t3.1 s4)
      obtain ⟨e, hes, hte0⟩ := g5.get htp
      have me' := List.mem_of_getElem? hes
      have hte := t4.tk _ _ hte0
      have li : i < m := by have := (List.getElem?_eq_some_iff.mp hes).1; omega
      have hC4 := s4 _ _ hC3
      have hT4 := s4 _ _ hT3
      have lE : (es.take i).length = i := by rw [List.length_take]; omega
      have lc : (cameP g (es.take i)).length ≤ 30 := Nat.le_trans (came_len g _) (by omega)
      have lt : (tookP g (es.take i)).length ≤ 30 := by unfold tookP; rw [List.length_map]; exact lc
      refine ⟨Tp, _, rfl, SqT.of hTp, rfl, _, _, rfl, _, _, rfl, rfl, ?_⟩
      refine ⟨fun σ' H' => ∃ (D1 : List Prt) (cst : Int), σ' = [some (.ref h), some (.str g), some (.ref C), some (.ref T), some (.int (cameW g (es.take (i + 1)))), some (.int cst), some (.int (i : Nat)), some (.ref tp), y8, y9, y10, none, none] ∧ TB1 Ts H H' ∧ H' C = some (.dK (pkv (cameP g (es.take (i + 1))))) ∧ H' T = some (.dK (pkv D1)) ∧
        ((¬ (e.word = "go" ∧ e.goodV = .str g) ∧ D1 = tookP g (es.take (i + 1)) ∧ cst = cstW g (es.take (i + 1))) ∨ (∃ n mo p k, e = .go n mo g p k ∧ D1 = tookP g (es.take i) ∧ cst = cstW g (es.take i))), ?_, ?_⟩
      · have nin : e.name ∉ (es.take i).map Ent.name := fun z => by
          have w := gd.nms
          have lt' : i < es.length := (List.getElem?_eq_some_iff.mp hes).1
          rw [← List.take_append_drop i es, List.map_append, List.nodup_append] at w
          refine w.2.2 e.name z e.name ?_ rfl
          rw [List.drop_eq_getElem_cons lt']
          rw [List.getElem?_eq_getElem lt'] at hes
          rw [Option.some.inj hes]
          exact List.mem_cons_self
        have stay : ¬ (e.word = "come" ∧ e.goodV = .str g) → cameW g (es.take (i + 1)) = cameW g (es.take i) ∧ cameP g (es.take (i + 1)) = cameP g (es.take i) ∧ ((¬ (e.word = "go" ∧ e.goodV = .str g) ∧ tookP g (es.take i) = tookP g (es.take (i + 1)) ∧ cstW g (es.take i) = cstW g (es.take (i + 1))) ∨ ∃ n mo p k, e = .go n mo g p k) := fun nc => by
          rw [take_snoc hes]
          by_cases zg : e.word = "go" ∧ e.goodV = .str g
          · obtain ⟨n, mo, g', p, k, rfl⟩ := go_ent zg.1
            obtain rfl : g' = g := V.str.inj zg.2
            refine ⟨?_, ?_, .inr ⟨n, mo, p, k, rfl⟩⟩
            · rw [cameW_snoc]
              exact Int.add_zero _
            · rw [cameP_snoc]
              exact List.append_nil _
          · obtain ⟨w1, w2, w3⟩ := lot_none (es := es.take i) (e := e) (g := g) (fun z => z.1.elim (fun w => nc ⟨w, z.2⟩) fun w => zg ⟨w, z.2⟩)
            refine ⟨w3, w2, .inl ⟨zg, ?_, ?_⟩⟩
            · unfold tookP lft
              rw [w1, w2]
            · unfold cstW
              rw [w1, w3]
        have no : ¬ (e.word = "come" ∧ e.goodV = .str g) → ∃ (D1 : List Prt) (cst : Int), [some (V.ref h), some (.str g), some (.ref C), some (.ref T), some (.int (cameW g (es.take i))), some (.int (cstW g (es.take i))), some (.int (i : Nat)), some (.ref tp), y8, y9, y10, none, none] = [some (V.ref h), some (.str g), some (.ref C), some (.ref T), some (.int (cameW g (es.take (i + 1)))), some (.int cst), some (.int (i : Nat)), some (.ref tp), y8, y9, y10, none, none] ∧ TB1 Ts H H4 ∧ H4 C = some (.dK (pkv (cameP g (es.take (i + 1))))) ∧ H4 T = some (.dK (pkv D1)) ∧
            ((¬ (e.word = "go" ∧ e.goodV = .str g) ∧ D1 = tookP g (es.take (i + 1)) ∧ cst = cstW g (es.take (i + 1))) ∨ (∃ n mo p k, e = .go n mo g p k ∧ D1 = tookP g (es.take i) ∧ cst = cstW g (es.take i))) := fun nc => by
          obtain ⟨w1, w2, w3⟩ := stay nc
          refine ⟨tookP g (es.take i), cstW g (es.take i), by rw [w1], t4, by rw [w2]; exact hC4, hT4, ?_⟩
          rcases w3 with ⟨w3, w4, w5⟩ | ⟨n, mo, p, k, w3⟩
          · exact .inl ⟨w3, w4, w5⟩
          · exact .inr ⟨n, mo, p, k, w3, rfl, rfl⟩
        refine ⟨_, rfl, tp, _, 0, _, rfl, rfl, SqT.of hte, at0 e, rfl, _, rfl, ?_⟩
        by_cases zw : e.word = "come"
        · rw [decide_eq_true (congrArg V.str zw)]
          obtain ⟨n, mo, g', p, k, r, rfl⟩ := come_ent zw
          refine iteT ⟨_, rfl, tp, _, 3, _, rfl, rfl, SqT.of hte, atI_nat (j := 3) rfl, _, rfl, rfl, _, rfl, ?_⟩
          by_cases zg : V.str g' = .str g
          · rw [decide_eq_true zg]
            obtain rfl : g' = g := V.str.inj zg
            have nc : n ∉ (cameP g' (es.take i)).map Prt.n := fun z => nin ((came_sub g' _).subset z)
            refine iteT ⟨_, rfl, tp, _, 5, _, rfl, rfl, SqT.of hte, atI_nat (j := 5) rfl, _, rfl, _, rfl, tp, _, 1, _, rfl, rfl, SqT.of hte, atI_nat (j := 1) rfl, C, _, rfl, DPut.k (k := Sum.inr n) hC4 (by rw [List.length_map]; exact small1000 (by omega)), ?_⟩
            have eC : putK (pkv (cameP g' (es.take i))) (Sum.inr n) (.int k) = pkv (cameP g' (es.take (i + 1))) := by
              rw [take_snoc hes, cameP_snoc]
              show _ = pkv (_ ++ if g' = g' then _ else _)
              rw [if_pos rfl]
              exact pkv_put (p := ⟨n, k⟩) nc
            rw [eC]
            have t5 : TB1 Ts H (upd H4 C (.dK (pkv (cameP g' (es.take (i + 1)))))) := t4.putD nC hC4
            have hC5 : (upd H4 C (.dK (pkv (cameP g' (es.take (i + 1)))))) C = some (.dK (pkv (cameP g' (es.take (i + 1))))) := upd_same
            have hT5 : (upd H4 C (.dK (pkv (cameP g' (es.take (i + 1)))))) T = some (.dK (pkv (tookP g' (es.take i)))) := (upd_ne nCT.symm).trans hT4
            generalize upd H4 C (.dK (pkv (cameP g' (es.take (i + 1))))) = H5 at t5 hC5 hT5
            have hte5 := t5.tk _ _ hte0
            have nt : n ∉ (tookP g' (es.take i)).map Prt.n := by rw [tookP_n]; exact nc
            refine ⟨_, rfl, _, rfl, tp, _, 1, _, rfl, rfl, SqT.of hte5, atI_nat (j := 1) rfl, T, _, rfl, DPut.k (k := Sum.inr n) hT5 (by rw [List.length_map]; exact small1000 (by omega)), ?_⟩
            have eT : putK (pkv (tookP g' (es.take i))) (Sum.inr n) (.int 0) = pkv (tookP g' (es.take (i + 1))) := by
              rw [take_snoc hes, took_come (show n ∉ _ from nin)]
              exact pkv_put (p := ⟨n, 0⟩) nt
            rw [eT]
            have t6 : TB1 Ts H (upd H5 T (.dK (pkv (tookP g' (es.take (i + 1)))))) := t5.putD nT0 hT5
            have hT6 : (upd H5 T (.dK (pkv (tookP g' (es.take (i + 1)))))) T = some (.dK (pkv (tookP g' (es.take (i + 1))))) := upd_same
            have hC6 : (upd H5 T (.dK (pkv (tookP g' (es.take (i + 1)))))) C = some (.dK (pkv (cameP g' (es.take (i + 1))))) := (upd_ne nCT).trans hC5
            generalize upd H5 T (.dK (pkv (tookP g' (es.take (i + 1))))) = H6 at t6 hC6 hT6
            have hte6 := t6.tk _ _ hte0
            obtain ⟨_, _, _, HL, _, fr⟩ := gd.ents _ me'
            obtain ⟨_, _, f3, f4, f5, f6⟩ := fr
            have eW : cameW g' (es.take i) + k * r = cameW g' (es.take (i + 1)) := by
              rw [take_snoc hes, cameW_snoc]
              show _ = _ + if g' = g' then _ else _
              rw [if_pos rfl]
            refine ⟨_, rfl, _, rfl, tp, _, 5, _, rfl, rfl, SqT.of hte6, atI_nat (j := 5) rfl, _, rfl, tp, _, 6, _, rfl, rfl, SqT.of hte6, atI_nat (j := 6) rfl, k, r, rfl, rfl, ?_, _, _, rfl, rfl, tookP g' (es.take (i + 1)), cstW g' (es.take (i + 1)), ?_, t6, hC6, hT6, .inl ⟨fun z => absurd z.1 (show ¬ ("come" : Str) = "go" by decide +kernel), rfl, rfl⟩⟩
            · exact .inl ⟨by omega, by omega⟩
            · have eS : cstW g' (es.take i) = cstW g' (es.take (i + 1)) := by
                unfold cstW
                rw [← eW, take_snoc hes, lotsN_snoc]
                show _ = _ - worthL (if V.str g' = V.str g' then _ ++ [⟨n, k, r⟩] else _)
                rw [if_pos rfl]
                unfold worthL
                rw [List.map_append, List.sum_append]
                simp
                omega
              rw [← eW, ← eS]
              rfl
          · rw [decide_eq_false zg]
            exact iteF (no fun z => zg z.2)
        · rw [decide_eq_false fun y => zw (V.str.inj y)]
          exact iteF (iteF (no fun z => zw z.1))
      · rintro σ' H5 ⟨D1, cst, rfl, t5, hC5, hT5, alt⟩
        have hte5 := t5.tk _ _ hte0
        have ho5 := ho.on t5.tf
        refine ⟨fun σ' H' => ∃ y8 y9, σ' = [some (.ref h), some (.str g), some (.ref C), some (.ref T), some (.int (cameW g (es.take (i + 1)))), some (.int (cstW g (es.take (i + 1)))), some (.int (i : Nat)), some (.ref tp), y8, y9, y10, none, none] ∧ TB1 Ts H H' ∧ H' C = some (.dK (pkv (cameP g (es.take (i + 1))))) ∧ H' T = some (.dK (pkv (tookP g (es.take (i + 1))))), ?_, ?_⟩
        · refine ⟨_, rfl, tp, _, 0, _, rfl, rfl, SqT.of hte5, at0 e, rfl, _, rfl, ?_⟩
          rcases alt with ⟨ng, rfl, rfl⟩ | ⟨n, mo, p, k, rfl, rfl, rfl⟩
          · by_cases zw : e.word = "go"
            · rw [decide_eq_true (congrArg V.str zw)]
              obtain ⟨n, mo, g', p, k, rfl⟩ := go_ent zw
              refine iteT ⟨_, rfl, tp, _, 3, _, rfl, rfl, SqT.of hte5, atI_nat (j := 3) rfl, _, rfl, rfl, _, rfl, ?_⟩
              rw [decide_eq_false (show ¬ V.str g' = V.str g from fun z => ng ⟨rfl, z⟩)]
              exact iteF ⟨_, _, rfl, t5, hC5, hT5⟩
            · rw [decide_eq_false fun y => zw (V.str.inj y)]
              exact iteF (iteF ⟨_, _, rfl, t5, hC5, hT5⟩)
          · rw [decide_eq_true (show V.str (Ent.go n mo g p k).word = V.str "go" from rfl)]
            refine iteT ⟨_, rfl, tp, _, 3, _, rfl, rfl, SqT.of hte5, atI_nat (j := 3) rfl, _, rfl, rfl, _, rfl, ?_⟩
            rw [decide_eq_true (show V.str g = V.str g from rfl)]
            refine iteT ⟨_, rfl, _, rfl, _, rfl, h, tp, Ps, G, es, m, i, n, mo, g, p, k, rfl, ho5, gd, m30, hes, hte5, fun H6 s6 => ⟨true, rfl, iteF ?_⟩⟩
            have t6 := t5.tr (.same t5.1 s6)
            obtain ⟨n1, _, _, HL, _, fr⟩ := gd.ents _ me'
            have hk : 0 ≤ k := by have := fr.2.2.1; omega
            have th : ∀ {H' : Hp}, EqT.Tng K H' (.str n) := .inl ⟨_, .str _, by simp [SeqAt.shaped, PyData.canLay0, PyData.depth, name_ok (show nameB n = true from n1)]⟩
            have ndL := lots_nd gd g i
            have posL' : ∀ l ∈ lotsN g (es.take i), 0 < l.left := fun l hl => (lots_mem gd hl).2.1
            obtain ⟨tg1, tg2, tg3⟩ := took_go (n := n) (m := mo) (p := p) ndL posL' hk
            rw [← take_snoc hes] at tg1 tg2 tg3
            have eW : cameW g (es.take (i + 1)) = cameW g (es.take i) := by
              rw [take_snoc hes, cameW_snoc]
              exact Int.add_zero _
            have eS : cstW g (es.take i) + costL (lotsN g (es.take i)) k = cstW g (es.take (i + 1)) := by
              unfold cstW
              rw [eW, tg3, cost_R ndL]
              have := worth_drop posL' hk
              omega
            have ndC : ((cameP g (es.take i)).map Prt.n).Nodup := (came_sub g _).nodup (by rw [List.map_take]; exact (List.take_sublist _ _).nodup gd.nms)
            refine ⟨_, rfl, _, rfl, _, rfl, tp, _, 1, _, rfl, rfl, SqT.of (t6.tk _ _ hte0), atI_nat (j := 1) rfl, h, Ps, G, es, m, _, rfl, ho.on t6.tf, gd, m30, th, t6.1, .inl ⟨i, n, mo, g, p, k, hes, rfl, fun H7 t7 => ⟨_, _, rfl, rfl, ?_⟩⟩⟩
            have t7' := t6.tr t7
            refine ⟨_, rfl, _, rfl, tp, _, 1, _, rfl, rfl, SqT.of (t7'.tk _ _ hte0), atI_nat (j := 1) rfl, h, Ps, G, es, m, _, rfl, ho.on t7'.tf, gd, m30, th, .inl ⟨i, n, mo, g, p, k, hes, rfl, fun t pl ps H8 s8 npl ht hpl pp => ?_⟩⟩
            refine ⟨t, _, 0, _, rfl, rfl, SqT.of ht, atI_nat (j := 0) rfl, pl, rfl, ⟨_, SqL.of hpl⟩, ?_⟩
            rw [tkS_eq] at pp
            have t8 := t7'.tr (.same t7'.1 s8)
            have hC8 := s8 _ _ (t7.dct (s6 _ _ hC5))
            have hT8 := s8 _ _ (t7.dct (s6 _ _ hT5))
            have ndP : ((tkR (lotsN g (es.take i)) k).map Prt.n).Nodup := (tkR_sub _ _).nodup ndL
            have inC : ∀ y ∈ tkR (lotsN g (es.take i)) k, y.n ∈ (cameP g (es.take i)).map Prt.n := fun y hy => lots_in g _ _ ((tkR_sub _ _).subset (List.mem_map_of_mem hy))
            have llp : ps.length = (tkR (lotsN g (es.take i)) k).length := Paired.length pp
            rw [← tookJ_nil] at hT8
            have eσ : [some (V.ref h), some (.str g), some (.ref C), some (.ref T), some (.int (cameW g (es.take (i + 1)))), some (.int (cstW g (es.take i) + costL (lotsN g (es.take i)) k)), some (.int (i : Nat)), some (.ref tp), y8, y9, y10, none, none] = [some (V.ref h), some (.str g), some (.ref C), some (.ref T), some (.int (cameW g (es.take (i + 1)))), some (.int (cstW g (es.take (i + 1)))), some (.int (i : Nat)), some (.ref tp), y8, y9, y10, none, none] := by rw [eS]
            replace pp : PrtsAt H8 ps (tkR (lotsN g (es.take i)) k) := pp
            generalize tkR (lotsN g (es.take i)) k = R at pp ndP inC llp tg1
            refine for_list (K := K) (a := pl) (xs := ps.map V.ref) (fun j σ H' => ∃ y8 y9, σ = [some (.ref h), some (.str g), some (.ref C), some (.ref T), some (.int (cameW g (es.take (i + 1)))), some (.int (cstW g (es.take (i + 1)))), some (.int (i : Nat)), some (.ref tp), y8, y9, y10, none, none] ∧ TB1 Ts H H' ∧ H' C = some (.dK (pkv (cameP g (es.take (i + 1))))) ∧ H' T = some (.dK (pkv (tookJ g (es.take i) (R.take j)))) ∧ H' pl = some (.lst (ps.map V.ref)) ∧ PrtsAt H' ps R)
              ⟨_, _, eσ, t8, hC8, hT8, hpl, pp⟩ (fun j σ H' _ z => by obtain ⟨_, _, _, _, _, _, z, _⟩ := z; exact SqL.of z) ?_ ?_
            · rintro j x σ H9 hx ⟨z8, z9, rfl, t9, hC9, hT9, hpl9, pp9⟩
              rw [List.getElem?_map] at hx
              obtain ⟨c, hc, rfl⟩ := Option.map_eq_some_iff.mp hx
              obtain ⟨y, hy, hcy⟩ := paired_get pp9 hc
              have yR := List.mem_of_getElem? hy
              have nx : y.n ∉ (R.take j).map Prt.n := fun z => by
                have lt' : j < R.length := (List.getElem?_eq_some_iff.mp hy).1
                have w := ndP
                rw [← List.take_append_drop j R, List.map_append, List.nodup_append] at w
                refine w.2.2 y.n z y.n ?_ rfl
                rw [List.drop_eq_getElem_cons lt']
                rw [List.getElem?_eq_getElem lt'] at hy
                rw [Option.some.inj hy]
                exact List.mem_cons_self
              refine ⟨c, _, rfl, SqT.of hcy, rfl, _, _, rfl, _, _, rfl, rfl, ?_⟩
              refine ⟨_, rfl, T, rfl, .inl ⟨_, Rd.of hT9⟩, _, rfl, _, .inl ⟨_, Sum.inr y.n, Rd.of hT9, rfl, rfl⟩, ?_⟩
              rw [pkv_val]
              refine ⟨_, rfl, _, _, rfl, rfl, _, rfl, _, rfl, T, _, rfl, DPut.k (k := Sum.inr y.n) hT9 (by rw [List.length_map]; unfold tookJ; rw [List.length_map]; exact small1000 (by omega)), ?_⟩
              have k10 : TK H9 (upd H9 T (.dK (pkv (tookJ g (es.take i) (R.take (j + 1)))))) := TK.upd (fun xs e => by rw [hT9] at e; cases e)
              rw [tookJ_put ndC (inC y yR) nx, ← take_snoc hy]
              exact ⟨_, _, rfl, t9.putD nT0 hT9, (upd_ne nCT).trans hC9, upd_same, (upd_ne (ne_of hpl9 hT9 (by intro z; cases z))).trans hpl9, prts_on k10 pp9⟩
            · rintro σ H9 ⟨z8, z9, rfl, t9, hC9, hT9, _⟩
              rw [List.length_map, llp, List.take_length, ← tg1] at hT9
              exact ⟨_, _, rfl, t9, hC9, hT9⟩
        · rintro σ' H6 ⟨z8, z9, rfl, t6, hC6, hT6⟩
          have ndC : ((cameP g (es.take (i + 1))).map Prt.n).Nodup := (came_sub g _).nodup (by rw [List.map_take]; exact (List.take_sublist _ _).nodup gd.nms)
          have ndL := lots_nd gd g (i + 1)
          have inL := lots_in g (es.take (i + 1))
          have ndT : ((tookP g (es.take (i + 1))).map Prt.n).Nodup := by rw [tookP_n]; exact ndC
          have tk : ∀ q ∈ cameP g (es.take (i + 1)), (⟨q.n, q.k - pval ((lotsN g (es.take (i + 1))).map lotP) q.n⟩ : Prt) ∈ tookP g (es.take (i + 1)) := fun q hq => List.mem_map_of_mem (f := fun p : Prt => (⟨p.n, p.k - lft g (es.take (i + 1)) p.n⟩ : Prt)) hq
          have lTC : (tookP g (es.take (i + 1))).length = (cameP g (es.take (i + 1))).length := by unfold tookP; rw [List.length_map]
          have l30 : (lotsN g (es.take (i + 1))).length ≤ 30 := by
            have := lotsN_len g (es.take (i + 1))
            rw [List.length_take] at this
            omega
          refine ⟨_, rfl, _, rfl, _, rfl, _, 1, rfl, rfl, h, Ps, G, es, m, i + 1, g, rfl, ho.on t6.tf, gd, m30, li, fun l0 as0 H7 s7 nl0 hl0 la0 => ?_⟩
          have eL : worthL (lotsN g (es.take (i + 1))) + cstW g (es.take (i + 1)) = cameW g (es.take (i + 1)) := by unfold cstW; omega
          refine ⟨l0, rfl, ⟨_, SqL.of hl0⟩, fun D nD => ?_⟩
          have lla0 : as0.length = (lotsN g (es.take (i + 1))).length := Paired.length la0
          refine lc_list (K := K) (a := l0) (xs := as0.map V.ref) (fun j H' => Same H7 H' ∧ ∃ us : List Addr, H' D = some (.lst (us.map V.ref)) ∧ PrtsAt H' us (((lotsN g (es.take (i + 1))).take j).map lotP)) ⟨same_new nD, [], upd_same, .nil⟩ (fun j H' _ z => SqL.of (z.1 _ _ hl0)) ?_ ?_
          · rintro j x H' hx ⟨sm, us, hD, pu⟩
            rw [List.getElem?_map] at hx
            obtain ⟨c, hc, rfl⟩ := Option.map_eq_some_iff.mp hx
            obtain ⟨y, hy, hcy⟩ := paired_get la0 hc
            refine ⟨c, _, rfl, SqT.of (sm _ _ hcy), rfl, _, _, rfl, _, _, rfl, _, _, rfl, rfl, rfl, yesT ⟨_, rfl, _, rfl, (by show 2 ≤ sizeLine; decide), fun t nt => ?_⟩⟩
            have s3 := @same_new _ _ (.tup [V.str y.n, .int y.left]) nt
            refine ⟨_, s3 _ _ hD, ?_, fun b o e => (upd_ne (ne_of_none e nD)).trans (s3 _ _ (sm b o e)), us ++ [t], ?_, ?_⟩
            · rw [List.length_map, Paired.length pu, List.length_map, List.length_take]
              exact small1000 (by omega)
            · rw [upd_same, List.map_append]
              rfl
            · have nDt : t ≠ D := fun z => by rw [z] at nt; rw [nt] at hD; cases hD
              rw [take_snoc hy, List.map_append]
              refine Paired.snoc (prts_on (fun c xs e => (upd_ne (ne_of e (s3 _ _ hD) (by intro z; cases z))).trans e) (prts_on (TK.of s3) pu)) ?_
              rw [upd_ne nDt, upd_same]
              rfl
          rintro H8 ⟨s8, us, hD8, pu⟩
          rw [List.length_map, lla0, List.take_length] at pu
          have ndLP : (((lotsN g (es.take (i + 1))).map lotP).map Prt.n).Nodup := by rw [lotP_n]; exact ndL
          have inLP : ∀ q ∈ (lotsN g (es.take (i + 1))).map lotP, q.n ∈ (cameP g (es.take (i + 1))).map Prt.n := fun q hq => inL _ (by rw [← lotP_n]; exact List.mem_map_of_mem hq)
          have llP : ((lotsN g (es.take (i + 1))).map lotP).length ≤ 30 := by rw [List.length_map]; exact l30
          generalize (lotsN g (es.take (i + 1))).map lotP = LP at pu ndLP inLP llP tk
          have pkvP : ∀ {ts : List Addr} {ps : List Prt}, PrtsAt H8 ts ps → Paired (fun p (kv : Key × V) => SqT K H8 p [kV kv.1, kv.2]) ts (pkv ps) := fun {ts ps} z => by
            induction z with
            | nil => exact .nil
            | cons a _ ih => exact .cons (SqT.of a) ih
          refine ⟨D, us, pkv LP, rfl, SqL.of hD8, pkvP pu, fun TH nTH => ?_⟩
          have eM : mergeK [] (pkv LP) = pkv LP := merge_pkv LP [] ndLP
          rw [eM]
          have s9 := @same_new _ _ (.dK (pkv LP)) nTH
          have hH9 : (upd H8 TH (.dK (pkv LP))) TH = some (.dK (pkv LP)) := upd_same
          generalize upd H8 TH (.dK (pkv LP)) = H9 at s9 hH9
          have s69 := s7.trans (s8.trans s9)
          have hC9 := s69 _ _ hC6
          have hT9 := s69 _ _ hT6
          have nHC : TH ≠ C := (ne_of_none (s8 _ _ (s7 _ _ hC6)) nTH).symm
          have t9 := t6.tr (.same t6.1 s69)
          clear pu hD8
          refine ⟨C, _, hC9, trivial, fun od => ?_⟩
          refine ⟨_, rfl, C, od, rfl, .inl ⟨_, upd_same, fun D nD => ?_⟩⟩
          have nDC : C ≠ D := fun z => by
            rw [← z, upd_same] at nD
            cases nD
          have nbD : ∀ {b : Addr} {o : HO}, H9 b = some o → b ≠ C → b ≠ D := fun {b o} e nb z => by
            rw [← z, upd_ne nb, e] at nD
            cases nD
          refine lc_it (walk_keys (d := C) (o := od) (kvs := pkv (cameP g (es.take (i + 1))))) (fun j H' => H' C = some (.frz od (.dK (pkv (cameP g (es.take (i + 1)))))) ∧ (∀ b o, H9 b = some o → b ≠ C → H' b = some o) ∧ H' D = some (.lst []))
            ⟨(upd_ne nDC).trans upd_same, fun b o e nb => (upd_ne (nbD e nb)).trans ((upd_ne nb).trans e), upd_same⟩ (fun j H' _ z => z.1) ?_ ?_
          · rintro j x H' _ hj ⟨w1, w2, w3⟩ ⟨rfl, kk, vv, hkv, rfl⟩
            rw [List.getElem?_map] at hkv
            obtain ⟨q', hq', eq⟩ := Option.map_eq_some_iff.mp hkv
            cases eq
            have mq := List.mem_of_getElem? hq'
            have hH' := w2 _ _ hH9 nHC
            have hT' := w2 _ _ hT9 nCT.symm
            refine ⟨rfl, _, rfl, TH, rfl, .inl ⟨_, Rd.of hH'⟩, _, rfl, _, .inl ⟨_, Sum.inr q'.n, Rd.of hH', rfl, rfl⟩, ?_⟩
            rw [pkv_val]
            refine ⟨_, rfl, _, rfl, T, _, rfl, .inl ⟨_, Sum.inr q'.n, Rd.of hT', rfl, (pkv_get ndT (tk q' mq)).symm⟩, _, _, rfl, rfl, _, rfl, _, rfl, C, _, rfl, .inl ⟨_, Sum.inr q'.n, .inr ⟨od, w1⟩, rfl, (pkv_get ndC mq).symm⟩, ?_⟩
            have e0 : V.int (pval LP q'.n + (q'.k - pval LP q'.n)) = V.int q'.k := congrArg V.int (by omega)
            refine ⟨rfl, false, ?_, iteF ⟨w1, w2, w3⟩⟩
            show V.bl (!decide (V.int (pval LP q'.n + (q'.k - pval LP q'.n)) = V.int q'.k)) = _
            rw [decide_eq_true e0]
            rfl
          rintro H10 ⟨w1, w2, w3⟩
          refine ⟨w1, ?_⟩
          have s10 : Same H9 (upd H10 C (.dK (pkv (cameP g (es.take (i + 1)))))) := fun b o e => by
            by_cases z : b = C
            · rw [z] at e ⊢
              rw [upd_same, ← e, hC9]
            · exact (upd_ne z).trans (w2 b o e z)
          have hD10 : (upd H10 C (.dK (pkv (cameP g (es.take (i + 1)))))) D = some (.lst []) := (upd_ne nDC.symm).trans w3
          generalize upd H10 C (.dK (pkv (cameP g (es.take (i + 1))))) = H11 at s10 hD10
          clear w1 w2 w3
          refine ⟨Nat.zero_le _, fun E1 nE1 => ?_⟩
          have s11 := @same_new _ _ (.lst []) nE1
          have hE1 : (upd H11 E1 (.lst [])) E1 = some (.lst []) := upd_same
          generalize upd H11 E1 (.lst []) = H12 at s11 hE1
          refine ⟨.list [], .list [], dp_names (ys := []) (s11 _ _ hD10), dp_names (ys := []) hE1, rfl, rfl, false, rfl, iteF ?_⟩
          have s912 := s10.trans s11
          have hC12 := s912 _ _ hC9
          have hT12 := s912 _ _ hT9
          have hH12 := s912 _ _ hH9
          have t12 := t9.tr (.same t9.1 s912)
          refine ⟨_, rfl, T, _, rfl, hT12, _, rfl, C, _, rfl, hC12, _, _, rfl, rfl, false, ?_, ?_⟩
          · refine congrArg V.bl (decide_eq_false ?_)
            rw [List.length_map, List.length_map, lTC]
            omega
          refine iteF ⟨TH, _, hH12, trivial, fun od => ?_⟩
          refine ⟨_, rfl, TH, od, rfl, .inl ⟨_, upd_same, fun D nD => ?_⟩⟩
          have nDC : TH ≠ D := fun z => by
            rw [← z, upd_same] at nD
            cases nD
          have nbD : ∀ {b : Addr} {o : HO}, H12 b = some o → b ≠ TH → b ≠ D := fun {b o} e nb z => by
            rw [← z, upd_ne nb, e] at nD
            cases nD
          refine lc_it (walk_keys (d := TH) (o := od) (kvs := pkv LP)) (fun j H' => H' TH = some (.frz od (.dK (pkv LP))) ∧ (∀ b o, H12 b = some o → b ≠ TH → H' b = some o) ∧ H' D = some (.lst []))
            ⟨(upd_ne nDC).trans upd_same, fun b o e nb => (upd_ne (nbD e nb)).trans ((upd_ne nb).trans e), upd_same⟩ (fun j H' _ z => z.1) ?_ ?_
          · rintro j x H' _ hj ⟨w1, w2, w3⟩ ⟨rfl, kk, vv, hkv, rfl⟩
            rw [List.getElem?_map] at hkv
            obtain ⟨q', hq', eq⟩ := Option.map_eq_some_iff.mp hkv
            cases eq
            obtain ⟨r, hr', er⟩ := List.mem_map.mp (inLP q' (List.mem_of_getElem? hq'))
            have gv : valV (pkv (cameP g (es.take (i + 1)))) (Sum.inr q'.n) = some (.int r.k) := by rw [← er]; exact pkv_get ndC hr'
            refine ⟨rfl, _, rfl, _, rfl, C, _, rfl, .inl ⟨_, Sum.inr q'.n, Rd.of (w2 _ _ hC12 nHC.symm), rfl, gv.symm⟩, false, rfl, iteF ⟨w1, w2, w3⟩⟩
          rintro H13 ⟨w1, w2, w3⟩
          refine ⟨w1, ?_⟩
          have s13 : Same H12 (upd H13 TH (.dK (pkv LP))) := fun b o e => by
            by_cases z : b = TH
            · rw [z] at e ⊢
              rw [upd_same, ← e, hH12]
            · exact (upd_ne z).trans (w2 b o e z)
          have hD13 : (upd H13 TH (.dK (pkv LP))) D = some (.lst []) := (upd_ne nDC.symm).trans w3
          generalize upd H13 TH (.dK (pkv LP)) = H14 at s13 hD13
          clear w1 w2 w3
          have t14 := t12.tr (.same t12.1 s13)
          refine ⟨D, _, rfl, .inl (SqL.of hD13), _, _, rfl, rfl, false, rfl, iteF ?_⟩
          refine ⟨_, rfl, _, rfl, _, rfl, _, 1, rfl, rfl, h, Ps, G, es, m, i + 1, g, rfl, ho.on t14.tf, gd, m30, li, t14.1, fun H15 t15 => ?_⟩
          refine ⟨_, rfl, _, _, rfl, rfl, _, rfl, rfl, false, ?_, iteF ⟨_, _, _, _, _, rfl, t14.tr t15, t15.dct (s13 _ _ hC12), t15.dct (s13 _ _ hT12)⟩⟩
          show V.bl (!decide (V.int (worthL (lotsN g (es.take (i + 1))) + cstW g (es.take (i + 1))) = V.int (cameW g (es.take (i + 1))))) = _
          rw [decide_eq_true (congrArg V.int eL)]
          rfl
    · rintro σ H3 ⟨y6, y7, y8, y9, y10, rfl, t3, hC3, hT3⟩
      refine ⟨_, rfl, _, rfl, h, Ps, G, es, m, 0, g, rfl, ho.on t3.tf, gd, m30, Nat.zero_le _, t3.1, fun H4 t4 => ?_⟩
      have t4' := t3.tr t4
      refine ⟨rfl, _, rfl, ?_⟩
      have e0 : decide (V.int (worthL (lotsN g (es.take 0))) = V.int 0) = true := decide_eq_true rfl
      rw [e0]
      refine iteT ⟨_, rfl, _, rfl, h, Ps, G, es, m, 0, g, rfl, ho.on t4'.tf, gd, m30, Nat.zero_le _, fun l0 as0 H5 s5 nl0 hl0 la0 => ?_⟩
      have la : as0 = [] := by
        cases la0
        rfl
      rw [la] at hl0
      refine ⟨Nat.zero_le _, fun E1 nE1 => ?_⟩
      have s6 := @same_new _ _ (.lst []) nE1
      exact ⟨.list [], .list [], dp_names (ys := []) (s6 _ _ hl0), dp_names (ys := []) upd_same, rfl, rfl, q _ (t4'.tr (.same t4'.1 (s5.trans s6)))⟩
end
/-! ### all stays but the pen and the tables -/
structure PT (p : Addr) (Ts : List Addr) (H H' : Hp) : Prop where
  tg : TabsG Ts H'
  kp : ∀ a o, H a = some o → (∀ ps, o ≠ .tbl ps) → a ≠ p → H' a = some o
theorem PT.tb {p : Addr} {Ts : List Addr} {H H' : Hp} (t : TB1 Ts H H') : PT p Ts H H' := ⟨t.1, fun a o e n _ => t.2 a o e n⟩
theorem PT.tr {p : Addr} {Ts : List Addr} {H H1 H2 : Hp} (a : PT p Ts H H1) (b : PT p Ts H1 H2) : PT p Ts H H2 := ⟨b.1, fun c o e n m => b.2 c o (a.2 c o e n m) n m⟩
theorem tabs_but {H H' : Hp} {Ts : List Addr} {p c : Addr} {n : Nat} (t : TabsG Ts H) (pen : PenAt H p c n) (b : But p H H') : TabsG Ts H' := fun T hT => by
  obtain ⟨ps, e, ok⟩ := t T hT
  obtain ⟨kvs, ns', a', x', g1, _⟩ := pen.ex
  exact ⟨ps, b T _ e (ne_of e g1 (by intro z; cases z)), ok⟩
theorem PT.but {p c : Addr} {n : Nat} {Ts : List Addr} {H H' : Hp} (t : TabsG Ts H) (pen : PenAt H p c n) (b : But p H H') : PT p Ts H H' := ⟨tabs_but t pen b, fun a o e _ n => b a o e n⟩
theorem PT.same {p : Addr} {Ts : List Addr} {H H' : Hp} (t : TabsG Ts H) (s : Same H H') : PT p Ts H H' := .tb (.same t s)
theorem PT.tk {p c : Addr} {n : Nat} {Ts : List Addr} {H H' : Hp} (pen : PenAt H p c n) (t : PT p Ts H H') : TK H H' := fun a xs e => by
  obtain ⟨kvs, ns', a', x', g1, _⟩ := pen.ex
  exact t.2 a _ e (fun ps z => nomatch z) (ne_of e g1 (by intro z; cases z))
theorem PenAt.tb {p c : Addr} {n : Nat} {Ts : List Addr} {H H' : Hp} (pen : PenAt H p c n) (t : TB1 Ts H H') : PenAt H' p c n := by
  obtain ⟨kvs, ns, a, l, h1, h2, h3, h4, h5, h6, h7⟩ := pen.ex
  exact ⟨kvs, ns, a, l, t.dct h1, h2, h3, h4, h5, t.lst h6, h7⟩
theorem PT.tf {p c : Addr} {n : Nat} {Ts : List Addr} {H H' : Hp} (pen : PenAt H p c n) (t : PT p Ts H H') : TF H H' := ⟨t.tk pen, fun a o xs e => by
  obtain ⟨kvs, ns', a', x', g1, _⟩ := pen.ex
  exact t.2 a _ e (fun ps z => nomatch z) (ne_of e g1 (by intro z; cases z))⟩
abbrev w11 : List Str := ["come", "go", "come", "go", "go", "come", "move", "swap", "count", "some", "look"]
def spLaw (K : PySem.W.Frag) (Ts : List Addr) : Sp := fun vs H Q _ => ∃ (a : Addr) (ns : List Int), vs = [.ref a] ∧ SqL K H a (ns.map V.int) ∧ TabsG Ts H ∧ ∀ H', Q (.bl true) H'
section
variable {P : Program} {w : World} {K : PySem.W.Frag} {mg : Str → Option Value} {base : Heap}
abbrev sLawN : List Str := ["_law_script", "_law_pen_here", "_law_house_here", "_law_kept", "_law_good"]
theorem sc_sLaw : FnScope sLawN ["_law_script"] (defScope sLaw) := ⟨rfl, rfl, rfl, by decide +kernel, rfl, by decide +kernel, by decide +kernel⟩
set_option maxHeartbeats 8000000 in
theorem ok_law {f : Addr} {fd : FuncData} (F : Fun K "law" "law" sLaw f fd) {fP fH fD : Addr} {dP dH dD : FuncData} {Ts : List Addr}
    (GP : DefT P w K mg base "_law_pen" 1 fP dP ["_law_script"] (spPen K)) (HS : DefT P w K mg base "_law_house" 5 fH dH ["_law_pen_here", "_law_words"] spBHouse)
    (GD : DefT P w K mg base "_law_good_right" 6 fD dD ["_law_house_here", "_law_good"] (spGdR Ts))
    (mp : mg "repr" = none) : FnG P w K mg base 7 f fd ["_law_script"] (spLaw K Ts) := by
  refine Fun.okG F sc_sLaw (fun vs H Q E h => ?_) (fun cdv A outer s H vs Q E hG hr h => ?_)
  · obtain ⟨a, ns, rfl, _⟩ := h
    rfl
  · obtain ⟨a, ns, rfl, hS, tg, q⟩ := h
    have nd := sc_sLaw.nd
    have hr1 : Room 1 _ := hr.mono (by decide)
    have hr5 : Room 5 _ := hr.mono (by decide)
    refine ⟨_, pss_cons (ps_set (i := 1) nd rfl (Or.inl rfl) (pe_call GP.ok hr1 (by rfl) GP.g GP.kp GP.b .nil pass0 (pa_cons (pv 0) pa_nil)))
      (pss_cons (ps_set (i := 2) nd rfl (Or.inl rfl) (pe_call HS.ok hr5 (by rfl) HS.g HS.kp HS.b .nil pass0 (pa_cons (pv 1) (pa_cons (pe_lst (pa_cons pe_str (pa_cons pe_str (pa_cons pe_str (pa_cons pe_str (pa_cons pe_str (pa_cons pe_str (pa_cons pe_str (pa_cons pe_str (pa_cons pe_str (pa_cons pe_str (pa_cons pe_str pa_nil)))))))))))) pa_nil))))
      (pss_cons (ps_set (i := 3) nd rfl (Or.inl rfl) (pe_callB (cr_repr hG hr.units) (by rfl) mp (by decide +kernel) (pa_cons (pv 2) pa_nil)))
      (pss_cons (ps_for PassesOwn.never rfl (pi_tup (pe_ix ix_tup (pv 2) pe_int (fun _ _ => rfl))) (pg_name (i := 4) nd rfl (Or.inl rfl))
        (pss_one (ps_if (pt_not (pt_val (pe_call GD.ok hr (by rfl) GD.g GD.kp GD.b .nil pass0 (pa_cons (pv 2) (pa_cons (pv 4) pa_nil))))) (pss_one (ps_ret pe_bl)) pss_nil)))
      (pss_one (ps_ret (pe_cmpR op_eq (pe_callB (cr_repr hG hr.units) (by rfl) mp (by decide +kernel) (pa_cons (pv 2) pa_nil)) (pv 3) (nomark _))))))), ?_⟩
    refine ⟨_, rfl, a, ns, rfl, hS, fun p c H1 np nc pen1 sm1 => ?_⟩
    refine ⟨_, rfl, (by show 11 ≤ sizeLine; decide), fun wl nwl => ?_⟩
    have tg1 := tabs_sm sm1 tg
    have s2 := @same_new _ _ (.lst (w11.map V.str)) nwl
    have hw : StrsAt (upd H1 wl (.lst (w11.map V.str))) wl w11 := upd_same
    have pen2 := pen1.same s2
    have tg2 := tabs_sm s2 tg1
    refine ⟨p, c, _, wl, w11, rfl, pen2, by decide, hw, by decide, by decide, fun h Ps G es m H3 ho3 gd m30 pen3 bt3 => ?_⟩
    have tg3 := tabs_but tg2 pen2 bt3
    obtain ⟨hp, hg, he, tps, ob, g1, g2, g3, ⟨g4, g6⟩, g5⟩ := ho3.ex
    have sh := gd.short (by omega)
    refine ⟨_, rfl, h, _, rfl, ho3.dp, sh.sh, sh.nd, Nat.le_trans sh.dp (by decide), sh.fits (by decide), ?_⟩
    generalize hkt : (houseD Ps G es).shown = kt
    refine ⟨_, rfl, h, _, 1, _, rfl, rfl, SqT.of g1, atI_nat (j := 1) rfl, hg, rfl, ⟨_, SqT.of g3⟩, ?_⟩
    refine for_tup (K := K) (a := hg) (xs := G.map V.str) (fun i σ H' => ∃ y4, σ = [some (.ref a), some (.ref p), some (.ref h), some (.str kt), y4] ∧ TB1 Ts H3 H')
      ⟨_, rfl, .same tg3 fun _ _ z => z⟩ (fun i σ H' _ z => by obtain ⟨_, _, z⟩ := z; exact SqT.of (z.tk _ _ g3)) ?_ ?_
    · rintro i v σ H4 hv ⟨y4, rfl, t4⟩
      rw [List.getElem?_map] at hv
      obtain ⟨g, hgg, rfl⟩ := Option.map_eq_some_iff.mp hv
      exact ⟨_, rfl, _, rfl, h, Ps, G, es, m, g, rfl, ho3.on t4.tf, gd, m30, t4.1, fun H5 t5 => ⟨true, rfl, iteF ⟨_, rfl, t4.tr t5⟩⟩⟩
    · rintro σ H4 ⟨y4, rfl, t4⟩
      refine ⟨_, rfl, h, _, rfl, (ho3.on t4.tf).dp, sh.sh, sh.nd, Nat.le_trans sh.dp (by decide), sh.fits (by decide), _, rfl, rfl, ?_⟩
      rw [decide_eq_true (congrArg V.str hkt)]
      exact q H4
end
theorem tab_is {K : PySem.W.Frag} {x : Str} {f c T : Addr} {oc occ : Value} {od odc : Option Addr} {sl slc : Array (Option Value)} {fd : FuncData} {vs : Array Value}
    (a : PySem.W.nsIn K mainGlobals x = some (some (.ref f))) (l : K.lookup f = some ⟨oc, od, .func fd, sl⟩) (hc : fd.code = .ref c) (lc : K.lookup c = some ⟨occ, odc, .fields vs, slc⟩) (hv : (vs[11]? : Option Value) = some (.ref T)) :
    PySem.W.tabIn K x = some (c, T) := by
  unfold PySem.W.tabIn
  simp only [a, l, hc, lc, hv]
set_option maxHeartbeats 4000000 in
theorem all_mk {l : PySem.W.OpenLaw} {q : Program} {loose : List Str} {XP : (Str → Option Value) → Heap → Prop} {w : World} {s0 : Shared} {K : PySem.W.Frag} {h : Heap} {mg mb : Str → Option Value} {fa cN cG f1 f2 f3 f4 f5 f6 f7 f8 f9 f10 f11 f12 f13 f14 f15 f16 f18 f19 f20 f21 f22 f23 f28 c20 T20 c21 T21 : Addr} {dr20 : PySem.DefRec} {dr21 : PySem.DefRec}
    (G : PySem.W.Ground q loose [] XP w s0 mg mb h) (X : K.In h) (hfa : mg "law" = some (.ref fa))
    {od1 an1 od2 an2 od3 an3 od4 an4 od5 an5 od6 an6 od7 an7 od8 an8 od9 an9 od10 an10 od11 an11 od12 an12 od13 an13 od14 an14 od15 an15 od16 an16 od18 an18 od19 an19 od20 an20 odc20 od21 an21 odc21 od22 an22 od23 an23 od28 an28 : Option Addr} {sl1 sl2 sl3 sl4 sl5 sl6 sl7 sl8 sl9 sl10 sl11 sl12 sl13 sl14 sl15 sl16 sl18 sl19 sl20 slc20 sl21 slc21 sl22 sl23 sl28 : Array (Option Value)} {oc1 kV1 dc1 pm1 ct1 cd1 oc2 kV2 dc2 pm2 ct2 cd2 oc3 kV3 dc3 pm3 ct3 cd3 oc4 kV4 dc4 pm4 ct4 cd4 oc5 kV5 dc5 pm5 ct5 cd5 oc6 kV6 dc6 pm6 ct6 cd6 oc7 kV7 dc7 pm7 ct7 cd7 oc8 kV8 dc8 pm8 ct8 cd8 oc9 kV9 dc9 pm9 ct9 cd9 oc10 kV10 dc10 pm10 ct10 cd10 oc11 kV11 dc11 pm11 ct11 cd11 oc12 kV12 dc12 pm12 ct12 cd12 oc13 kV13 dc13 pm13 ct13 cd13 oc14 kV14 dc14 pm14 ct14 cd14 oc15 kV15 dc15 pm15 ct15 cd15 oc16 kV16 dc16 pm16 ct16 cd16 oc18 kV18 dc18 pm18 ct18 cd18 oc19 kV19 dc19 pm19 ct19 cd19 oc20 kV20 dc20 pm20 ct20 occ20 oc21 kV21 dc21 pm21 ct21 occ21 oc22 kV22 dc22 pm22 ct22 cd22 oc23 kV23 dc23 pm23 ct23 cd23 oc28 kV28 dc28 pm28 ct28 cd28 : Value}
    {vsc20 vsc21 : Array Value}
    (a1 : PySem.W.nsIn K mainGlobals "_law_pen" = some (some (.ref f1)))
    (l1 : K.lookup f1 = some ⟨oc1, od1, .func (PySem.W.fnOf "_law_pen" "_law_pen" (defArgs sPen) (defBody sPen) (defScope sPen) .none kV1 dc1 pm1 an1 cd1 ct1), sl1⟩)
    (c_1 : PySem.W.codeIn K cd1 "_law_pen" = true)
    (k1 : PySem.W.keepIn K (.ref f1) = true)
    (a2 : PySem.W.nsIn K mainGlobals "_law_take" = some (some (.ref f2)))
    (l2 : K.lookup f2 = some ⟨oc2, od2, .func (PySem.W.fnOf "_law_take" "_law_take" (defArgs sTake) (defBody sTake) (defScope sTake) .none kV2 dc2 pm2 an2 cd2 ct2), sl2⟩)
    (c_2 : PySem.W.codeIn K cd2 "_law_take" = true)
    (k2 : PySem.W.keepIn K (.ref f2) = true)
    (a3 : PySem.W.nsIn K mainGlobals "_law_namer" = some (some (.ref f3)))
    (l3 : K.lookup f3 = some ⟨oc3, od3, .func (PySem.W.fnOf "_law_namer" "_law_namer" (defArgs sNamer) (defBody sNamer) (defScope sNamer) .none kV3 dc3 pm3 an3 cd3 ct3), sl3⟩)
    (c_3 : PySem.W.codeIn K cd3 "_law_namer" = true)
    (k3 : PySem.W.keepIn K (.ref f3) = true)
    (a4 : PySem.W.nsIn K mainGlobals "_law_name" = some (some (.ref f4)))
    (l4 : K.lookup f4 = some ⟨oc4, od4, .func (PySem.W.fnOf "_law_name" "_law_name" (defArgs sName) (defBody sName) (defScope sName) .none kV4 dc4 pm4 an4 cd4 ct4), sl4⟩)
    (c_4 : PySem.W.codeIn K cd4 "_law_name" = true)
    (k4 : PySem.W.keepIn K (.ref f4) = true)
    (a5 : PySem.W.nsIn K mainGlobals "_law_many" = some (some (.ref f5)))
    (l5 : K.lookup f5 = some ⟨oc5, od5, .func (PySem.W.fnOf "_law_many" "_law_many" (defArgs sMany) (defBody sMany) (defScope sMany) .none kV5 dc5 pm5 an5 cd5 ct5), sl5⟩)
    (c_5 : PySem.W.codeIn K cd5 "_law_many" = true)
    (k5 : PySem.W.keepIn K (.ref f5) = true)
    (a6 : PySem.W.nsIn K mainGlobals "_law_moments" = some (some (.ref f6)))
    (l6 : K.lookup f6 = some ⟨oc6, od6, .func (PySem.W.fnOf "_law_moments" "_law_moments" (defArgs sMoments) (defBody sMoments) (defScope sMoments) .none kV6 dc6 pm6 an6 cd6 ct6), sl6⟩)
    (c_6 : PySem.W.codeIn K cd6 "_law_moments" = true)
    (k6 : PySem.W.keepIn K (.ref f6) = true)
    (a7 : PySem.W.nsIn K mainGlobals "_law_entry" = some (some (.ref f7)))
    (l7 : K.lookup f7 = some ⟨oc7, od7, .func (PySem.W.fnOf "_law_entry" "_law_entry" (defArgs sEntry) (defBody sEntry) (defScope sEntry) .none kV7 dc7 pm7 an7 cd7 ct7), sl7⟩)
    (c_7 : PySem.W.codeIn K cd7 "_law_entry" = true)
    (k7 : PySem.W.keepIn K (.ref f7) = true)
    (a8 : PySem.W.nsIn K mainGlobals "_law_order" = some (some (.ref f8)))
    (l8 : K.lookup f8 = some ⟨oc8, od8, .func (PySem.W.fnOf "_law_order" "_law_order" (defArgs sOwn) (defBody sOwn) (defScope sOwn) .none kV8 dc8 pm8 an8 cd8 ct8), sl8⟩)
    (c_8 : PySem.W.codeIn K cd8 "_law_order" = true)
    (k8 : PySem.W.keepIn K (.ref f8) = true)
    (a9 : PySem.W.nsIn K mainGlobals "_law_done" = some (some (.ref f9)))
    (l9 : K.lookup f9 = some ⟨oc9, od9, .func (PySem.W.fnOf "_law_done" "_law_done" (defArgs sDone) (defBody sDone) (defScope sDone) .none kV9 dc9 pm9 an9 cd9 ct9), sl9⟩)
    (c_9 : PySem.W.codeIn K cd9 "_law_done" = true)
    (k9 : PySem.W.keepIn K (.ref f9) = true)
    (a10 : PySem.W.nsIn K mainGlobals "_law_told" = some (some (.ref f10)))
    (l10 : K.lookup f10 = some ⟨oc10, od10, .func (PySem.W.fnOf "_law_told" "_law_told" (defArgs sTold) (defBody sTold) (defScope sTold) .none kV10 dc10 pm10 an10 cd10 ct10), sl10⟩)
    (c_10 : PySem.W.codeIn K cd10 "_law_told" = true)
    (k10 : PySem.W.keepIn K (.ref f10) = true)
    (a11 : PySem.W.nsIn K mainGlobals "_law_counted" = some (some (.ref f11)))
    (l11 : K.lookup f11 = some ⟨oc11, od11, .func (PySem.W.fnOf "_law_counted" "_law_counted" (defArgs sLCounted) (defBody sLCounted) (defScope sLCounted) .none kV11 dc11 pm11 an11 cd11 ct11), sl11⟩)
    (c_11 : PySem.W.codeIn K cd11 "_law_counted" = true)
    (k11 : PySem.W.keepIn K (.ref f11) = true)
    (a12 : PySem.W.nsIn K mainGlobals "_law_house" = some (some (.ref f12)))
    (l12 : K.lookup f12 = some ⟨oc12, od12, .func (PySem.W.fnOf "_law_house" "_law_house" (defArgs sHouse) (defBody sHouse) (defScope sHouse) .none kV12 dc12 pm12 an12 cd12 ct12), sl12⟩)
    (c_12 : PySem.W.codeIn K cd12 "_law_house" = true)
    (k12 : PySem.W.keepIn K (.ref f12) = true)
    (a13 : PySem.W.nsIn K mainGlobals "good_of" = some (some (.ref f13)))
    (l13 : K.lookup f13 = some ⟨oc13, od13, .func (PySem.W.fnOf "good_of" "good_of" (defArgs sGood) (defBody sGood) (defScope sGood) .none kV13 dc13 pm13 an13 cd13 ct13), sl13⟩)
    (c_13 : PySem.W.codeIn K cd13 "good_of" = true)
    (k13 : PySem.W.keepIn K (.ref f13) = true)
    (a14 : PySem.W.nsIn K mainGlobals "lots_behind" = some (some (.ref f14)))
    (l14 : K.lookup f14 = some ⟨oc14, od14, .func (PySem.W.fnOf "lots_behind" "lots_behind" (defArgs sLotsB) (defBody sLotsB) (defScope sLotsB) .none kV14 dc14 pm14 an14 cd14 ct14), sl14⟩)
    (c_14 : PySem.W.codeIn K cd14 "lots_behind" = true)
    (k14 : PySem.W.keepIn K (.ref f14) = true)
    (a15 : PySem.W.nsIn K mainGlobals "lots_with" = some (some (.ref f15)))
    (l15 : K.lookup f15 = some ⟨oc15, od15, .func (PySem.W.fnOf "lots_with" "lots_with" (defArgs sLotsW) (defBody sLotsW) (defScope sLotsW) .none kV15 dc15 pm15 an15 cd15 ct15), sl15⟩)
    (c_15 : PySem.W.codeIn K cd15 "lots_with" = true)
    (k15 : PySem.W.keepIn K (.ref f15) = true)
    (a16 : PySem.W.nsIn K mainGlobals "taken_from" = some (some (.ref f16)))
    (l16 : K.lookup f16 = some ⟨oc16, od16, .func (PySem.W.fnOf "taken_from" "taken_from" (defArgs sTaken) (defBody sTaken) (defScope sTaken) .none kV16 dc16 pm16 an16 cd16 ct16), sl16⟩)
    (c_16 : PySem.W.codeIn K cd16 "taken_from" = true)
    (k16 : PySem.W.keepIn K (.ref f16) = true)
    (a18 : PySem.W.nsIn K mainGlobals "entry_called" = some (some (.ref f18)))
    (l18 : K.lookup f18 = some ⟨oc18, od18, .func (PySem.W.fnOf "entry_called" "entry_called" (defArgs sCalled) (defBody sCalled) (defScope sCalled) .none kV18 dc18 pm18 an18 cd18 ct18), sl18⟩)
    (c_18 : PySem.W.codeIn K cd18 "entry_called" = true)
    (k18 : PySem.W.keepIn K (.ref f18) = true)
    (a19 : PySem.W.nsIn K mainGlobals "taken_by" = some (some (.ref f19)))
    (l19 : K.lookup f19 = some ⟨oc19, od19, .func (PySem.W.fnOf "taken_by" "taken_by" (defArgs sTakenBy) (defBody sTakenBy) (defScope sTakenBy) .none kV19 dc19 pm19 an19 cd19 ct19), sl19⟩)
    (c_19 : PySem.W.codeIn K cd19 "taken_by" = true)
    (k19 : PySem.W.keepIn K (.ref f19) = true)
    (a20 : PySem.W.nsIn K mainGlobals "cost_of" = some (some (.ref f20)))
    (l20 : K.lookup f20 = some ⟨oc20, od20, .func (PySem.W.fnOf "cost_of" "cost_of" (defArgs sCost) (defBody sCost) (defScope sCost) .none kV20 dc20 pm20 an20 (.ref c20) ct20), sl20⟩)
    (c_20 : PySem.W.codeIn K (.ref c20) "cost_of" = true)
    (k20 : PySem.W.keepIn K (.ref f20) = true)
    (lc20 : K.lookup c20 = some ⟨occ20, odc20, .fields vsc20, slc20⟩)
    (hv20 : (vsc20[11]? : Option Value) = some (.ref T20))
    (nT20 : K.lookup T20 = none)
    (r20 : (PyProof.Rows.recsOf q).find? (fun e => e.name == ("cost_of" : Str)) = some dr20)
    (a21 : PySem.W.nsIn K mainGlobals "worth_behind" = some (some (.ref f21)))
    (l21 : K.lookup f21 = some ⟨oc21, od21, .func (PySem.W.fnOf "worth_behind" "worth_behind" (defArgs sWorth) (defBody sWorth) (defScope sWorth) .none kV21 dc21 pm21 an21 (.ref c21) ct21), sl21⟩)
    (c_21 : PySem.W.codeIn K (.ref c21) "worth_behind" = true)
    (k21 : PySem.W.keepIn K (.ref f21) = true)
    (lc21 : K.lookup c21 = some ⟨occ21, odc21, .fields vsc21, slc21⟩)
    (hv21 : (vsc21[11]? : Option Value) = some (.ref T21))
    (nT21 : K.lookup T21 = none)
    (r21 : (PyProof.Rows.recsOf q).find? (fun e => e.name == ("worth_behind" : Str)) = some dr21)
    (a22 : PySem.W.nsIn K mainGlobals "_law_go_right" = some (some (.ref f22)))
    (l22 : K.lookup f22 = some ⟨oc22, od22, .func (PySem.W.fnOf "_law_go_right" "_law_go_right" (defArgs sGoR) (defBody sGoR) (defScope sGoR) .none kV22 dc22 pm22 an22 cd22 ct22), sl22⟩)
    (c_22 : PySem.W.codeIn K cd22 "_law_go_right" = true)
    (k22 : PySem.W.keepIn K (.ref f22) = true)
    (a23 : PySem.W.nsIn K mainGlobals "_law_good_right" = some (some (.ref f23)))
    (l23 : K.lookup f23 = some ⟨oc23, od23, .func (PySem.W.fnOf "_law_good_right" "_law_good_right" (defArgs sGdR) (defBody sGdR) (defScope sGdR) .none kV23 dc23 pm23 an23 cd23 ct23), sl23⟩)
    (c_23 : PySem.W.codeIn K cd23 "_law_good_right" = true)
    (k23 : PySem.W.keepIn K (.ref f23) = true)
    (a28 : PySem.W.nsIn K mainGlobals "law" = some (some (.ref f28)))
    (l28 : K.lookup f28 = some ⟨oc28, od28, .func (PySem.W.fnOf "law" "law" (defArgs sLaw) (defBody sLaw) (defScope sLaw) .none kV28 dc28 pm28 an28 cd28 ct28), sl28⟩)
    (c_28 : PySem.W.codeIn K cd28 "law" = true)
    (k28 : PySem.W.keepIn K (.ref f28) = true)
    (ne2021 : T20 ≠ T21)
    (HN : PySem.W.nsIn K mainGlobals "NoName" = some (some (.ref cN)))
    (HG : PySem.W.nsIn K mainGlobals "NoGo" = some (some (.ref cG)))
    (exN : PySem.W.excIn K cN [.type "ValueError", .type "Exception", .type "BaseException", .type "object"] "ValueError.__new__" = true)
    (kpN : PySem.W.keepIn K (.ref cN) = true)
    (sbN : PySem.W.subIn K (.ref cN) (.type "BaseException") = some true)
    (tyN : PySem.W.typeIn K (.ref cN) = some (.type "type"))
    (exG : PySem.W.excIn K cG [.type "ValueError", .type "Exception", .type "BaseException", .type "object"] "ValueError.__new__" = true)
    (kpG : PySem.W.keepIn K (.ref cG) = true)
    (sbG : PySem.W.subIn K (.ref cG) (.type "BaseException") = some true)
    (tyG : PySem.W.typeIn K (.ref cG) = some (.type "type"))
    (y_len : PySem.W.nsIn K mainGlobals "len" = some none)
    (y_abs : PySem.W.nsIn K mainGlobals "abs" = some none)
    (y_list : PySem.W.nsIn K mainGlobals "list" = some none)
    (y_range : PySem.W.nsIn K mainGlobals "range" = some none)
    (y_int : PySem.W.nsIn K mainGlobals "int" = some none)
    (y_sorted : PySem.W.nsIn K mainGlobals "sorted" = some none)
    (y_tuple : PySem.W.nsIn K mainGlobals "tuple" = some none)
    (y_repr : PySem.W.nsIn K mainGlobals "repr" = some none)
    (y_max : PySem.W.nsIn K mainGlobals "max" = some none)
    (y_min : PySem.W.nsIn K mainGlobals "min" = some none)
    (y_sum : PySem.W.nsIn K mainGlobals "sum" = some none)
    (y_enumerate : PySem.W.nsIn K mainGlobals "enumerate" = some none)
    (y_dict : PySem.W.nsIn K mainGlobals "dict" = some none) :
    LawG l w K 7 63 "_law_script" mg fa h := by
  have Gg := G.T.g
  have e := hfa.symm.trans (PySem.W.mg_of X Gg a28)
  cases e
  have n_len := PySem.W.mg_none_of X Gg y_len
  have n_abs := PySem.W.mg_none_of X Gg y_abs
  have n_list := PySem.W.mg_none_of X Gg y_list
  have n_range := PySem.W.mg_none_of X Gg y_range
  have n_int := PySem.W.mg_none_of X Gg y_int
  have n_sorted := PySem.W.mg_none_of X Gg y_sorted
  have n_tuple := PySem.W.mg_none_of X Gg y_tuple
  have n_repr := PySem.W.mg_none_of X Gg y_repr
  have n_max := PySem.W.mg_none_of X Gg y_max
  have n_min := PySem.W.mg_none_of X Gg y_min
  have n_sum := PySem.W.mg_none_of X Gg y_sum
  have n_enumerate := PySem.W.mg_none_of X Gg y_enumerate
  have n_dict := PySem.W.mg_none_of X Gg y_dict
  have F1 := fun_mk (st := sPen) l1 c_1 k1
  have b1 := F1.binds (ps := ["_law_script"]) fun _ _ _ _ _ _ us hl => match us, hl with | [_], _ => rfl
  have g1 := PySem.W.mg_of X Gg a1
  have F2 := fun_mk (st := sTake) l2 c_2 k2
  have b2 := F2.binds (ps := ["_law_pen_here", "_law_many_here"]) fun _ _ _ _ _ _ us hl => match us, hl with | [_, _], _ => rfl
  have g2 := PySem.W.mg_of X Gg a2
  have F3 := fun_mk (st := sNamer) l3 c_3 k3
  have b3 := F3.binds (ps := ["_law_pen_here", "_law_most"]) fun _ _ _ _ _ _ us hl => match us, hl with | [_, _], _ => rfl
  have g3 := PySem.W.mg_of X Gg a3
  have F4 := fun_mk (st := sName) l4 c_4 k4
  have b4 := F4.binds (ps := ["_law_namer_here", "_law_k"]) fun _ _ _ _ _ _ us hl => match us, hl with | [_, _], _ => rfl
  have g4 := PySem.W.mg_of X Gg a4
  have F5 := fun_mk (st := sMany) l5 c_5 k5
  have b5 := F5.binds (ps := ["_law_pen_here"]) fun _ _ _ _ _ _ us hl => match us, hl with | [_], _ => rfl
  have g5 := PySem.W.mg_of X Gg a5
  have F6 := fun_mk (st := sMoments) l6 c_6 k6
  have b6 := F6.binds (ps := ["_law_pen_here"]) fun _ _ _ _ _ _ us hl => match us, hl with | [_], _ => rfl
  have g6 := PySem.W.mg_of X Gg a6
  have F7 := fun_mk (st := sEntry) l7 c_7 k7
  have b7 := F7.binds (ps := ["_law_pen_here", "_law_world", "_law_name_here", "_law_word"]) fun _ _ _ _ _ _ us hl => match us, hl with | [_, _, _, _], _ => rfl
  have g7 := PySem.W.mg_of X Gg a7
  have F8 := fun_mk (st := sOwn) l8 c_8 k8
  have b8 := F8.binds (ps := ["_law_entry_here"]) fun _ _ _ _ _ _ us hl => match us, hl with | [_], _ => rfl
  have g8 := PySem.W.mg_of X Gg a8
  have F9 := fun_mk (st := sDone) l9 c_9 k9
  have b9 := F9.binds (ps := ["_law_pen_here", "_law_stock", "_law_entry_here", "_law_goods"]) fun _ _ _ _ _ _ us hl => match us, hl with | [_, _, _, _], _ => rfl
  have g9 := PySem.W.mg_of X Gg a9
  have F10 := fun_mk (st := sTold) l10 c_10 k10
  have b10 := F10.binds (ps := ["_law_pen_here", "_law_many_here", "_law_spoilt"]) fun _ _ _ _ _ _ us hl => match us, hl with | [_, _, _], _ => rfl
  have g10 := PySem.W.mg_of X Gg a10
  have F11 := fun_mk (st := sLCounted) l11 c_11 k11
  have b11 := F11.binds (ps := ["_law_pen_here", "_law_house_here", "_law_spoilt"]) fun _ _ _ _ _ _ us hl => match us, hl with | [_, _, _], _ => rfl
  have g11 := PySem.W.mg_of X Gg a11
  have F12 := fun_mk (st := sHouse) l12 c_12 k12
  have b12 := F12.binds (ps := ["_law_pen_here", "_law_words"]) fun _ _ _ _ _ _ us hl => match us, hl with | [_, _], _ => rfl
  have g12 := PySem.W.mg_of X Gg a12
  have F13 := fun_mk (st := sGood) l13 c_13 k13
  have b13 := F13.binds (ps := ["entry"]) fun _ _ _ _ _ _ us hl => match us, hl with | [_], _ => rfl
  have g13 := PySem.W.mg_of X Gg a13
  have F14 := fun_mk (st := sLotsB) l14 c_14 k14
  have b14 := F14.binds (ps := ["house", "good", "at"]) fun _ _ _ _ _ _ us hl => match us, hl with | [_, _, _], _ => rfl
  have g14 := PySem.W.mg_of X Gg a14
  have F15 := fun_mk (st := sLotsW) l15 c_15 k15
  have b15 := F15.binds (ps := ["lots", "entry"]) fun _ _ _ _ _ _ us hl => match us, hl with | [_, _], _ => rfl
  have g15 := PySem.W.mg_of X Gg a15
  have F16 := fun_mk (st := sTaken) l16 c_16 k16
  have b16 := F16.binds (ps := ["lots", "many"]) fun _ _ _ _ _ _ us hl => match us, hl with | [_, _], _ => rfl
  have g16 := PySem.W.mg_of X Gg a16
  have F18 := fun_mk (st := sCalled) l18 c_18 k18
  have b18 := F18.binds (ps := ["house", "name"]) fun _ _ _ _ _ _ us hl => match us, hl with | [_, _], _ => rfl
  have g18 := PySem.W.mg_of X Gg a18
  have F19 := fun_mk (st := sTakenBy) l19 c_19 k19
  have b19 := F19.binds (ps := ["house", "name"]) fun _ _ _ _ _ _ us hl => match us, hl with | [_, _], _ => rfl
  have g19 := PySem.W.mg_of X Gg a19
  have F20 := fun_mk (st := sCost) l20 c_20 k20
  have b20 := F20.binds (ps := ["house", "name"]) fun _ _ _ _ _ _ us hl => match us, hl with | [_, _], _ => rfl
  have g20 := PySem.W.mg_of X Gg a20
  have F21 := fun_mk (st := sWorth) l21 c_21 k21
  have b21 := F21.binds (ps := ["house", "good", "at"]) fun _ _ _ _ _ _ us hl => match us, hl with | [_, _, _], _ => rfl
  have g21 := PySem.W.mg_of X Gg a21
  have F22 := fun_mk (st := sGoR) l22 c_22 k22
  have b22 := F22.binds (ps := ["_law_house_here", "_law_entry_here", "_law_at"]) fun _ _ _ _ _ _ us hl => match us, hl with | [_, _, _], _ => rfl
  have g22 := PySem.W.mg_of X Gg a22
  have F23 := fun_mk (st := sGdR) l23 c_23 k23
  have b23 := F23.binds (ps := ["_law_house_here", "_law_good"]) fun _ _ _ _ _ _ us hl => match us, hl with | [_, _], _ => rfl
  have g23 := PySem.W.mg_of X Gg a23
  have F28 := fun_mk (st := sLaw) l28 c_28 k28
  have t20 := tab_is a20 l20 rfl lc20 hv20
  obtain ⟨hd20, tb20⟩ := PySem.W.tab_of G.T X r20 t20
  have t21 := tab_is a21 l21 rfl lc21 hv21
  obtain ⟨hd21, tb21⟩ := PySem.W.tab_of G.T X r21 t21

  refine ⟨PySem.W.fnOf "law" "law" (defArgs sLaw) (defBody sLaw) (defScope sLaw) .none kV28 dc28 pm28 an28 cd28 ct28, [(c20, T20), (c21, T21)], spLaw K [T20, T21], ⟨fun p hp => ?_, fun p hp => ?_, fun p hp => ?_⟩, fun s v => .of_eq rfl, fun H a ns hlen hT hS => ?_, fun base _ _ TB => ?_⟩
  · simp only [List.mem_cons, List.not_mem_nil, or_false] at hp
    rcases hp with rfl | rfl
    · exact tb20
    · exact tb21
  · simp only [List.mem_cons, List.not_mem_nil, or_false] at hp
    rcases hp with rfl | rfl
    · exact nT20
    · exact nT21
  · simp only [List.mem_cons, List.not_mem_nil, or_false] at hp
    rcases hp with rfl | rfl
    · exact hd20
    · exact hd21
  · refine ⟨a, ns, rfl, hS, fun T zT => ?_, fun _ => rfl⟩
    simp only [List.mem_cons, List.not_mem_nil, or_false] at zT
    rcases zT with rfl | rfl
    · exact ⟨#[], hT (c20, _) (by simp), trivial⟩
    · exact ⟨#[], hT (c21, _) (by simp), trivial⟩
  · have B20 := TB (c20, T20) (by simp)
    have B21 := TB (c21, T21) (by simp)
    have TT : TakeT l.prog w K mg base f2 _ := ⟨ok_take F2 n_len n_abs, g2, k2, b2⟩
    have NR : DefT l.prog w K mg base "_law_namer" 2 f3 _ _ spNamer := ⟨ok_namer F3 TT n_len n_range, g3, k3, b3⟩
    have NM : DefT l.prog w K mg base "_law_name" 1 f4 _ _ spName := ⟨ok_name F4, g4, k4, b4⟩
    have MY : DefT l.prog w K mg base "_law_many" 2 f5 _ _ spMany := ⟨ok_many F5 TT, g5, k5, b5⟩
    have MO : DefT l.prog w K mg base "_law_moments" 2 f6 _ _ spMoms := ⟨ok_moms F6 TT n_range, g6, k6, b6⟩
    have EN : DefT l.prog w K mg base "_law_entry" 3 f7 _ _ spEnt := ⟨ok_ent F7 TT MY n_len n_max n_int, g7, k7, b7⟩
    have OD : DefT l.prog w K mg base "_law_order" 1 f8 _ _ spOrd := ⟨ok_own F8, g8, k8, b8⟩
    have DO : DefT l.prog w K mg base "_law_done" 2 f9 _ _ spDone := ⟨ok_done F9 TT, g9, k9, b9⟩
    have TO : DefT l.prog w K mg base "_law_told" 3 f10 _ _ spTold := ⟨ok_told F10 TT MY n_min n_max, g10, k10, b10⟩
    have LC : DefT l.prog w K mg base "_law_counted" 4 f11 _ _ spLCnt := ⟨ok_lcnt F11 TT DO TO n_tuple, g11, k11, b11⟩
    have HS : DefT l.prog w K mg base "_law_house" 5 f12 _ _ spBHouse := ⟨ok_bhouse F12 TT NR NM MO EN OD LC n_range n_sorted n_tuple n_len n_int, g12, k12, b12⟩
    have GO : DefT l.prog w K mg base "good_of" 1 f13 _ _ spGood := ⟨ok_good F13, g13, k13, b13⟩
    have TF : DefT l.prog w K mg base "taken_from" 1 f16 _ _ spTaken := ⟨ok_taken F16 n_min, g16, k16, b16⟩
    have LW : DefT l.prog w K mg base "lots_with" 2 f15 _ _ spLotsW := ⟨ok_lotsW F15 TF, g15, k15, b15⟩
    have LB : DefT l.prog w K mg base "lots_behind" 3 f14 _ _ spLotsB := ⟨ok_lotsB F14 GO LW, g14, k14, b14⟩
    
    have EN : Err K mg "NoName" cN := ⟨PySem.W.mg_of X Gg HN, exN, kpN, sbN, tyN⟩
    have EG : Err K mg "NoGo" cG := ⟨PySem.W.mg_of X Gg HG, exG, kpG, sbG, tyG⟩
    have EC : DefX l.prog w K mg base "entry_called" 1 f18 _ _ (spCalled K cN) := ⟨ok_called F18 EN, g18, k18, b18⟩
    have TBY : DefX l.prog w K mg base "taken_by" 4 f19 _ _ (spTakenBy K cN cG) := ⟨ok_takenBy F19 EC TF LB GO EG, g19, k19, b19⟩
    have CO : DefX l.prog w K mg base "cost_of" 5 f20 _ _ (spCost K cN cG [T20, T21]) := ⟨ok_cost l20 c_20 ⟨B20.code, B20.bm, B20.gP⟩ (by simp) TBY EC n_sum, g20, k20, b20⟩
    have WB : DefT l.prog w K mg base "worth_behind" 4 f21 _ _ (spWorth [T20, T21]) := ⟨ok_worth l21 c_21 ⟨B21.code, B21.bm, B21.gP⟩ (by simp) LB n_sum, g21, k21, b21⟩
    have GR : DefT l.prog w K mg base "_law_go_right" 5 f22 _ _ spGoR := ⟨ok_goR F22 LB TBY n_sum n_len, g22, k22, b22⟩
    have GD : DefT l.prog w K mg base "_law_good_right" 6 f23 _ _ (spGdR [T20, T21]) := ⟨ok_gdR F23 LB TBY CO WB GR n_enumerate n_dict n_len, g23, k23, b23⟩
    exact ok_law F28 ⟨ok_pen F1 n_list, g1, k1, b1⟩ HS GD n_repr
end Shelf
open PySem PySem.W PyProof.Rows
set_option maxHeartbeats 0 in
theorem PySem.Challenge.cw_shelfcounts_k63_whole_all_worth_is_somew_holds : PySem.Challenge.rw_shelfcounts_k63_whole_all_worth_is_somew.Holds := by
  w_on; o_law; k_head; (case hw => w_witness2)
  k_fill
  refine Shelf.end_G (l := PySem.Challenge.rw_shelfcounts_k63_whole_all_worth_is_somew) (n := 63) (k := 7) (x := "_law_script") rfl (by decide) rfl ⟨rfl, by decide, by decide⟩ (fun w h Y => PySem.W.kIn_of Y) ?F
  case F =>
    intro w s0 mg mb fa h G KX hmg
    refine' Shelf.all_mk G KX hmg ?a1 ?l1 ?c_1 ?k1 ?a2 ?l2 ?c_2 ?k2 ?a3 ?l3 ?c_3 ?k3 ?a4 ?l4 ?c_4 ?k4 ?a5 ?l5 ?c_5 ?k5 ?a6 ?l6 ?c_6 ?k6 ?a7 ?l7 ?c_7 ?k7 ?a8 ?l8 ?c_8 ?k8 ?a9 ?l9 ?c_9 ?k9 ?a10 ?l10 ?c_10 ?k10 ?a11 ?l11 ?c_11 ?k11 ?a12 ?l12 ?c_12 ?k12 ?a13 ?l13 ?c_13 ?k13 ?a14 ?l14 ?c_14 ?k14 ?a15 ?l15 ?c_15 ?k15 ?a16 ?l16 ?c_16 ?k16 ?a18 ?l18 ?c_18 ?k18 ?a19 ?l19 ?c_19 ?k19 ?a20 ?l20 ?c_20 ?k20 ?lc20 ?hv20 ?nT20 ?r20 ?a21 ?l21 ?c_21 ?k21 ?lc21 ?hv21 ?nT21 ?r21 ?a22 ?l22 ?c_22 ?k22 ?a23 ?l23 ?c_23 ?k23 ?a28 ?l28 ?c_28 ?k28 ?ne2021 ?HN ?HG ?exN ?kpN ?sbN ?tyN ?exG ?kpG ?sbG ?tyG ?y_len ?y_abs ?y_list ?y_range ?y_int ?y_sorted ?y_tuple ?y_repr ?y_max ?y_min ?y_sum ?y_enumerate ?y_dict
    (case a1 => k_is); (case l1 => k_is); (case c_1 => k_is); (case k1 => k_is); (case a2 => k_is); (case l2 => k_is)
    (case c_2 => k_is); (case k2 => k_is); (case a3 => k_is); (case l3 => k_is); (case c_3 => k_is); (case k3 => k_is)
    (case a4 => k_is); (case l4 => k_is); (case c_4 => k_is); (case k4 => k_is); (case a5 => k_is); (case l5 => k_is)
    (case c_5 => k_is); (case k5 => k_is); (case a6 => k_is); (case l6 => k_is); (case c_6 => k_is); (case k6 => k_is)
    (case a7 => k_is); (case l7 => k_is); (case c_7 => k_is); (case k7 => k_is); (case a8 => k_is); (case l8 => k_is)
    (case c_8 => k_is); (case k8 => k_is); (case a9 => k_is); (case l9 => k_is); (case c_9 => k_is); (case k9 => k_is)
    (case a10 => k_is); (case l10 => k_is); (case c_10 => k_is); (case k10 => k_is); (case a11 => k_is); (case l11 => k_is)
    (case c_11 => k_is); (case k11 => k_is); (case a12 => k_is); (case l12 => k_is); (case c_12 => k_is); (case k12 => k_is)
    (case a13 => k_is); (case l13 => k_is); (case c_13 => k_is); (case k13 => k_is); (case a14 => k_is); (case l14 => k_is)
    (case c_14 => k_is); (case k14 => k_is); (case a15 => k_is); (case l15 => k_is); (case c_15 => k_is); (case k15 => k_is)
    (case a16 => k_is); (case l16 => k_is); (case c_16 => k_is); (case k16 => k_is); (case a18 => k_is); (case l18 => k_is)
    (case c_18 => k_is); (case k18 => k_is); (case a19 => k_is); (case l19 => k_is); (case c_19 => k_is); (case k19 => k_is)
    (case a20 => k_is); (case l20 => k_is); (case c_20 => k_is); (case k20 => k_is); (case lc20 => k_is); (case hv20 => rfl)
    (case nT20 => kernel_rfl); (case r20 => rfl); (case a21 => k_is); (case l21 => k_is); (case c_21 => k_is); (case k21 => k_is)
    (case lc21 => k_is); (case hv21 => rfl); (case nT21 => kernel_rfl); (case r21 => rfl); (case a22 => k_is); (case l22 => k_is)
    (case c_22 => k_is); (case k22 => k_is); (case a23 => k_is); (case l23 => k_is); (case c_23 => k_is); (case k23 => k_is)
    (case a28 => k_is); (case l28 => k_is); (case c_28 => k_is); (case k28 => k_is); (case ne2021 => decide); (case HN => k_is)
    (case HG => k_is); (case exN => k_exc); (case kpN => k_is); (case sbN => k_is); (case tyN => k_is); (case exG => k_exc)
    (case kpG => k_is); (case sbG => k_is); (case tyG => k_is); (case y_len => k_is); (case y_abs => k_is); (case y_list => k_is)
    (case y_range => k_is); (case y_int => k_is); (case y_sorted => k_is); (case y_tuple => k_is); (case y_repr => k_is); (case y_max => k_is)
    (case y_min => k_is); (case y_sum => k_is); (case y_enumerate => k_is); (case y_dict => k_is)

import PyProof.Rows.All
import Wide.All
import OpenK.AllK
import Wide.FinOn
import HandS.ForMost
import HandS.AnyAll
import HandS.IsInst
import HandS.Style
import HandS.EndTab
import HandS.Codes
import HandS.GenOver
import HandS.Strs
import HandS.Zip
import HandS.Walk
import HandS.More
import KE.KEqSeq
import HandS.SortKw
import HandS.Keys
import HandS.ExcValue
import HandS.TupAny
import HandS.DictComp
import KE.SortKeyHeap
import KE.KRevSl
import PyProof.DictUpdate
import PyProof.DictDisplay
import PyProof.DictValues
import HandS.SetTxt0
import HandS.Set
import KE.KDictList
import PyProof.MeetsDict
import PySem.Challenge.RW_shelfcounts_k04_houses_made
import HandS.Conv
set_option Elab.async false
set_option linter.all false
set_option maxRecDepth 100000
namespace Shelf
open PySem PySem.Spec PyProof.Rows L2
def topS (i : Nat) : Stmt := PySem.Challenge.pw_shelfcounts_k04_houses_made.main.body.getD i (.Pass ⟨0, 0, 0, 0⟩)
abbrev sName : Stmt := topS 3
abbrev sWhole : Stmt := topS 4
abbrev sIsEntry : Stmt := topS 9
abbrev sFits : Stmt := topS 10
abbrev sIsEntryOf : Stmt := topS 11
abbrev sGood : Stmt := topS 12
abbrev sPlacesOf : Stmt := topS 13
abbrev sOrd : Stmt := topS 14
abbrev sHouseOf : Stmt := topS 22
abbrev sRising : Stmt := topS 23
abbrev sOwnEnts : Stmt := topS 24
abbrev sInOrder : Stmt := topS 25
abbrev sPen : Stmt := topS 27
abbrev sTake : Stmt := topS 28
abbrev sNames : Stmt := topS 29
abbrev sWords : Stmt := topS 30
abbrev sMoments : Stmt := topS 31
abbrev sMany : Stmt := topS 32
abbrev sEntryOf : Stmt := topS 33
abbrev sEntry : Stmt := topS 34
abbrev sOwn : Stmt := topS 35
abbrev sMixed : Stmt := topS 36
abbrev sRight : Stmt := topS 37
abbrev sLaw : Stmt := topS 38
/-! ### the pen: what a script is drawn from -/
theorem same_new {H : Hp} {p : Addr} {o : HO} (h : H p = none) : Same H (upd H p o) := fun b x e => (upd_ne (ne_of_none e h)).trans e
/-- all but the object at p is as it was -/
def But (p : Addr) (H H' : Hp) : Prop := ∀ b o, H b = some o → b ≠ p → H' b = some o
theorem But.refl (p : Addr) (H : Hp) : But p H H := fun _ _ e _ => e
theorem But.of {p : Addr} {H H' : Hp} (h : Same H H') : But p H H' := fun b o e _ => h b o e
theorem But.tr {p : Addr} {H H1 H2 : Hp} (a : But p H H1) (b : But p H1 H2) : But p H H2 := fun c o e n => b c o (a c o e n) n
theorem But.to {p : Addr} {H H1 : Hp} (a : But p H H1) {l : Addr} {o : HO} (h : H l = none) (n : H p ≠ none) : But p H (upd H1 l o) := fun c u e nc => (upd_ne (ne_of_none e h)).trans (a c u e nc)
theorem dget_s {H : Hp} {p : Addr} {kvs : List (Key × V)} {x : Str} {v : V} (h : H p = some (.dK kvs)) (e : valV kvs (Sum.inr x) = some v) : DGet H p (.str x) (some v) := .inl ⟨kvs, Sum.inr x, .inl h, rfl, e.symm⟩
theorem dput_s {H : Hp} {p : Addr} {kvs : List (Key × V)} {x : Str} {v : V} (h : H p = some (.dK kvs)) (hl : kvs.length < sizeLine) : DPut H p (.str x) v (upd H p (.dK (putK kvs (Sum.inr x) v))) := .inl ⟨kvs, Sum.inr x, h, rfl, hl, rfl⟩
theorem put_len {kvs : List (Key × V)} {k : Key} {v u : V} (e : valV kvs k = some u) : (putK kvs k v).length = kvs.length := by
  have h := valV_any k kvs
  rw [e] at h
  have h' : (kvs.any fun kv => decide (kv.1 = k)) = true := h
  unfold putK
  rw [if_pos h', List.length_map]
abbrev kCells : Key := Sum.inr "cells"
abbrev kAt : Key := Sum.inr "at"
abbrev kLeft : Key := Sum.inr "left"
theorem nCA : ¬ kCells = kAt := by decide +kernel
theorem nCL : ¬ kCells = kLeft := by decide +kernel
theorem nAL : ¬ kAt = kLeft := by decide +kernel
theorem nLA : ¬ kLeft = kAt := by decide +kernel
/-- a pen stands at p, its cells at c; at most n have been drawn -/
structure PenAt (H : Hp) (p c : Addr) (n : Nat) : Prop where
  ex : ∃ (kvs : List (Key × V)) (ns : List Int) (a l : Int), H p = some (.dK kvs) ∧ kvs.length ≤ 3 ∧ valV kvs kCells = some (.ref c) ∧ valV kvs kAt = some (.int a) ∧ valV kvs kLeft = some (.int l) ∧ H c = some (.lst (ns.map V.int)) ∧ 0 ≤ a ∧ a ≤ n ∧ 0 ≤ l
theorem PenAt.same {H H' : Hp} {p c : Addr} {n : Nat} (P : PenAt H p c n) (h : Same H H') : PenAt H' p c n := by
  obtain ⟨kvs, ns, a, l, h1, h2, h3, h4, h5, h6, h7⟩ := P.ex
  exact ⟨kvs, ns, a, l, h _ _ h1, h2, h3, h4, h5, h _ _ h6, h7⟩
theorem PenAt.there {H : Hp} {p c : Addr} {n : Nat} (P : PenAt H p c n) : H p ≠ none := by
  obtain ⟨kvs, ns, a, l, h1, _⟩ := P.ex
  rw [h1]
  exact fun z => nomatch z
theorem PenAt.cells {H : Hp} {p c : Addr} {n : Nat} (P : PenAt H p c n) : H c ≠ none := by
  obtain ⟨kvs, ns, a, l, _, _, _, _, _, h1, _⟩ := P.ex
  rw [h1]
  exact fun z => nomatch z
theorem PenAt.upd {H : Hp} {p c l : Addr} {n : Nat} {o : HO} (P : PenAt H p c n) (h1 : l ≠ p) (h2 : l ≠ c) : PenAt (L2.upd H l o) p c n := by
  obtain ⟨kvs, ns, a, x, g1, g2, g3, g4, g5, g6, g7⟩ := P.ex
  exact ⟨kvs, ns, a, x, (upd_ne h1.symm).trans g1, g2, g3, g4, g5, (upd_ne h2.symm).trans g6, g7⟩
theorem PenAt.mono {H : Hp} {p c : Addr} {n m : Nat} (P : PenAt H p c n) (h : n ≤ m) : PenAt H p c m := by
  obtain ⟨kvs, ns, a, l, g1, g2, g3, g4, g5, g6, g7, g8, g9⟩ := P.ex
  exact ⟨kvs, ns, a, l, g1, g2, g3, g4, g5, g6, g7, by omega, g9⟩
theorem dp_ints {K : PySem.W.Frag} {H : Hp} : ∀ ns : List Int, DpAll K H (ns.map V.int) (ns.map PyData.int)
  | [] => .nil
  | n :: r => .cons (.int n) (dp_ints r)
/-- what a draw promises: a number below many, the pen drawn once more, nothing else touched -/
def spTake : Sp := fun vs H Q _ => ∃ (p c : Addr) (n : Nat) (m : Int), vs = [.ref p, .int m] ∧ PenAt H p c n ∧ n ≤ 100000 ∧ 1 ≤ m ∧ m ≤ 1000000000 ∧
  ∀ (r : Int) (H' : Hp), 0 ≤ r → r < m → PenAt H' p c (n + 1) → But p H H' → Q (.int r) H'
def spPen (K : PySem.W.Frag) : Sp := fun vs H Q _ => ∃ (a : Addr) (ns : List Int), vs = [.ref a] ∧ SqL K H a (ns.map V.int) ∧
  ∀ (p c : Addr) (H' : Hp), H p = none → H c = none → PenAt H' p c 0 → Same H H' → Q (.ref p) H'
theorem mem_cut {α : Type} {xs : List α} {lo hi : Nat} : ∀ x ∈ (xs.drop lo).take hi, x ∈ xs := fun x h => List.mem_of_mem_drop (List.mem_of_mem_take h)
theorem cut_ints (ns : List Int) (lo hi : Option Int) : ∃ ms : List Int, cutV (ns.map V.int) lo hi = ms.map V.int := by
  unfold cutV
  rw [← List.map_drop, ← List.map_take]
  exact ⟨_, rfl⟩
section
variable {P : Program} {w : World} {K : PySem.W.Frag} {mg : Str → Option Value} {base : Heap}
theorem scPen : FnScope ["_law_script"] ["_law_script"] (defScope sPen) := ⟨rfl, rfl, rfl, by decide +kernel, rfl, by decide +kernel, by decide +kernel⟩
theorem scTake : FnScope ["_law_pen_here", "_law_many_here", "_law_found", "_law_at", "_law_cells", "_law_cell", "_law_one", "_law_two"] ["_law_pen_here", "_law_many_here"] (defScope sTake) := ⟨rfl, rfl, rfl, by decide +kernel, rfl, by decide +kernel, by decide +kernel⟩
theorem ok_pen {f : Addr} {fd : FuncData} (F : Fun K "_law_pen" "_law_pen" sPen f fd) (ml : mg "list" = none) : FnOk P w K mg base CX0 1 f fd ["_law_script"] (spPen K) := by
  refine F.ok scPen (fun vs H Q E h => ?_) (fun cdv A outer s H vs Q E hr h => ?_)
  · obtain ⟨a, ns, rfl, _⟩ := h
    rfl
  · obtain ⟨a, ns, rfl, hS, q⟩ := h
    refine ⟨_, pss_one (ps_ret (pe_disp (pps_cons pe_str (pe_callTy call_list_of (by rfl) ml (by decide +kernel) (pa_cons (pe_slice sl_list (pv 0) po_none (po_some pe_int)) pa_nil))
      (pps_cons pe_str pe_int (pps_cons pe_str pe_int pps_nil))) (by rfl) (by rfl) (fun z => by cases z) (by decide))), ?_⟩
    refine fun p np => ?_
    have s1 : Same H (upd H p (.dK [])) := same_new np
    refine ⟨.ref a, rfl, 63, rfl, a, ns.map V.int, rfl, s1.seq hS, fun t nt => ?_⟩
    obtain ⟨ms, em⟩ := cut_ints ns none (some 63)
    have s2 : Same (upd H p (.dK [])) (upd (upd H p (.dK [])) t (.lst (cutV (ns.map V.int) none (some 63)))) := same_new nt
    refine ⟨t, _, rfl, .inl (SqL.of upd_same), fun c nc => ?_⟩
    have s3 := @same_new _ _ (.lst (cutV (ns.map V.int) none (some 63))) nc
    have hp := s3 _ _ (s2 _ _ upd_same)
    refine ⟨hp, [(kCells, .ref c), (kAt, .int 0), (kLeft, .int 0)], rfl, (by show 3 ≤ 15; decide), ?_⟩
    have s4 := s1.trans (s2.trans s3)
    have npc : p ≠ c := ne_of_none (s2 _ _ upd_same) nc
    refine q p c _ np (s1.free (s2.free nc)) ⟨_, ms, 0, 0, upd_same, (by exact Nat.le_refl 3), ?_, ?_, ?_, ?_, Int.le_refl _, Int.le_refl _, Int.le_refl _⟩ fun b o e => (upd_ne (ne_of_none e np)).trans (s4 b o e)
    · rfl
    · rfl
    · rfl
    · rw [upd_ne npc.symm, upd_same, em]
theorem ok_take {f : Addr} {fd : FuncData} (F : Fun K "_law_take" "_law_take" sTake f fd) (mlen : mg "len" = none) (mabs : mg "abs" = none) : FnOk P w K mg base CX0 1 f fd ["_law_pen_here", "_law_many_here"] spTake := by
  refine F.ok scTake (fun vs H Q E h => ?_) (fun cdv A outer s H vs Q E hr h => ?_)
  · obtain ⟨p, c, n, m, rfl, _⟩ := h
    rfl
  · obtain ⟨p, c, n, m, rfl, pen, hn, m1, m2, q⟩ := h
    have hu := hu_of hr
    have nd := scTake.nd
    refine ⟨_, pss_cons (ps_if (pt_cmpR op_gt (pe_dget hu (pv 0) pe_str (fun _ _ => rfl)) pe_int (nomark _))
        (pss_cons (ps_set (i := 2) nd rfl (Or.inl rfl) (pe_op op_mod (pe_dget hu (pv 0) pe_str (fun _ _ => rfl)) (pv 1)))
        (pss_cons (ps_dput hu (pv 0) pe_str (pe_op op_fdiv (pe_dget hu (pv 0) pe_str (fun _ _ => rfl)) (pv 1)) rfl)
        (pss_one (ps_ret (pv 2))))) pss_nil)
      (pss_cons (ps_set (i := 3) nd rfl (Or.inl rfl) (pe_dget hu (pv 0) pe_str (fun _ _ => rfl)))
      (pss_cons (ps_dput hu (pv 0) pe_str (pe_op op_add (pv 3) pe_int) rfl)
      (pss_cons (ps_set (i := 4) nd rfl (Or.inl rfl) (pe_dget hu (pv 0) pe_str (fun _ _ => rfl)))
      (pss_cons (ps_set (i := 5) nd rfl (Or.inl rfl) (pe_op op_add (pe_op op_add (pe_op op_mul (pe_op op_mul pe_int (pv 3)) (pv 3)) (pe_op op_mul pe_int (pv 3))) pe_int))
      (C8.pss_cut (ps_if (pt_cmpR (op_neD hr.units) (pv 4) (pe_lst pa_nil) (nomark _))
        (pss_one (ps_set (i := 5) nd rfl (Or.inl rfl) (pe_ix ix_list (pv 4) (pe_op op_mod (pv 3) (pe_callB call_len_seq (by rfl) mlen PySem.boot_len (pa_cons (pv 4) pa_nil))) (fun _ _ => rfl)))) pss_nil)
      (C8.pss_cut (ps_if (PW.pt (pw_and (pt_cmpR op_lt (pv 3) (pe_callB call_len_seq (by rfl) mlen PySem.boot_len (pa_cons (pv 4) pa_nil)) (nomark _))
          (pw_and1 (pt_cmpR op_ge (pe_callB call_abs (by rfl) mabs (by decide +kernel) (pa_cons (pv 5) pa_nil)) (pe_op op_pow pe_int pe_int) (nomark _)))))
        (pss_cons (ps_dput hu (pv 0) pe_str (pe_op op_fdiv (pe_callB call_abs (by rfl) mabs (by decide +kernel) (pa_cons (pv 5) pa_nil)) (pv 1)) rfl)
        (pss_one (ps_ret (pe_op op_mod (pe_callB call_abs (by rfl) mabs (by decide +kernel) (pa_cons (pv 5) pa_nil)) (pv 1))))) pss_nil)
      (pss_cons (ps_set (i := 6) nd rfl (Or.inl rfl) (pe_op op_mod (pe_op op_pow (pe_op op_add (pe_op op_add (pe_op op_mod (pv 5) pe_int) (pe_op op_mul pe_int (pv 3))) pe_int) pe_int) pe_int))
      (pss_cons (ps_set (i := 7) nd rfl (Or.inl rfl) (pe_op op_mod (pe_op op_pow (pe_op op_add (pe_op op_add (pv 6) (pe_op op_mul (pe_op op_mul pe_int (pv 3)) (pv 3))) pe_int) pe_int) pe_int))
      (pss_one (ps_ret (pe_op op_mod (pe_op op_fdiv (pe_op op_mod (pe_op op_mul (pv 7) (pe_op op_add (pe_op op_mod (pv 6) pe_int) pe_int)) pe_int) pe_int) (pv 1)))))))))))), ?_⟩
    obtain ⟨kvs, ns, a, l, g1, g2, g3, g4, g5, g6, g7, g8, g9⟩ := pen.ex
    have hsz : kvs.length < sizeLine := small1000 (by omega)
    have npc : p ≠ c := ne_of g1 g6 (by intro z; cases z)
    -- the left
    refine ⟨_, rfl, p, _, rfl, dget_s g1 g5, l, 0, rfl, rfl, _, rfl, ite2 (fun e => ?_) (fun e => ?_)⟩
    · have e' : 0 < l := of_decide_eq_true e
      refine ⟨_, rfl, p, _, rfl, dget_s g1 g5, _, rfl, l, m, rfl, rfl, (by show (0 : Int) < m; omega), ?_⟩
      refine ⟨_, rfl, p, _, rfl, dget_s g1 g5, _, rfl, l, m, rfl, rfl, ⟨by omega, by omega⟩, _, rfl, p, _, rfl, dput_s g1 hsz, _, rfl, ?_⟩
      refine q _ _ (Int.emod_nonneg _ (by omega)) (Int.emod_lt_of_pos _ (by omega)) ⟨_, ns, a, l / m, upd_same, (by rw [put_len g5]; exact g2), ?_, ?_, ?_, ?_, g7, by omega, Int.ediv_nonneg (by omega) (by omega)⟩ fun b o z nb => (upd_ne nb).trans z
      · rw [valV_put, if_neg nCL]; exact g3
      · rw [valV_put, if_neg nAL]; exact g4
      · rw [valV_put, if_pos rfl]
      · rw [upd_ne npc.symm]; exact g6
    · -- a new cell
      refine ⟨_, rfl, p, _, rfl, dget_s g1 g4, ?_⟩
      refine ⟨_, rfl, a, 1, rfl, rfl, _, rfl, p, _, rfl, dput_s g1 hsz, ?_⟩
      have k1 : (upd H p (.dK (putK kvs kAt (.int (a + 1))))) p = some (.dK (putK kvs kAt (.int (a + 1)))) := upd_same
      have v3 : valV (putK kvs kAt (.int (a + 1))) kCells = some (.ref c) := by rw [valV_put, if_neg nCA]; exact g3
      have v4 : valV (putK kvs kAt (.int (a + 1))) kAt = some (.int (a + 1)) := by rw [valV_put, if_pos rfl]
      have v5 : valV (putK kvs kAt (.int (a + 1))) kLeft = some (.int l) := by rw [valV_put, if_neg nLA]; exact g5
      have k2 : (putK kvs kAt (.int (a + 1))).length ≤ 3 := by rw [put_len g4]; exact g2
      have k6 : (upd H p (.dK (putK kvs kAt (.int (a + 1))))) c = some (.lst (ns.map V.int)) := by rw [upd_ne npc.symm]; exact g6
      generalize putK kvs kAt (.int (a + 1)) = kw at k1 k2 k6 v3 v4 v5
      refine ⟨_, rfl, p, _, rfl, dget_s k1 v3, ?_⟩
      refine ⟨_, rfl, 70207, a, rfl, rfl, .inl ⟨by decide, by decide⟩, _, rfl, _, a, rfl, rfl, .inr ⟨by omega, by omega⟩, _, rfl, 131, a, rfl, rfl, .inl ⟨by decide, by decide⟩, _, _, rfl, rfl, _, 29, rfl, rfl, ?_⟩
      refine ⟨fun σ' H' => ∃ x : Int, σ' = [some (.ref p), some (.int m), none, some (.int a), some (.ref c), some (.int x), none, none] ∧ Same (upd H p (.dK kw)) H', ?_, ?_⟩
      · refine ⟨_, rfl, Nat.zero_le _, fun t nt => ?_⟩
        have s1 := @same_new _ _ (.lst []) nt
        refine ⟨.list (ns.map PyData.int), .list [], .lst (SqL.of (s1 _ _ k6)) (dp_ints ns), .lst (SqL.of upd_same) .nil, PySem.W.ke_shaped_ints ns, PySem.W.ke_shaped_ints [], _, rfl, ?_⟩
        cases e2 : (!PyData.eqv (.list (ns.map PyData.int)) (.list [])) with
        | false => exact iteF ⟨_, rfl, s1⟩
        | true =>
          refine iteT ?_
          have hne : ns ≠ [] := fun z => by
            subst z
            rw [show PyData.eqv (.list (([] : List Int).map PyData.int)) (.list []) = true from rfl] at e2
            cases e2
          have hlen : 0 < ns.length := List.length_pos_iff.mpr hne
          have hlt : (a % (ns.length : Int)).toNat < ns.length := by
            have h1 := Int.emod_nonneg a (show (ns.length : Int) ≠ 0 by omega)
            have h2 := Int.emod_lt_of_pos a (show (0 : Int) < ns.length by omega)
            omega
          refine ⟨_, rfl, _, rfl, _, rfl, c, _, rfl, .inl (SqL.of (s1 _ _ k6)), a, _, rfl, rfl, ?_, c, _, _, .int ns[(a % (ns.length : Int)).toNat], rfl, rfl, SqL.of (s1 _ _ k6), ?_, _, rfl, s1⟩
          · show (0 : Int) < ((ns.map V.int).length : Int)
            rw [List.length_map]; omega
          · rw [List.length_map]
            refine at_of (j := (a % (ns.length : Int)).toNat) (Int.toNat_of_nonneg (Int.emod_nonneg a (show (ns.length : Int) ≠ 0 by omega))).symm ?_
            rw [List.getElem?_map, List.getElem?_eq_getElem hlt]
            rfl
      · rintro σ' H2 ⟨x, rfl, s1⟩
        have j1 := s1 _ _ k1
        have j6 := s1 _ _ k6
        have bt : But p H H2 := fun b o z nb => s1 _ _ ((upd_ne nb).trans z)
        have absn : (0 : Int) ≤ if x < 0 then -x else x := by split <;> omega
        have fin : ∀ r : Int, 0 ≤ r → r < m → Q (.int r) H2 := fun r r1 r2 => q r H2 r1 r2 ⟨kw, ns, a + 1, l, j1, k2, v3, v4, v5, j6, by omega, by omega, g9⟩ bt
        have a2 : 0 ≤ 1213 * a * a ∧ 1213 * a * a ≤ 121300000 * 100000 := ⟨Int.mul_nonneg (by omega) g7, Int.mul_le_mul (by omega) (by omega) g7 (by decide)⟩
        refine ⟨fun σ' H' => σ' = [some (.ref p), some (.int m), none, some (.int a), some (.ref c), some (.int x), none, none] ∧ H' = H2, ?_, ?_⟩
        · refine ⟨_, rfl, _, rfl, c, _, rfl, .inl (SqL.of j6), a, _, rfl, rfl, _, rfl, ?_⟩
          refine ite2 (fun _ => ?_) (fun _ => ?_)
          · refine ⟨_, rfl, x, rfl, 10, 18, rfl, rfl, ⟨by decide, by decide, by decide⟩, _, _, rfl, rfl, _, rfl, ite2 (fun _ => ?_) (fun _ => ⟨rfl, rfl⟩)⟩
            refine ⟨_, rfl, x, rfl, _, rfl, _, m, rfl, rfl, ⟨by omega, by omega⟩, _, rfl, p, _, rfl, dput_s j1 (small1000 (by omega)), ?_⟩
            refine ⟨_, rfl, x, rfl, _, rfl, _, m, rfl, rfl, (by show (0 : Int) < m; omega), ?_⟩
            refine q _ _ (Int.emod_nonneg _ (by omega)) (Int.emod_lt_of_pos _ (by omega)) ⟨_, ns, a + 1, (if x < 0 then -x else x) / m, upd_same, (by rw [put_len v5]; exact k2), ?_, ?_, ?_, ?_, by omega, by omega, Int.ediv_nonneg absn (by omega)⟩ fun b o z nb => (upd_ne nb).trans (bt b o z nb)
            · rw [valV_put, if_neg nCL]; exact v3
            · rw [valV_put, if_neg nAL]; exact v4
            · rw [valV_put, if_pos rfl]
            · rw [upd_ne npc.symm]; exact j6
          · exact iteF ⟨rfl, rfl⟩
        · rintro σ' H' ⟨rfl, rfl⟩
          have b1 := Int.emod_nonneg x (show (2147483587 : Int) ≠ 0 by decide)
          have b2 := Int.emod_lt_of_pos x (show (0 : Int) < 2147483587 by decide)
          refine ⟨_, rfl, x, _, rfl, rfl, (by show (0 : Int) < 2147483587; decide), _, rfl, 45007, a, rfl, rfl, .inl ⟨by decide, by decide⟩, _, _, rfl, rfl, _, 11, rfl, rfl, _, 3, rfl, rfl, ⟨by decide, by decide, ?_⟩, _, 2147483629, rfl, rfl, (by show (0 : Int) < 2147483629; decide), ?_⟩
          · generalize x % 2147483587 = y at b1 b2
            show (y + 45007 * a + 11).natAbs < 2 ^ 64
            omega
          · generalize (x % 2147483587 + 45007 * a + 11) ^ (3 : Int).toNat = z
            have d1 := Int.emod_nonneg z (show (2147483629 : Int) ≠ 0 by decide)
            have d2 := Int.emod_lt_of_pos z (show (0 : Int) < 2147483629 by decide)
            obtain ⟨o, ho⟩ : ∃ o, z % 2147483629 = o := ⟨_, rfl⟩
            rw [ho] at d1 d2
            show tSeq _ _ _ [some (.ref p), some (.int m), none, some (.int a), some (.ref c), some (.int x), some (.int (z % 2147483629)), none] _
            rw [ho]
            have f1 := Int.emod_nonneg o (show (64007 : Int) ≠ 0 by decide)
            have f2 := Int.emod_lt_of_pos o (show (0 : Int) < 64007 by decide)
            refine ⟨_, rfl, _, rfl, 1213, a, rfl, rfl, .inl ⟨by decide, by decide⟩, _, rfl, _, a, rfl, rfl, .inr ⟨by omega, by omega⟩, o, _, rfl, rfl, _, 3, rfl, rfl, _, 5, rfl, rfl, ⟨by decide, by decide, ?_⟩, _, 2147483543, rfl, rfl, (by show (0 : Int) < 2147483543; decide), ?_⟩
            · show (o + 1213 * a * a + 3).natAbs < 2 ^ 64
              omega
            · refine ⟨_, rfl, _, rfl, o, 64007, rfl, rfl, (by show (0 : Int) < 64007; decide), _, 1, rfl, rfl, _, _, rfl, rfl, .inr ⟨by omega, by omega⟩, _, 2147483579, rfl, rfl, (by show (0 : Int) < 2147483579; decide), _, 64, rfl, rfl, ⟨by decide, by decide⟩, _, rfl, _, m, rfl, rfl, (by show (0 : Int) < m; omega), ?_⟩
              exact fin _ (Int.emod_nonneg _ (by omega)) (Int.emod_lt_of_pos _ (by omega))
end
/-! ### texts as lists of signs -/
abbrev sc (l : List Nat) : Str := ⟨l.toArray⟩
theorem sc_list (z : Str) : sc z.cps.toList = z := rfl
theorem sc_len (l : List Nat) : (sc l).length = l.length := by
  show l.toArray.size = l.length
  simp
theorem sc_app (a b : List Nat) : (sc a ++ sc b : Str) = sc (a ++ b) := by
  have h : TL.tl (sc a ++ sc b) = TL.tl (sc (a ++ b)) := by
    rw [TL.tl_append]
  have h2 := congrArg sc h
  exact h2
theorem sc_take (l : List Nat) {k : Nat} (hk : k ≤ l.length) : cutS (sc l) none (some (k : Int)) = sc (l.take k) := by
  unfold cutS
  rw [HT.sIx_none, HT.sIx_nat, sc_len, Nat.min_eq_left hk]
  show sc ((l.toArray.toList.drop 0).take (k - 0)) = sc (l.take k)
  simp
theorem sc_drop (l : List Nat) {k : Nat} (hk : k ≤ l.length) : cutS (sc l) (some (k : Int)) none = sc (l.drop k) := by
  unfold cutS
  rw [HT.sIx_none, HT.sIx_nat, sc_len, Nat.min_eq_left hk]
  show sc ((l.toArray.toList.drop k).take (l.length - k)) = sc (l.drop k)
  rw [List.take_of_length_le (by simp)]
theorem sc_join (ls : List (List Nat)) : Txt.join "" (ls.map sc) = sc ls.flatten := by
  have h : ∀ l : List (List Nat), TL.joinL [] l = l.flatten := by
    intro l
    induction l with
    | nil => rfl
    | cons p r ih =>
      cases r with
      | nil => show p = [p].flatten; simp
      | cons q r => show p ++ ([] ++ TL.joinL [] (q :: r)) = _; rw [List.nil_append, ih]; rfl
  have e := TL.tl_join "" (ls.map sc)
  rw [show TL.tl ("" : Str) = [] from rfl, h, List.map_map] at e
  rw [TL.join_eq]
  have e2 : ls.map (TL.tl ∘ sc) = ls := by
    have : (TL.tl ∘ sc) = id := funext fun l => by show l.toArray.toList = l; simp
    rw [this, List.map_id]
  rw [e2] at e
  exact congrArg sc e
abbrev abc : Str := "abcdefghijklmnopqrstuvwxyz"
def Lc (i : Nat) : Nat := abc.cps.toList.getD i 0
theorem abc_len : abc.cps.toList.length = 26 := by decide +kernel
theorem at_abc {r : Int} (h0 : 0 ≤ r) (h1 : r < 26) : atI abc.cps.toList r = some (Lc r.toNat) := by
  have h : r.toNat < abc.cps.toList.length := by rw [abc_len]; omega
  have e : ((r.toNat : Nat) : Int) = r := by omega
  have q := atI_nat (List.getElem?_eq_getElem h)
  rw [e] at q
  rw [q, Lc, List.getD_eq_getElem?_getD, List.getElem?_eq_getElem h]
  rfl
theorem Lc_in {i : Nat} (h : i < 26) : Lc i ∈ abc.cps.toList := by
  rw [Lc, List.getD_eq_getElem?_getD, List.getElem?_eq_getElem (by rw [abc_len]; exact h)]
  exact List.getElem_mem _
/-! ### the names that a law draws -/
def nmPair (t k : Nat) : List Nat := [Lc ((t + 7 * k) % 26), Lc ((t + k / 26) % 26)]
def bij (t : Nat) : Nat → List Nat
  | 0 => []
  | r + 1 => bij t (r / 2) ++ [Lc ((t + 9 * ((r + 1) % 2)) % 26)]
def nm (way t : Nat) (B : List Nat) (sp k : Nat) : List Nat := if way = 1 then bij t (k + 1) else B.take sp ++ nmPair t k ++ B.drop sp
def nmStr (way t : Nat) (B : List Nat) (sp k : Nat) : Str := sc (nm way t B sp k)
structure NmOk (way t : Nat) (B : List Nat) (sp : Nat) : Prop where
  t26 : t < 26
  b6 : B.length ≤ 6
  bl : ∀ c ∈ B, c ∈ abc.cps.toList
  s : sp ≤ B.length
/-- a list of names at l -/
def NmAt (H : Hp) (l : Addr) (m : Nat) : Prop := ∃ way t B sp, NmOk way t B sp ∧ H l = some (.lst ((List.range m).map fun k => V.str (nmStr way t B sp k)))
theorem bij_len (t : Nat) : ∀ r, (bij t r).length = if r = 0 then 0 else (bij t ((r - 1) / 2)).length + 1
  | 0 => by rw [bij]; rfl
  | r + 1 => by rw [bij, List.length_append, if_neg (by omega)]; rfl
theorem bij_le (t : Nat) : ∀ r, (bij t r).length ≤ r
  | 0 => by rw [bij]; exact Nat.le_refl _
  | r + 1 => by
    rw [bij, List.length_append]
    have := bij_le t (r / 2)
    show _ + 1 ≤ _
    omega
theorem flat_one : ∀ B : List Nat, (B.map fun c => [c]).flatten = B
  | [] => rfl
  | b :: r => by rw [List.map_cons, List.flatten_cons, flat_one r]; rfl
theorem sum_one : ∀ B : List Nat, (((B.map fun c => [c]).map sc).map (·.length)).sum = B.length
  | [] => rfl
  | b :: r => by
    rw [List.map_cons, List.map_cons, List.map_cons, List.sum_cons, sum_one r, List.length_cons, sc_len]
    exact Nat.add_comm _ _
def restOf (σ : L2.St) (_ : Hp) : Nat := match σ[10]? with
  | some (some (V.int r)) => r.toNat
  | _ => 0
/-- what _law_names promises -/
def spNames : Sp := fun vs H Q _ => ∃ (p c : Addr) (n : Nat) (m : Int), vs = [.ref p, .int m] ∧ PenAt H p c n ∧ n ≤ 50000 ∧ 0 ≤ m ∧ m ≤ 31 ∧
  ∀ (l : Addr) (H' : Hp), H l = none → NmAt H' l m.toNat → PenAt H' p c (n + 10) → But p H H' → Q (.ref l) H'
theorem yesT {σ : L2.St} {H : Hp} {A B : Hp → Prop} (h : A H) : tYes σ H fun b H3 => if b = true then A H3 else B H3 := iteT (A := A H) (B := B H) h
theorem small_sz {n : Nat} (h : n ≤ 1000) : n ≤ sizeLine := Nat.le_of_lt (small1000 h)
theorem at_ex {α : Type} {xs : List α} {r : Int} (h0 : 0 ≤ r) (h1 : r < (xs.length : Int)) : ∃ v, atI xs r = some v ∧ v ∈ xs := by
  have h : r.toNat < xs.length := by omega
  have e : ((r.toNat : Nat) : Int) = r := by omega
  have q := atI_nat (List.getElem?_eq_getElem h)
  rw [e] at q
  exact ⟨_, q, List.getElem_mem h⟩
/-- the def _law_take, as its callers need it -/
structure TakeT (P : Program) (w : World) (K : PySem.W.Frag) (mg : Str → Option Value) (base : Heap) (f : Addr) (fd : FuncData) : Prop where
  ok : FnOk P w K mg base CX0 1 f fd ["_law_pen_here", "_law_many_here"] spTake
  g : mg "_law_take" = some (.ref f)
  kp : PySem.W.keepIn K (.ref f) = true
  b : Binds K fd ["_law_pen_here", "_law_many_here"] []
/-- any def, as its callers need it -/
structure DefT (P : Program) (w : World) (K : PySem.W.Frag) (mg : Str → Option Value) (base : Heap) (x : Str) (k : Nat) (f : Addr) (fd : FuncData) (ps : List Str) (sp : Sp) : Prop where
  ok : FnOk P w K mg base CX0 k f fd ps sp
  g : mg x = some (.ref f)
  kp : PySem.W.keepIn K (.ref f) = true
  b : Binds K fd ps []
abbrev namesN : List Str := ["_law_pen_here", "_law_many_here", "_law_letters", "_law_way", "_law_turn", "_law_k", "_law_base", "_law_spot", "_law_found", "_law_word", "_law_rest"]
section
variable {P : Program} {w : World} {K : PySem.W.Frag} {mg : Str → Option Value} {base : Heap}
theorem scNames : FnScope namesN ["_law_pen_here", "_law_many_here"] (defScope sNames) := ⟨rfl, rfl, rfl, by decide +kernel, rfl, by decide +kernel, by decide +kernel⟩
set_option maxHeartbeats 4000000 in
theorem ok_names {f fT : Addr} {fd fdT : FuncData} (F : Fun K "_law_names" "_law_names" sNames f fd) (T : TakeT P w K mg base fT fdT) (ml : mg "len" = none) (mr : mg "range" = none) :
    FnOk P w K mg base CX0 2 f fd ["_law_pen_here", "_law_many_here"] spNames := by
  refine F.ok scNames (fun vs H Q E h => ?_) (fun cdv A outer s H vs Q E hr h => ?_)
  · obtain ⟨p, c, n, m, rfl, _⟩ := h
    rfl
  · obtain ⟨p, c, n, m, rfl, pen, hn, m0, m31, q⟩ := h
    have nd := scNames.nd
    refine ⟨_, pss_cons (ps_set (i := 2) nd rfl (Or.inr rfl) pe_str)
      (pss_cons (ps_set (i := 3) nd rfl (Or.inl rfl) (pe_call T.ok hr (by rfl) T.g T.kp T.b .nil pass0 (pa_cons (pv 0) (pa_cons pe_int pa_nil))))
      (pss_cons (ps_set (i := 4) nd rfl (Or.inl rfl) (pe_call T.ok hr (by rfl) T.g T.kp T.b .nil pass0 (pa_cons (pv 0) (pa_cons pe_int pa_nil))))
      (pss_cons (ps_set (i := 6) nd rfl (Or.inl rfl) (pe_join pe_str (pe_lc (own := [("_law_k", 5)]) (g := gName 5) (tt := tYes) rfl nd
          (pi_range1 rfl mr (pa_cons (pe_ix ix_list (pe_lst (pa_cons (pe_call T.ok hr (by rfl) T.g T.kp T.b .nil pass0 (pa_cons (pv 0) (pa_cons pe_int pa_nil))) (pa_cons pe_int (pa_cons pe_int pa_nil)))) (pv 3) (fun _ _ => rfl)) pa_nil))
          (blkOk_by (N := namesN) (sc := defScope sNames) (by decide +kernel))
          (fun _ _ _ _ _ => pg_name (i := 5) nd rfl (Or.inl rfl)) (fun _ _ _ _ _ => pts_nil)
          (fun _ _ _ _ _ => pe_ix ix_str (pv 2) (pe_call T.ok hr (by rfl) T.g T.kp T.b .nil pass0 (pa_cons (pv 0) (pa_cons pe_int pa_nil))) (fun _ _ => rfl)))))
      (pss_cons (ps_set (i := 7) nd rfl (Or.inl rfl) (pe_call T.ok hr (by rfl) T.g T.kp T.b .nil pass0 (pa_cons (pv 0) (pa_cons (pe_op op_add (pe_callB call_len_str (by rfl) ml PySem.boot_len (pa_cons (pv 6) pa_nil)) pe_int) pa_nil))))
      (pss_cons (ps_set (i := 8) nd rfl (Or.inl rfl) (pe_lst pa_nil))
      (pss_cons (ps_for PassesOwn.never rfl (pi_range1 rfl mr (pa_cons (pv 1) pa_nil)) (pg_name (i := 5) nd rfl (Or.inl rfl))
        (pss_cons (ps_set (i := 9) nd rfl (Or.inl rfl) (pe_op op_add_str (pe_ix ix_str (pv 2) (pe_op op_mod (pe_op op_add (pv 4) (pe_op op_mul pe_int (pv 5))) pe_int) (fun _ _ => rfl)) (pe_ix ix_str (pv 2) (pe_op op_mod (pe_op op_add (pv 4) (pe_op op_fdiv (pv 5) pe_int)) pe_int) (fun _ _ => rfl))))
        (pss_cons (ps_set (i := 9) nd rfl (Or.inl rfl) (pe_op op_add_str (pe_op op_add_str (pe_slice sl_str (pv 6) po_none (po_some (pv 7))) (pv 9)) (pe_slice sl_str (pv 6) (po_some (pv 7)) po_none)))
        (C8.pss_cut (ps_if (pt_cmpR op_eq (pv 3) pe_int (nomark _))
            (pss_cons (ps_set (i := 9) nd rfl (Or.inl rfl) pe_str)
            (pss_cons (ps_set (i := 10) nd rfl (Or.inl rfl) (pe_op op_add (pv 5) pe_int))
            (pss_one (ps_while PassesOwn.never (pt_cmpR op_gt (pv 10) pe_int (nomark _))
              (pss_cons (ps_set (i := 9) nd rfl (Or.inl rfl) (pe_op op_add_str (pe_ix ix_str (pv 2) (pe_op op_mod (pe_op op_add (pv 4) (pe_op op_mul pe_int (pe_op op_mod (pv 10) pe_int))) pe_int) (fun _ _ => rfl)) (pv 9)))
              (pss_one (ps_set (i := 10) nd rfl (Or.inl rfl) (pe_op op_fdiv (pe_op op_sub (pv 10) pe_int) pe_int)))))))) pss_nil)
        (pss_one (ps_expr (pe_bm PySem.F.plainAttrs_list PySem.F.slot_list_append PySem.F.type_list_append mt_append (pv 8) (pa_cons (pv 9) pa_nil))))))))
      (pss_one (ps_ret (pv 8))))))))), ?_⟩
    -- way, turn
    refine ⟨_, rfl, p, c, n, 3, rfl, pen, by omega, by decide, by decide, fun r1 H1 a1 b1 pen1 bt1 => ?_⟩
    refine ⟨_, rfl, p, c, n + 1, 26, rfl, pen1, by omega, by decide, by decide, fun r2 H2 a2 b2 pen2 bt2 => ?_⟩
    -- the base's size
    refine ⟨⟨_, rfl⟩, _, rfl, p, c, n + 2, 7, rfl, pen2, by omega, by decide, by decide, fun r3 H3 a3 b3 pen3 bt3 => ?_⟩
    refine ⟨(by show 3 ≤ sizeLine; decide), fun l nl => ?_⟩
    have s4 := @same_new _ _ (.lst [V.int r3, .int 0, .int 6]) nl
    obtain ⟨kk, hkk, k0, k6⟩ : ∃ kk : Int, atI [V.int r3, .int 0, .int 6] r1 = some (.int kk) ∧ 0 ≤ kk ∧ kk ≤ 6 := by
      have w3 : r1 = 0 ∨ r1 = 1 ∨ r1 = 2 := by omega
      rcases w3 with rfl | rfl | rfl
      · exact ⟨r3, atI_nat (j := 0) rfl, a3, by omega⟩
      · exact ⟨0, atI_nat (j := 1) rfl, by decide, by decide⟩
      · exact ⟨6, atI_nat (j := 2) rfl, by decide, by decide⟩
    have pen4 := pen3.same s4
    have bt4 : But p H (upd H3 l (.lst [V.int r3, .int 0, .int 6])) := (bt1.tr (bt2.tr bt3)).tr (.of s4)
    refine ⟨_, rfl, l, _, r1, _, rfl, rfl, SqL.of upd_same, hkk, kk, rfl, by omega, by omega, fun D nD => ?_⟩
    generalize upd H3 l (.lst [V.int r3, .int 0, .int 6]) = H4 at pen4 bt4 nD
    have nDp : D ≠ p := fun z => pen4.there (z ▸ nD)
    have nDc : D ≠ c := fun z => pen4.cells (z ▸ nD)
    refine lc_range (lo := 0) (n := kk.toNat) (fun j H' => PenAt H' p c (n + 3 + j) ∧ But p H H' ∧ ∃ B : List Nat, H' D = some (.lst (((B.map fun c => [c]).map sc).map V.str)) ∧ B.length = j ∧ ∀ c ∈ B, c ∈ abc.cps.toList)
      ⟨pen4.same (same_new nD), bt4.tr (.of (same_new nD)), [], upd_same, rfl, fun y hy => nomatch hy⟩ ?_ ?_
    · rintro j H6 hj ⟨pen6, bt6, B, hD6, ly, one⟩
      refine ⟨rfl, yesT ?_⟩
      refine ⟨_, rfl, _, rfl, p, c, _, 26, rfl, pen6, by omega, by decide, by decide, fun r H7 a7 b7 pen7 bt7 => ?_⟩
      have hD7 := bt7 D _ hD6 nDp
      have hDn : H D = none := by
        cases e : H D with
        | none => rfl
        | some o => rw [bt4 D o e nDp] at nD; cases nD
      refine ⟨abc, r, _, rfl, rfl, (by decide +kernel), at_abc a7 b7, _, hD7, (by simp only [List.length_map]; exact small1000 (by omega)), pen7.upd nDp nDc, fun b o e nb => (upd_ne (ne_of_none e hDn)).trans ((bt6.tr bt7) b o e nb), B ++ [Lc r.toNat], ?_, by simp [ly], ?_⟩
      · rw [upd_same, List.map_append, List.map_append, List.map_append]
        rfl
      · intro y hy
        rcases List.mem_append.mp hy with h | h
        · exact one y h
        · rw [List.mem_singleton.mp h]
          exact Lc_in (by omega)
    · rintro H6 ⟨pen6, bt6, B, hD6, ly, one⟩
      have bl : B.length ≤ 6 := by omega
      have ej : Txt.join "" ((B.map fun c => [c]).map sc) = sc B := by rw [sc_join, flat_one]
      refine ⟨"", D, (B.map fun c => [c]).map sc, rfl, rfl, .inl (SqL.of hD6), (by rw [sum_one]; simp only [List.length_map]; show B.length + B.length * 0 ≤ 16777216; omega), ?_⟩
      rw [ej]
      -- the spot
      refine ⟨_, rfl, _, rfl, sc B, rfl, (by rw [sc_len]; exact small_sz (by omega)), _, 1, rfl, rfl, p, c, n + 9, (B.length : Int) + 1, (by rw [sc_len]; rfl), pen6.mono (by omega), by omega, by omega, by omega, fun r4 H7 a4 b4 pen7 bt7 => ?_⟩
      refine ⟨Nat.zero_le _, fun Fd nFd => ?_⟩
      have nFp : Fd ≠ p := fun z => pen7.there (z ▸ nFd)
      have nFc : Fd ≠ c := fun z => pen7.cells (z ▸ nFd)
      have bt8 := bt6.tr bt7
      have hFn : H Fd = none := by
        cases e : H Fd with
        | none => rfl
        | some o => rw [bt8 Fd o e nFp] at nFd; cases nFd
      have nmok : NmOk r1.toNat r2.toNat B r4.toNat := ⟨by omega, bl, one, by omega⟩
      refine ⟨_, rfl, m, rfl, by omega, by omega, for_range (lo := 0) (n := m.toNat) (fun j σ H' => ∃ y5 y9 y10, σ = [some (.ref p), some (.int m), some (.str abc), some (.int r1), some (.int r2), y5, some (.str (sc B)), some (.int r4), some (.ref Fd), y9, y10] ∧
        PenAt H' p c (n + 10) ∧ But p H H' ∧ H' Fd = some (.lst ((List.range j).map fun k => V.str (nmStr r1.toNat r2.toNat B r4.toNat k)))) ⟨_, _, _, rfl, pen7.same (same_new nFd), bt8.tr (.of (same_new nFd)), upd_same⟩ ?_ ?_⟩
      · rintro j σ H9 hj ⟨y5, y9, y10, rfl, pen9, bt9, hF9⟩
        have i1 : 0 ≤ (r2 + 7 * (0 + (j : Int))) % 26 := Int.emod_nonneg _ (by decide)
        have i2 : (r2 + 7 * (0 + (j : Int))) % 26 < 26 := Int.emod_lt_of_pos _ (by decide)
        have i3 : 0 ≤ (r2 + (0 + (j : Int)) / 26) % 26 := Int.emod_nonneg _ (by decide)
        have i4 : (r2 + (0 + (j : Int)) / 26) % 26 < 26 := Int.emod_lt_of_pos _ (by decide)
        refine ⟨_, rfl, _, rfl, _, rfl, 7, 0 + (j : Int), rfl, rfl, .inl ⟨by decide, by decide⟩, r2, _, rfl, rfl, _, 26, rfl, rfl, (by show (0 : Int) < 26; decide), abc, _, _, rfl, rfl, (by decide +kernel), at_abc i1 i2, ?_⟩
        refine ⟨_, rfl, _, rfl, _, rfl, 0 + (j : Int), 26, rfl, rfl, ⟨by decide, by decide⟩, r2, _, rfl, rfl, _, 26, rfl, rfl, (by show (0 : Int) < 26; decide), abc, _, _, rfl, rfl, (by decide +kernel), at_abc i3 i4, _, _, rfl, rfl, (by show 1 + 1 ≤ sizeLine; decide), ?_⟩
        have q1 : ((r2 + 7 * (0 + (j : Int))) % 26).toNat = (r2.toNat + 7 * j) % 26 := by omega
        have q2 : ((r2 + (0 + (j : Int)) / 26) % 26).toNat = (r2.toNat + j / 26) % 26 := by
          have h : (0 + (j : Int)) / 26 = ((j / 26 : Nat) : Int) := by omega
          rw [h]
          generalize j / 26 = u
          omega
        have wd : ((⟨#[Lc ((r2 + 7 * (0 + (j : Int))) % 26).toNat]⟩ : Str) ++ ⟨#[Lc ((r2 + (0 + (j : Int)) / 26) % 26).toNat]⟩ : Str) = sc (nmPair r2.toNat j) := by
          rw [q1, q2]
          exact sc_app [_] [_]
        have e4 : ((r4.toNat : Nat) : Int) = r4 := by omega
        have c1 : cutS (sc B) none (some r4) = sc (B.take r4.toNat) := by rw [← e4]; exact sc_take B (by omega)
        have c2 : cutS (sc B) (some r4) none = sc (B.drop r4.toNat) := by rw [← e4]; exact sc_drop B (by omega)
        have szB : (sc B).length ≤ sizeLine := by rw [sc_len]; exact small_sz (by omega)
        refine ⟨_, rfl, _, rfl, r4, rfl, sc B, rfl, szB, _, rfl, _, _, rfl, rfl, ?_, _, rfl, _, rfl, r4, rfl, sc B, rfl, szB, _, _, rfl, rfl, ?_, ?_⟩
        · rw [wd, c1, sc_len, sc_len]
          refine small_sz ?_
          rw [List.length_take]
          show _ + 2 ≤ _
          omega
        · rw [wd, c1, c2, sc_app, sc_len, sc_len, List.length_append, List.length_take, List.length_drop]
          refine small_sz ?_
          show _ + 2 + _ ≤ _
          omega
        rw [wd, c1, c2, sc_app, sc_app]
        refine ⟨fun σ' H' => ∃ y10, σ' = [some (.ref p), some (.int m), some (.str abc), some (.int r1), some (.int r2), some (.int (0 + (j : Int))), some (.str (sc B)), some (.int r4), some (.ref Fd), some (.str (nmStr r1.toNat r2.toNat B r4.toNat j)), y10] ∧ H' = H9, ?_, ?_⟩
        · refine ⟨_, rfl, rfl, _, rfl, ite2 (fun e => ?_) (fun e => ?_)⟩
          · have e1 : r1 = 1 := V.int.inj (of_decide_eq_true e)
            subst e1
            refine ⟨_, rfl, _, 1, rfl, rfl, ?_⟩
            have el : (bij r2.toNat (j + 1)).length ≤ 100 := Nat.le_trans (bij_le _ _) (by omega)
            refine while_by (fun σ' H' => ∃ (L : List Nat) (r : Int), σ' = [some (.ref p), some (.int m), some (.str abc), some (.int 1), some (.int r2), some (.int (0 + (j : Int))), some (.str (sc B)), some (.int r4), some (.ref Fd), some (.str (sc L)), some (.int r)] ∧ H' = H9 ∧ 0 ≤ r ∧ bij r2.toNat (j + 1) = bij r2.toNat r.toNat ++ L)
              restOf ⟨[], _, rfl, rfl, by omega, ?_⟩ ?_ ?_
            · rw [List.append_nil, show (0 + (j : Int) + 1).toNat = j + 1 by omega]
            · rintro σ' H' ⟨L, r, rfl, rfl, r0, hb⟩
              have lL : L.length ≤ 100 := by
                have := congrArg List.length hb
                rw [List.length_append] at this
                omega
              refine ⟨_, rfl, r, 0, rfl, rfl, _, rfl, ite2 (fun er => ?_) (fun er => ?_)⟩
              · have er' : 0 < r := of_decide_eq_true er
                have d1 : 0 ≤ (r2 + 9 * (r % 2)) % 26 := Int.emod_nonneg _ (by decide)
                have d2 : (r2 + 9 * (r % 2)) % 26 < 26 := Int.emod_lt_of_pos _ (by decide)
                refine ⟨_, rfl, _, rfl, _, rfl, r, 2, rfl, rfl, (by show (0 : Int) < 2; decide), 9, _, rfl, rfl, .inl ⟨by decide, by decide⟩, r2, _, rfl, rfl, _, 26, rfl, rfl, (by show (0 : Int) < 26; decide), abc, _, _, rfl, rfl, (by decide +kernel), at_abc d1 d2, _, rfl, _, sc L, rfl, rfl, ?_, ?_⟩
                · show 1 + (sc L).length ≤ sizeLine
                  rw [sc_len]
                  exact small_sz (by omega)
                · refine ⟨_, rfl, r, 1, rfl, rfl, r - 1, 2, rfl, rfl, ⟨by decide, by decide⟩, ⟨Lc ((r2 + 9 * (r % 2)) % 26).toNat :: L, (r - 1) / 2, ?_, rfl, by omega, ?_⟩, ?_⟩
                  · rw [show ((⟨#[Lc ((r2 + 9 * (r % 2)) % 26).toNat]⟩ : Str) ++ sc L : Str) = sc (Lc ((r2 + 9 * (r % 2)) % 26).toNat :: L) from sc_app [_] L]
                    rfl
                  · rw [hb]
                    obtain ⟨u, rfl⟩ : ∃ u : Nat, r = ((u + 1 : Nat) : Int) := ⟨(r - 1).toNat, by omega⟩
                    rw [Int.toNat_natCast, bij, List.append_assoc, show ((((u + 1 : Nat) : Int) - 1) / 2).toNat = u / 2 by omega, show ((r2 + 9 * ((((u + 1 : Nat) : Int)) % 2)) % 26).toNat = (r2.toNat + 9 * ((u + 1) % 2)) % 26 by omega]
                    rfl
                  · show ((r - 1) / 2).toNat < r.toNat
                    omega
              · have er' : ¬ 0 < r := fun h => er (decide_eq_true h)
                have : r = 0 := by omega
                subst this
                refine ⟨some (.int 0), ?_, rfl⟩
                rw [show nmStr (1 : Int).toNat r2.toNat B r4.toNat j = sc L by
                  show sc (if 1 = 1 then bij r2.toNat (j + 1) else _) = sc L
                  rw [if_pos rfl, hb, show (0 : Int).toNat = 0 from rfl, bij, List.nil_append]]
            · rintro σ' H' Q1 Q2 hq ⟨v, hv, i, k, x1, x2, b, x3, x4⟩
              exact ⟨v, hv, i, k, x1, x2, b, x3, hq _ _ x4⟩
          · have e1 : ¬ r1 = 1 := fun h => e (decide_eq_true (congrArg V.int h))
            refine ⟨y10, ?_, rfl⟩
            rw [show nmStr r1.toNat r2.toNat B r4.toNat j = sc (B.take r4.toNat ++ nmPair r2.toNat j ++ B.drop r4.toNat) by
              show sc (if r1.toNat = 1 then _ else _) = _
              rw [if_neg (by omega)]]
            rfl
        · rintro σ' H' ⟨z10, rfl, rfl⟩
          refine ⟨_, rfl, .inl ⟨rfl, _, SqL.of hF9⟩, _, rfl, Fd, _, _, rfl, rfl, hF9, (by simp only [List.length_map, List.length_range]; exact small1000 (by omega)), ⟨_, _, _, rfl, pen9.upd nFp nFc, fun b o e nb => (upd_ne (ne_of_none e hFn)).trans (bt9 b o e nb), ?_⟩⟩
          rw [upd_same, List.range_succ, List.map_append]
          rfl
      · rintro σ H9 ⟨y5, y9, y10, rfl, pen9, bt9, hF9⟩
        exact ⟨_, rfl, q Fd H9 hFn ⟨_, _, _, _, nmok, hF9⟩ pen9 bt9⟩
end
/-! ### entries -/
inductive Ent where
  | come (nm : Str) (mo : Int) (g pl : Str) (many price : Int)
  | go (nm : Str) (mo : Int) (g pl : Str) (many : Int)
  | move (nm : Str) (mo : Int) (g one other : Str) (many : Int)
  | some_ (nm : Str) (mo : Int) (g one other : Str)
  | swap (nm : Str) (mo : Int) (one other : Str)
  | count (nm : Str) (mo : Int) (g pl : Str) (many : Int) (hand : Str)
  | look (nm : Str) (mo : Int) (g pl : Str)
namespace Ent
def word : Ent → Str
  | come .. => "come" | go .. => "go" | move .. => "move" | some_ .. => "some" | swap .. => "swap" | count .. => "count" | look .. => "look"
def name : Ent → Str
  | come n .. => n | go n .. => n | move n .. => n | some_ n .. => n | swap n .. => n | count n .. => n | look n .. => n
def moment : Ent → Int
  | come _ m .. => m | go _ m .. => m | move _ m .. => m | some_ _ m .. => m | swap _ m .. => m | count _ m .. => m | look _ m .. => m
def rest : Ent → List V
  | come _ _ g p m r => [.str g, .str p, .int m, .int r]
  | go _ _ g p m => [.str g, .str p, .int m]
  | move _ _ g o t m => [.str g, .str o, .str t, .int m]
  | some_ _ _ g o t => [.str g, .str o, .str t]
  | swap _ _ o t => [.str o, .str t]
  | count _ _ g p m h => [.str g, .str p, .int m, .str h]
  | look _ _ g p => [.str g, .str p]
def vals (e : Ent) : List V := .str e.word :: .str e.name :: .int e.moment :: e.rest
/-- its parts are drawn from these places, goods and hands -/
def From (PL GL HL : List Str) : Ent → Prop
  | come _ _ g p m r => g ∈ GL ∧ p ∈ PL ∧ 1 ≤ m ∧ m ≤ 1000000000 ∧ 0 ≤ r ∧ r ≤ 1000000000
  | go _ _ g p m => g ∈ GL ∧ p ∈ PL ∧ 1 ≤ m ∧ m ≤ 1000000000
  | move _ _ g o t m => g ∈ GL ∧ o ∈ PL ∧ t ∈ PL ∧ (PL.Nodup → o ≠ t) ∧ 1 ≤ m ∧ m ≤ 1000000000
  | some_ _ _ g o t => g ∈ GL ∧ o ∈ PL ∧ (t = "" ∨ (t ∈ PL ∧ (PL.Nodup → o ≠ t)))
  | swap _ _ o t => o ∈ PL ∧ t ∈ PL ∧ (PL.Nodup → o ≠ t)
  | count _ _ g p m h => g ∈ GL ∧ p ∈ PL ∧ 0 ≤ m ∧ m ≤ 1000000000 ∧ h ∈ HL
  | look _ _ g p => g ∈ GL ∧ p ∈ PL
end Ent
def words7 : List Str := ["come", "go", "move", "some", "swap", "count", "look"]
abbrev words10 : List Str := ["come", "go", "move", "some", "swap", "count", "look", "count", "swap", "move"]
theorem Ent.word_in (e : Ent) : e.word ∈ words7 := by
  cases e <;> simp [Ent.word, words7]
abbrev StrsAt (H : Hp) (l : Addr) (ys : List Str) : Prop := H l = some (.lst (ys.map V.str))
def spMany : Sp := fun vs H Q _ => ∃ (p c : Addr) (n : Nat), vs = [.ref p] ∧ PenAt H p c n ∧ n ≤ 90000 ∧
  ∀ (r : Int) (H' : Hp), 1 ≤ r → r ≤ 1000000000 → PenAt H' p c (n + 4) → But p H H' → Q (.int r) H'
def spEntryOf : Sp := fun vs H Q _ => ∃ (p c : Addr) (n : Nat) (wd nme : Str) (mo : Int) (a1 a2 a3 : Addr) (PL GL HL : List Str), vs = [.ref p, .str wd, .str nme, .int mo, .ref a1, .ref a2, .ref a3] ∧ PenAt H p c n ∧ n ≤ 80000 ∧ wd ∈ words7 ∧
  StrsAt H a1 PL ∧ StrsAt H a2 GL ∧ StrsAt H a3 HL ∧ PL ≠ [] ∧ GL ≠ [] ∧ HL ≠ [] ∧ PL.length ≤ 100 ∧ GL.length ≤ 100 ∧ HL.length ≤ 100 ∧
  ∀ (tp : Addr) (e : Ent) (H' : Hp), H tp = none → H' tp = some (.tup e.vals) → e.name = nme → e.moment = mo → e.From PL GL HL → PenAt H' p c (n + 20) → But p H H' → Q (.ref tp) H'
def spEntry : Sp := fun vs H Q _ => ∃ (p c : Addr) (n : Nat) (nme : Str) (mo : Int) (a1 a2 a3 : Addr) (PL GL HL : List Str), vs = [.ref p, .str nme, .int mo, .ref a1, .ref a2, .ref a3] ∧ PenAt H p c n ∧ n ≤ 70000 ∧
  StrsAt H a1 PL ∧ StrsAt H a2 GL ∧ StrsAt H a3 HL ∧ PL ≠ [] ∧ GL ≠ [] ∧ HL ≠ [] ∧ PL.length ≤ 100 ∧ GL.length ≤ 100 ∧ HL.length ≤ 100 ∧
  ∀ (tp : Addr) (e : Ent) (H' : Hp), H tp = none → H' tp = some (.tup e.vals) → e.name = nme → e.moment = mo → e.From PL GL HL → PenAt H' p c (n + 30) → But p H H' → Q (.ref tp) H'
theorem pen_strs {H H' : Hp} {p c l : Addr} {n : Nat} {ys : List Str} (pen : PenAt H p c n) (b : But p H H') (h : StrsAt H l ys) : StrsAt H' l ys := by
  obtain ⟨kvs, ns, a, x, g1, _⟩ := pen.ex
  exact b l _ h (ne_of h g1 (by intro z; cases z))
theorem pen_free {H H' : Hp} {p c l : Addr} {n : Nat} (pen : PenAt H p c n) (b : But p H H') (h : H' l = none) (pen' : PenAt H' p c n) : H l = none := by
  cases e : H l with
  | none => rfl
  | some o =>
    have nl : l ≠ p := fun z => pen'.there (z ▸ h)
    rw [b l o e nl] at h
    cases h
theorem But.free {H H' : Hp} {p l : Addr} (b : But p H H') (h : H' l = none) (hp : H' p ≠ none) : H l = none := by
  cases e : H l with
  | none => rfl
  | some o =>
    have nl : l ≠ p := fun z => hp (z ▸ h)
    rw [b l o e nl] at h
    cases h
theorem at_strs {ys : List Str} {r : Int} (h0 : 0 ≤ r) (h1 : r < (ys.length : Int)) : ∃ y, atI (ys.map V.str) r = some (.str y) ∧ ys[r.toNat]? = some y ∧ y ∈ ys := by
  have h : r.toNat < ys.length := by omega
  have e : ((r.toNat : Nat) : Int) = r := by omega
  have q := atI_nat (xs := ys.map V.str) (j := r.toNat) (v := .str ys[r.toNat]) (by rw [List.getElem?_map, List.getElem?_eq_getElem h]; rfl)
  rw [e] at q
  exact ⟨_, q, List.getElem?_eq_getElem h, List.getElem_mem h⟩
section
variable {P : Program} {w : World} {K : PySem.W.Frag} {mg : Str → Option Value} {base : Heap}
theorem scMany : FnScope ["_law_pen_here", "_law_way"] ["_law_pen_here"] (defScope sMany) := ⟨rfl, rfl, rfl, by decide +kernel, rfl, by decide +kernel, by decide +kernel⟩
theorem ok_many {f fT : Addr} {fd fdT : FuncData} (F : Fun K "_law_many" "_law_many" sMany f fd) (T : TakeT P w K mg base fT fdT) : FnOk P w K mg base CX0 2 f fd ["_law_pen_here"] spMany := by
  refine F.ok scMany (fun vs H Q E h => ?_) (fun cdv A outer s H vs Q E hr h => ?_)
  · obtain ⟨p, c, n, rfl, _⟩ := h
    rfl
  · obtain ⟨p, c, n, rfl, pen, hn, q⟩ := h
    have nd := scMany.nd
    refine ⟨_, pss_cons (ps_set (i := 1) nd rfl (Or.inl rfl) (pe_call T.ok hr (by rfl) T.g T.kp T.b .nil pass0 (pa_cons (pv 0) (pa_cons pe_int pa_nil))))
      (pss_one (ps_ret (pe_ix ix_list (pe_lst (pa_cons pe_int (pa_cons (pe_op op_add pe_int (pe_call T.ok hr (by rfl) T.g T.kp T.b .nil pass0 (pa_cons (pv 0) (pa_cons pe_int pa_nil))))
        (pa_cons (pe_op op_sub (pe_op op_pow pe_int pe_int) (pe_call T.ok hr (by rfl) T.g T.kp T.b .nil pass0 (pa_cons (pv 0) (pa_cons pe_int pa_nil))))
        (pa_cons (pe_op op_add pe_int (pe_call T.ok hr (by rfl) T.g T.kp T.b .nil pass0 (pa_cons (pv 0) (pa_cons (pe_op op_pow pe_int pe_int) pa_nil)))) pa_nil))))) (pv 1) (fun _ _ => rfl)))), ?_⟩
    refine ⟨_, rfl, p, c, n, 4, rfl, pen, by omega, by decide, by decide, fun r1 H1 a1 b1 pen1 bt1 => ?_⟩
    refine ⟨_, rfl, p, c, n + 1, 9, rfl, pen1, by omega, by decide, by decide, fun r2 H2 a2 b2 pen2 bt2 => ?_⟩
    refine ⟨1, r2, rfl, rfl, 10, 9, rfl, rfl, ⟨by decide, by decide, by decide⟩, _, rfl, p, c, n + 2, 3, rfl, pen2, by omega, by decide, by decide, fun r3 H3 a3 b3 pen3 bt3 => ?_⟩
    refine ⟨_, r3, rfl, rfl, _, rfl, 10, 9, rfl, rfl, ⟨by decide, by decide, by decide⟩, p, c, n + 3, 10 ^ (9 : Int).toNat, rfl, pen3, by omega, by decide, by decide, fun r4 H4 a4 b4 pen4 bt4 => ?_⟩
    have b4' : r4 < 1000000000 := b4
    refine ⟨1, r4, rfl, rfl, (by show 4 ≤ sizeLine; decide), fun l nl => ?_⟩
    have fin : ∀ r : Int, 1 ≤ r → r ≤ 1000000000 → Q (.int r) (upd H4 l (.lst [.int 1, .int (1 + r2), .int (10 ^ (9 : Int).toNat - r3), .int (1 + r4)])) := fun r h1 h2 => q r _ h1 h2 (pen4.same (same_new nl)) ((bt1.tr (bt2.tr (bt3.tr bt4))).tr (.of (same_new nl)))
    have w4 : r1 = 0 ∨ r1 = 1 ∨ r1 = 2 ∨ r1 = 3 := by omega
    rcases w4 with rfl | rfl | rfl | rfl
    · exact ⟨_, rfl, l, _, 0, _, rfl, rfl, SqL.of upd_same, atI_nat (j := 0) rfl, fin _ (by decide) (by decide)⟩
    · exact ⟨_, rfl, l, _, 1, _, rfl, rfl, SqL.of upd_same, atI_nat (j := 1) rfl, fin _ (by omega) (by omega)⟩
    · exact ⟨_, rfl, l, _, 2, _, rfl, rfl, SqL.of upd_same, atI_nat (j := 2) rfl, fin _ (by show (1 : Int) ≤ 1000000000 - r3; omega) (by show (1000000000 : Int) - r3 ≤ 1000000000; omega)⟩
    · exact ⟨_, rfl, l, _, 3, _, rfl, rfl, SqL.of upd_same, atI_nat (j := 3) rfl, fin _ (by omega) (by omega)⟩
abbrev entN : List Str := ["_law_pen_here", "_law_word", "_law_name", "_law_moment", "_law_places", "_law_goods", "_law_hands", "_law_at", "_law_one", "_law_good", "_law_other"]
theorem scEntryOf : FnScope entN ["_law_pen_here", "_law_word", "_law_name", "_law_moment", "_law_places", "_law_goods", "_law_hands"] (defScope sEntryOf) := ⟨rfl, rfl, rfl, by decide +kernel, rfl, by decide +kernel, by decide +kernel⟩
set_option maxHeartbeats 4000000 in
theorem ok_entryOf {f fT fM : Addr} {fd fdT fdM : FuncData} (F : Fun K "_law_entry_of" "_law_entry_of" sEntryOf f fd) (T : TakeT P w K mg base fT fdT) (M : DefT P w K mg base "_law_many" 2 fM fdM ["_law_pen_here"] spMany) (ml : mg "len" = none) :
    FnOk P w K mg base CX0 3 f fd ["_law_pen_here", "_law_word", "_law_name", "_law_moment", "_law_places", "_law_goods", "_law_hands"] spEntryOf := by
  refine F.ok scEntryOf (fun vs H Q E h => ?_) (fun cdv A outer s H vs Q E hr h => ?_)
  · obtain ⟨p, c, n, wd, nme, mo, a1, a2, a3, PL, GL, HL, rfl, _⟩ := h
    rfl
  · obtain ⟨p, c, n, wd, nme, mo, a1, a2, a3, PL, GL, HL, rfl, pen, hn, hw, h1, h2, h3, ne1, ne2, ne3, lp, lg, lh, q⟩ := h
    have nd := scEntryOf.nd
    have hr1 : Room 1 _ := hr.mono (by decide)
    refine ⟨_, pss_cons (ps_set (i := 7) nd rfl (Or.inl rfl) (pe_call T.ok hr1 (by rfl) T.g T.kp T.b .nil pass0 (pa_cons (pv 0) (pa_cons (pe_callB call_len_seq (by rfl) ml PySem.boot_len (pa_cons (pv 4) pa_nil)) pa_nil))))
      (pss_cons (ps_set (i := 8) nd rfl (Or.inl rfl) (pe_ix ix_list (pv 4) (pv 7) (fun _ _ => rfl)))
      (pss_cons (ps_set (i := 9) nd rfl (Or.inl rfl) (pe_ix ix_list (pv 5) (pe_call T.ok hr1 (by rfl) T.g T.kp T.b .nil pass0 (pa_cons (pv 0) (pa_cons (pe_callB call_len_seq (by rfl) ml PySem.boot_len (pa_cons (pv 5) pa_nil)) pa_nil))) (fun _ _ => rfl)))
      (pss_cons (ps_set (i := 10) nd rfl (Or.inl rfl) pe_str)
      (C8.pss_cut (ps_if (pt_cmpR op_gt (pe_callB call_len_seq (by rfl) ml PySem.boot_len (pa_cons (pv 4) pa_nil)) pe_int (nomark _))
        (pss_one (ps_set (i := 10) nd rfl (Or.inl rfl) (pe_ix ix_list (pv 4) (pe_op op_mod (pe_op op_add (pe_op op_add (pv 7) pe_int) (pe_call T.ok hr1 (by rfl) T.g T.kp T.b .nil pass0 (pa_cons (pv 0) (pa_cons (pe_op op_sub (pe_callB call_len_seq (by rfl) ml PySem.boot_len (pa_cons (pv 4) pa_nil)) pe_int) pa_nil)))) (pe_callB call_len_seq (by rfl) ml PySem.boot_len (pa_cons (pv 4) pa_nil))) (fun _ _ => rfl)))) pss_nil)
      (pss_cons (ps_if (pt_cmpR op_eq (pv 1) pe_str (nomark _)) (pss_one (ps_ret (pe_tup (pa_cons (pv 1) (pa_cons (pv 2) (pa_cons (pv 3) (pa_cons (pv 9) (pa_cons (pv 8) (pa_cons (pe_call M.ok hr (by rfl) M.g M.kp M.b .nil pass0 (pa_cons (pv 0) pa_nil)) (pa_cons (pe_op op_sub (pe_call M.ok hr (by rfl) M.g M.kp M.b .nil pass0 (pa_cons (pv 0) pa_nil)) (pe_call T.ok hr1 (by rfl) T.g T.kp T.b .nil pass0 (pa_cons (pv 0) (pa_cons pe_int pa_nil)))) pa_nil)))))))))) pss_nil)
      (pss_cons (ps_if (pt_cmpR op_eq (pv 1) pe_str (nomark _)) (pss_one (ps_ret (pe_tup (pa_cons (pv 1) (pa_cons (pv 2) (pa_cons (pv 3) (pa_cons (pv 9) (pa_cons (pv 8) (pa_cons (pe_call M.ok hr (by rfl) M.g M.kp M.b .nil pass0 (pa_cons (pv 0) pa_nil)) pa_nil))))))))) pss_nil)
      (C8.pss_cut (ps_if (PW.pt (pw_and (pt_cmpR op_eq (pv 1) pe_str (nomark _)) (pw_and1 (pt_cmpR op_ne (pv 10) pe_str (nomark _))))) (pss_one (ps_ret (pe_tup (pa_cons (pv 1) (pa_cons (pv 2) (pa_cons (pv 3) (pa_cons (pv 9) (pa_cons (pv 8) (pa_cons (pv 10) (pa_cons (pe_call M.ok hr (by rfl) M.g M.kp M.b .nil pass0 (pa_cons (pv 0) pa_nil)) pa_nil)))))))))) pss_nil)
      (pss_cons (ps_if (pt_cmpR op_eq (pv 1) pe_str (nomark _)) (pss_one (ps_ret (pe_tup (pa_cons (pv 1) (pa_cons (pv 2) (pa_cons (pv 3) (pa_cons (pv 9) (pa_cons (pv 8) (pa_cons (pe_ix ix_list (pe_lst (pa_cons (pv 10) (pa_cons (pv 10) (pa_cons pe_str pa_nil)))) (pe_call T.ok hr1 (by rfl) T.g T.kp T.b .nil pass0 (pa_cons (pv 0) (pa_cons pe_int pa_nil))) (fun _ _ => rfl)) pa_nil))))))))) pss_nil)
      (C8.pss_cut (ps_if (PW.pt (pw_and (pt_cmpR op_eq (pv 1) pe_str (nomark _)) (pw_and1 (pt_cmpR op_ne (pv 10) pe_str (nomark _))))) (pss_one (ps_ret (pe_tup (pa_cons (pv 1) (pa_cons (pv 2) (pa_cons (pv 3) (pa_cons (pv 8) (pa_cons (pv 10) pa_nil)))))))) pss_nil)
      (pss_cons (ps_if (pt_cmpR op_eq (pv 1) pe_str (nomark _)) (pss_one (ps_ret (pe_tup (pa_cons (pv 1) (pa_cons (pv 2) (pa_cons (pv 3) (pa_cons (pv 9) (pa_cons (pv 8) (pa_cons (pe_op op_sub (pe_call M.ok hr (by rfl) M.g M.kp M.b .nil pass0 (pa_cons (pv 0) pa_nil)) (pe_call T.ok hr1 (by rfl) T.g T.kp T.b .nil pass0 (pa_cons (pv 0) (pa_cons pe_int pa_nil)))) (pa_cons (pe_ix ix_list (pv 6) (pe_call T.ok hr1 (by rfl) T.g T.kp T.b .nil pass0 (pa_cons (pv 0) (pa_cons (pe_callB call_len_seq (by rfl) ml PySem.boot_len (pa_cons (pv 6) pa_nil)) pa_nil))) (fun _ _ => rfl)) pa_nil)))))))))) pss_nil)
      (pss_one (ps_ret (pe_tup (pa_cons pe_str (pa_cons (pv 2) (pa_cons (pv 3) (pa_cons (pv 9) (pa_cons (pv 8) pa_nil)))))))))))))))))), ?_⟩
    have p1 : 0 < PL.length := List.length_pos_iff.mpr ne1
    have g1 : 0 < GL.length := List.length_pos_iff.mpr ne2
    have k1 : 0 < HL.length := List.length_pos_iff.mpr ne3
    have lmap : ∀ ys : List Str, ((ys.map V.str).length : Int) = (ys.length : Int) := fun ys => by rw [List.length_map]
    -- at, one
    refine ⟨_, rfl, _, rfl, a1, _, rfl, .inl (SqL.of h1), p, c, n, _, rfl, pen, by omega, by rw [lmap]; omega, by rw [lmap]; omega, fun r1 H1 b1 d1 pen1 bt1 => ?_⟩
    rw [lmap] at d1
    have h11 := pen_strs pen bt1 h1
    have h12 := pen_strs pen bt1 h2
    have h13 := pen_strs pen bt1 h3
    obtain ⟨one, ho, ho2, ho3⟩ := at_strs b1 d1
    refine ⟨_, rfl, _, rfl, a1, _, r1, _, rfl, rfl, SqL.of h11, ho, ?_⟩
    refine ⟨_, rfl, _, rfl, _, rfl, a2, _, rfl, .inl (SqL.of h12), p, c, n + 1, _, rfl, pen1, by omega, by rw [lmap]; omega, by rw [lmap]; omega, fun r2 H2 b2 d2 pen2 bt2 => ?_⟩
    rw [lmap] at d2
    have h21 := pen_strs pen1 bt2 h11
    have h22 := pen_strs pen1 bt2 h12
    have h23 := pen_strs pen1 bt2 h13
    obtain ⟨good, hg, _, hg3⟩ := at_strs b2 d2
    have bt02 := bt1.tr bt2
    refine ⟨a2, _, r2, _, rfl, rfl, SqL.of h22, hg, ?_⟩
    refine ⟨fun σ' H' => ∃ other : Str, σ' = [some (.ref p), some (.str wd), some (.str nme), some (.int mo), some (.ref a1), some (.ref a2), some (.ref a3), some (.int r1), some (.str one), some (.str good), some (.str other)] ∧ (other = "" ∨ (other ∈ PL ∧ (PL.Nodup → one ≠ other))) ∧
      PenAt H' p c (n + 3) ∧ But p H H' ∧ StrsAt H' a1 PL ∧ StrsAt H' a2 GL ∧ StrsAt H' a3 HL, ?_, ?_⟩
    · refine ⟨_, rfl, a1, _, rfl, .inl (SqL.of h21), _, 1, rfl, rfl, _, rfl, ite2 (fun e => ?_) (fun e => ⟨"", rfl, .inl rfl, pen2.mono (by omega), bt02, h21, h22, h23⟩)⟩
      have e' : 1 < ((PL.map V.str).length : Int) := of_decide_eq_true e
      rw [lmap] at e'
      refine ⟨_, rfl, _, rfl, r1, 1, rfl, rfl, _, rfl, _, rfl, a1, _, rfl, .inl (SqL.of h21), _, 1, rfl, rfl, p, c, n + 2, _, rfl, pen2, by omega, by rw [lmap]; omega, by rw [lmap]; omega, fun r3 H3 b3 d3 pen3 bt3 => ?_⟩
      rw [lmap] at d3
      have h31 := pen_strs pen2 bt3 h21
      have h32 := pen_strs pen2 bt3 h22
      have h33 := pen_strs pen2 bt3 h23
      have x1 : 0 ≤ (r1 + 1 + r3) % (PL.length : Int) := Int.emod_nonneg _ (by omega)
      have x2 : (r1 + 1 + r3) % (PL.length : Int) < (PL.length : Int) := Int.emod_lt_of_pos _ (by omega)
      obtain ⟨other, hp, hp2, hp3⟩ := at_strs x1 x2
      refine ⟨r1 + 1, r3, rfl, rfl, _, rfl, a1, _, rfl, .inl (SqL.of h31), _, (PL.length : Int), rfl, by rw [lmap], (by show (0 : Int) < PL.length; omega), a1, _, _, .str other, rfl, rfl, SqL.of h31, hp, other, rfl, .inr ⟨hp3, fun nod z => ?_⟩, pen3, bt02.tr bt3, h31, h32, h33⟩
      subst z
      have := (List.getElem?_inj (show r1.toNat < PL.length by omega) nod).mp (ho2.trans hp2.symm)
      have x3 : (r1 + 1 + r3) % (PL.length : Int) = r1 + 1 + r3 ∨ (r1 + 1 + r3) % (PL.length : Int) = r1 + 1 + r3 - PL.length := by
        by_cases h : r1 + 1 + r3 < PL.length
        · exact .inl (Int.emod_eq_of_lt (by omega) h)
        · right
          rw [← Int.sub_emod_right]
          exact Int.emod_eq_of_lt (by omega) (by omega)
      omega
    · rintro σ' H3 ⟨other, rfl, oth, pen3, bt3, h31, h32, h33⟩
      have fin : ∀ (tp : Addr) (e : Ent) (H4 : Hp) (k : Nat), H4 tp = none → But p H3 H4 → PenAt H4 p c (n + 3 + k) → k ≤ 17 → e.name = nme → e.moment = mo → e.From PL GL HL → Q (.ref tp) (upd H4 tp (.tup e.vals)) := fun tp e H4 k ntp bt4 pen4 hk e1 e2 e3 =>
        q tp e _ ((bt3.tr bt4).free ntp pen4.there) upd_same e1 e2 e3 ((pen4.mono (by omega)).same (same_new ntp)) ((bt3.tr bt4).tr (.of (same_new ntp)))
      refine ⟨_, rfl, rfl, _, rfl, ite2 (fun e => ?_) (fun e1 => ?_)⟩
      · have e' : wd = "come" := V.str.inj (of_decide_eq_true e)
        subst e'
        refine ⟨_, rfl, _, rfl, _, rfl, _, rfl, _, rfl, _, rfl, p, c, n + 3, rfl, pen3, by omega, fun m1 H4 c1 d1 pen4 bt4 => ?_⟩
        refine ⟨_, rfl, p, c, _, rfl, pen4, by omega, fun m2 H5 c2 d2 pen5 bt5 => ?_⟩
        refine ⟨_, rfl, p, c, _, 2, rfl, pen5, by omega, by decide, by decide, fun r6 H6 c6 d6 pen6 bt6 => ?_⟩
        refine ⟨m2, r6, rfl, rfl, (by show 7 ≤ sizeLine; decide), fun tp ntp => ?_⟩
        exact fin tp (.come nme mo good one m1 (m2 - r6)) H6 9 ntp (bt4.tr (bt5.tr bt6)) pen6 (by decide) rfl rfl ⟨hg3, ho3, c1, d1, by omega, by omega⟩
      refine ⟨_, rfl, rfl, _, rfl, ite2 (fun e => ?_) (fun e2 => ?_)⟩
      · have e' : wd = "go" := V.str.inj (of_decide_eq_true e)
        subst e'
        refine ⟨_, rfl, _, rfl, _, rfl, _, rfl, _, rfl, _, rfl, p, c, n + 3, rfl, pen3, by omega, fun m1 H4 c1 d1 pen4 bt4 => ?_⟩
        refine ⟨(by show 6 ≤ sizeLine; decide), fun tp ntp => ?_⟩
        exact fin tp (.go nme mo good one m1) H4 4 ntp bt4 pen4 (by decide) rfl rfl ⟨hg3, ho3, c1, d1⟩
      have mv : ∀ (A B : Prop), (other ≠ "" → A) → B → (if (!decide (V.str other = V.str "")) = true then A else B) := fun A B hA hB => by
        by_cases z : other = ""
        · subst z
          rw [decide_eq_true rfl]
          exact iteF hB
        · rw [decide_eq_false fun h => z (V.str.inj h)]
          exact iteT (hA z)
      have oin : other ≠ "" → other ∈ PL ∧ (PL.Nodup → one ≠ other) := fun z => oth.resolve_left z
      refine ⟨fun σ' H' => σ' = [some (.ref p), some (.str wd), some (.str nme), some (.int mo), some (.ref a1), some (.ref a2), some (.ref a3), some (.int r1), some (.str one), some (.str good), some (.str other)] ∧ H' = H3, ?_, ?_⟩
      · refine ⟨_, rfl, rfl, _, rfl, ite2 (fun e => ?_) (fun _ => iteF ⟨rfl, rfl⟩)⟩
        have e' : wd = "move" := V.str.inj (of_decide_eq_true e)
        subst e'
        refine ⟨_, rfl, rfl, _, rfl, mv _ _ (fun z => ?_) ⟨rfl, rfl⟩⟩
        refine ⟨_, rfl, _, rfl, _, rfl, _, rfl, _, rfl, _, rfl, _, rfl, p, c, n + 3, rfl, pen3, by omega, fun m1 H4 c1 d1 pen4 bt4 => ?_⟩
        refine ⟨(by show 7 ≤ sizeLine; decide), fun tp ntp => ?_⟩
        exact fin tp (.move nme mo good one other m1) H4 4 ntp bt4 pen4 (by decide) rfl rfl ⟨hg3, ho3, (oin z).1, (oin z).2, c1, d1⟩
      rintro σ' H' ⟨rfl, rfl⟩
      refine ⟨_, rfl, rfl, _, rfl, ite2 (fun e => ?_) (fun e3 => ?_)⟩
      · have e' : wd = "some" := V.str.inj (of_decide_eq_true e)
        subst e'
        refine ⟨_, rfl, _, rfl, _, rfl, _, rfl, _, rfl, _, rfl, _, rfl, (by show 3 ≤ sizeLine; decide), fun l nl => ?_⟩
        have sl := @same_new _ _ (.lst [V.str other, .str other, .str ""]) nl
        have nlp : l ≠ p := fun z => pen3.there (z ▸ nl)
        refine ⟨_, rfl, p, c, n + 3, 3, rfl, pen3.same sl, by omega, by decide, by decide, fun r4 H4 c4 d4 pen4 bt4 => ?_⟩
        have hl := bt4 l _ upd_same nlp
        obtain ⟨to, ht, hto⟩ : ∃ to : Str, atI [V.str other, .str other, .str ""] r4 = some (.str to) ∧ (to = "" ∨ (to ∈ PL ∧ (PL.Nodup → one ≠ to))) := by
          have w3 : r4 = 0 ∨ r4 = 1 ∨ r4 = 2 := by omega
          rcases w3 with rfl | rfl | rfl
          · exact ⟨other, atI_nat (j := 0) rfl, oth⟩
          · exact ⟨other, atI_nat (j := 1) rfl, oth⟩
          · exact ⟨"", atI_nat (j := 2) rfl, .inl rfl⟩
        refine ⟨l, _, r4, _, rfl, rfl, SqL.of hl, ht, (by show 6 ≤ sizeLine; decide), fun tp ntp => ?_⟩
        exact fin tp (.some_ nme mo good one to) H4 1 ntp ((But.of sl).tr bt4) pen4 (by decide) rfl rfl ⟨hg3, ho3, hto⟩
      refine ⟨fun σ' H1 => σ' = [some (.ref p), some (.str wd), some (.str nme), some (.int mo), some (.ref a1), some (.ref a2), some (.ref a3), some (.int r1), some (.str one), some (.str good), some (.str other)] ∧ H1 = H', ?_, ?_⟩
      · refine ⟨_, rfl, rfl, _, rfl, ite2 (fun e => ?_) (fun _ => iteF ⟨rfl, rfl⟩)⟩
        have e' : wd = "swap" := V.str.inj (of_decide_eq_true e)
        subst e'
        refine ⟨_, rfl, rfl, _, rfl, mv _ _ (fun z => ?_) ⟨rfl, rfl⟩⟩
        refine ⟨_, rfl, _, rfl, _, rfl, _, rfl, _, rfl, (by show 5 ≤ sizeLine; decide), fun tp ntp => ?_⟩
        exact fin tp (.swap nme mo one other) H' 0 ntp (.refl _ _) pen3 (by decide) rfl rfl ⟨ho3, (oin z).1, (oin z).2⟩
      rintro σ' H2 ⟨rfl, rfl⟩
      refine ⟨_, rfl, rfl, _, rfl, ite2 (fun e => ?_) (fun e5 => ?_)⟩
      · have e' : wd = "count" := V.str.inj (of_decide_eq_true e)
        subst e'
        refine ⟨_, rfl, _, rfl, _, rfl, _, rfl, _, rfl, _, rfl, p, c, n + 3, rfl, pen3, by omega, fun m1 H4 c1 d1 pen4 bt4 => ?_⟩
        refine ⟨_, rfl, p, c, _, 2, rfl, pen4, by omega, by decide, by decide, fun r5 H5 c5 d5 pen5 bt5 => ?_⟩
        have h43 := pen_strs pen4 bt5 (pen_strs pen3 bt4 h33)
        refine ⟨m1, r5, rfl, rfl, _, rfl, _, rfl, _, rfl, a3, _, rfl, .inl (SqL.of h43), p, c, _, _, rfl, pen5, by omega, by rw [lmap]; omega, by rw [lmap]; omega, fun r6 H6 c6 d6 pen6 bt6 => ?_⟩
        rw [lmap] at d6
        obtain ⟨hand, hh, _, hh3⟩ := at_strs c6 d6
        refine ⟨a3, _, r6, _, rfl, rfl, SqL.of (pen_strs pen5 bt6 h43), hh, (by show 7 ≤ sizeLine; decide), fun tp ntp => ?_⟩
        exact fin tp (.count nme mo good one (m1 - r5) hand) H6 6 ntp (bt4.tr (bt5.tr bt6)) pen6 (by decide) rfl rfl ⟨hg3, ho3, by omega, by omega, hh3⟩
      refine ⟨_, rfl, _, rfl, _, rfl, _, rfl, (by show 5 ≤ sizeLine; decide), fun tp ntp => ?_⟩
      exact fin tp (.look nme mo good one) H2 0 ntp (.refl _ _) pen3 (by decide) rfl rfl ⟨hg3, ho3⟩
abbrev entryN : List Str := ["_law_pen_here", "_law_name", "_law_moment", "_law_places", "_law_goods", "_law_hands", "_law_words_here"]
theorem scEntry : FnScope entryN ["_law_pen_here", "_law_name", "_law_moment", "_law_places", "_law_goods", "_law_hands"] (defScope sEntry) := ⟨rfl, rfl, rfl, by decide +kernel, rfl, by decide +kernel, by decide +kernel⟩
theorem ok_entry {f fT fE : Addr} {fd fdT fdE : FuncData} (F : Fun K "_law_entry" "_law_entry" sEntry f fd) (T : TakeT P w K mg base fT fdT)
    (EO : DefT P w K mg base "_law_entry_of" 3 fE fdE ["_law_pen_here", "_law_word", "_law_name", "_law_moment", "_law_places", "_law_goods", "_law_hands"] spEntryOf) :
    FnOk P w K mg base CX0 4 f fd ["_law_pen_here", "_law_name", "_law_moment", "_law_places", "_law_goods", "_law_hands"] spEntry := by
  refine F.ok scEntry (fun vs H Q E h => ?_) (fun cdv A outer s H vs Q E hr h => ?_)
  · obtain ⟨p, c, n, nme, mo, a1, a2, a3, PL, GL, HL, rfl, _⟩ := h
    rfl
  · obtain ⟨p, c, n, nme, mo, a1, a2, a3, PL, GL, HL, rfl, pen, hn, h1, h2, h3, ne1, ne2, ne3, lp, lg, lh, q⟩ := h
    have nd := scEntry.nd
    have hr1 : Room 1 _ := hr.mono (by decide)
    refine ⟨_, pss_cons (ps_set (i := 6) nd rfl (Or.inl rfl) (pe_lst (pa_cons pe_str (pa_cons pe_str (pa_cons pe_str (pa_cons pe_str (pa_cons pe_str (pa_cons pe_str (pa_cons pe_str (pa_cons pe_str (pa_cons pe_str (pa_cons pe_str pa_nil))))))))))))
      (pss_one (ps_ret (pe_call EO.ok hr (by rfl) EO.g EO.kp EO.b .nil pass0 (pa_cons (pv 0) (pa_cons (pe_ix ix_list (pv 6) (pe_call T.ok hr1 (by rfl) T.g T.kp T.b .nil pass0 (pa_cons (pv 0) (pa_cons pe_int pa_nil))) (fun _ _ => rfl)) (pa_cons (pv 1) (pa_cons (pv 2) (pa_cons (pv 3) (pa_cons (pv 4) (pa_cons (pv 5) pa_nil)))))))))), ?_⟩
    refine ⟨(by show 10 ≤ sizeLine; decide), fun l nl => ?_⟩
    have sl := @same_new _ _ (.lst (words10.map V.str)) nl
    have nlp : l ≠ p := fun z => pen.there (z ▸ nl)
    have pen' := pen.same sl
    refine ⟨_, rfl, _, rfl, _, rfl, p, c, n, 10, rfl, pen', by omega, by decide, by decide, fun r1 H1 b1 d1 pen1 bt1 => ?_⟩
    obtain ⟨wd, hw, _, hw3⟩ := at_strs (ys := words10) b1 d1
    have hl : StrsAt H1 l words10 := bt1 l _ upd_same nlp
    have w7 : wd ∈ words7 := by
      simp only [List.mem_cons, List.not_mem_nil, or_false] at hw3
      rcases hw3 with rfl | rfl | rfl | rfl | rfl | rfl | rfl | rfl | rfl | rfl <;> simp [words7]
    refine ⟨l, _, r1, _, rfl, rfl, SqL.of hl, hw, _, rfl, _, rfl, _, rfl, _, rfl, _, rfl, p, c, n + 1, wd, nme, mo, a1, a2, a3, PL, GL, HL, rfl, pen1, by omega, w7, pen_strs pen' bt1 (sl _ _ h1), pen_strs pen' bt1 (sl _ _ h2), pen_strs pen' bt1 (sl _ _ h3), ne1, ne2, ne3, lp, lg, lh, fun tp e H2 ntp ht en em ef pen2 bt2 => ?_⟩
    exact q tp e H2 (sl.free ((bt1.free ntp pen1.there))) ht en em ef (pen2.mono (by omega)) ((But.of sl).tr (bt1.tr bt2))
end
/-! ### words and moments -/
def NmL (ys : List Str) (m : Nat) : Prop := ∃ way t B sp, NmOk way t B sp ∧ ys = (List.range m).map (nmStr way t B sp)
theorem nmAt_strs {H : Hp} {l : Addr} {m : Nat} (h : NmAt H l m) : ∃ ys, StrsAt H l ys ∧ NmL ys m := by
  obtain ⟨way, t, B, sp, ok, e⟩ := h
  refine ⟨(List.range m).map (nmStr way t B sp), ?_, way, t, B, sp, ok, rfl⟩
  show H l = _
  rw [e, List.map_map]
  rfl
theorem NmL.len {ys : List Str} {m : Nat} (h : NmL ys m) : ys.length = m := by
  obtain ⟨way, t, B, sp, ok, rfl⟩ := h
  simp
theorem NmL.take {ys : List Str} {m k : Nat} (h : NmL ys m) (hk : k ≤ m) : NmL (ys.take k) k := by
  obtain ⟨way, t, B, sp, ok, rfl⟩ := h
  refine ⟨way, t, B, sp, ok, ?_⟩
  rw [← List.map_take, List.take_range, Nat.min_eq_left hk]
theorem cut_take {xs : List V} {k : Nat} : cutV xs none (some (k : Int)) = xs.take k := by
  unfold cutV
  rw [HT.sIx_none, HT.sIx_nat]
  show (xs.drop 0).take (min k xs.length - 0) = xs.take k
  rw [List.drop_zero, Nat.sub_zero]
  by_cases h : k ≤ xs.length
  · rw [Nat.min_eq_left h]
  · rw [Nat.min_eq_right (by omega), List.take_length, List.take_of_length_le (by omega)]
def spWords : Sp := fun vs H Q _ => ∃ (p c : Addr) (n : Nat) (a b e : Nat), vs = [.ref p, .int a, .int b, .int e] ∧ PenAt H p c n ∧ n ≤ 40000 ∧ a ≤ 31 ∧ b ≤ 31 ∧ e ≤ 31 ∧
  ∀ (tp l1 l2 l3 l4 : Addr) (PL GL HL EL : List Str) (H' : Hp), H tp = none → H' tp = some (.tup [.ref l1, .ref l2, .ref l3, .ref l4]) → StrsAt H' l1 PL → StrsAt H' l2 GL → StrsAt H' l3 HL → StrsAt H' l4 EL →
    NmL PL a → NmL GL b → NmL HL 3 → NmL EL e → PenAt H' p c (n + 50) → But p H H' → Q (.ref tp) H'
def spMoments : Sp := fun vs H Q _ => ∃ (p c : Addr) (n : Nat) (m : Nat), vs = [.ref p, .int m] ∧ PenAt H p c n ∧ n ≤ 60000 ∧ m ≤ 31 ∧
  ∀ (l : Addr) (ns : List Int) (H' : Hp), H l = none → H' l = some (.lst (ns.map V.int)) → ns.length = m → (∀ x ∈ ns, 0 ≤ x ∧ x ≤ 9999) → PenAt H' p c (n + 100) → But p H H' → Q (.ref l) H'
section
variable {P : Program} {w : World} {K : PySem.W.Frag} {mg : Str → Option Value} {base : Heap}
abbrev wordsN : List Str := ["_law_pen_here", "_law_places", "_law_goods", "_law_entries", "_law_some", "_law_hands"]
theorem scWords : FnScope wordsN ["_law_pen_here", "_law_places", "_law_goods", "_law_entries"] (defScope sWords) := ⟨rfl, rfl, rfl, by decide +kernel, rfl, by decide +kernel, by decide +kernel⟩
theorem ok_words {f fT fN : Addr} {fd fdT fdN : FuncData} (F : Fun K "_law_words" "_law_words" sWords f fd) (T : TakeT P w K mg base fT fdT) (N : DefT P w K mg base "_law_names" 2 fN fdN ["_law_pen_here", "_law_many_here"] spNames) :
    FnOk P w K mg base CX0 3 f fd ["_law_pen_here", "_law_places", "_law_goods", "_law_entries"] spWords := by
  refine F.ok scWords (fun vs H Q E h => ?_) (fun cdv A outer s H vs Q E hr h => ?_)
  · obtain ⟨p, c, n, a, b, e, rfl, _⟩ := h
    rfl
  · obtain ⟨p, c, n, a, b, e, rfl, pen, hn, ha, hb, he, q⟩ := h
    have nd := scWords.nd
    have hr1 : Room 1 _ := hr.mono (by decide)
    refine ⟨_, pss_cons (ps_if (pt_cmpR op_eq (pe_call T.ok hr1 (by rfl) T.g T.kp T.b .nil pass0 (pa_cons (pv 0) (pa_cons pe_int pa_nil))) pe_int (nomark _))
        (pss_cons (ps_set (i := 4) nd rfl (Or.inl rfl) (pe_call N.ok hr (by rfl) N.g N.kp N.b .nil pass0 (pa_cons (pv 0) (pa_cons pe_int pa_nil))))
        (pss_one (ps_ret (pe_tup (pa_cons (pe_slice sl_list (pv 4) po_none (po_some (pv 1))) (pa_cons (pe_slice sl_list (pv 4) po_none (po_some (pv 2))) (pa_cons (pe_slice sl_list (pv 4) po_none (po_some pe_int)) (pa_cons (pe_slice sl_list (pv 4) po_none (po_some (pv 3))) pa_nil)))))))) pss_nil)
      (pss_cons (ps_set (i := 5) nd rfl (Or.inl rfl) (pe_call N.ok hr (by rfl) N.g N.kp N.b .nil pass0 (pa_cons (pv 0) (pa_cons pe_int pa_nil))))
      (pss_one (ps_ret (pe_tup (pa_cons (pe_call N.ok hr (by rfl) N.g N.kp N.b .nil pass0 (pa_cons (pv 0) (pa_cons (pv 1) pa_nil))) (pa_cons (pe_call N.ok hr (by rfl) N.g N.kp N.b .nil pass0 (pa_cons (pv 0) (pa_cons (pv 2) pa_nil))) (pa_cons (pv 5) (pa_cons (pe_call N.ok hr (by rfl) N.g N.kp N.b .nil pass0 (pa_cons (pv 0) (pa_cons (pv 3) pa_nil))) pa_nil)))))))), ?_⟩
    refine ⟨_, rfl, p, c, n, 4, rfl, pen, by omega, by decide, by decide, fun r1 H1 b1 d1 pen1 bt1 => ⟨rfl, _, rfl, ite2 (fun _ => ?_) (fun _ => ?_)⟩⟩
    · refine ⟨_, rfl, p, c, n + 1, 31, rfl, pen1, by omega, by decide, by decide, fun l H2 nl hl pen2 bt2 => ?_⟩
      obtain ⟨ys, hy, ny⟩ := nmAt_strs hl
      have tk : ∀ k : Nat, cutV (ys.map V.str) none (some (k : Int)) = (ys.take k).map V.str := fun k => by rw [cut_take, List.map_take]
      refine ⟨_, rfl, _, rfl, (a : Int), rfl, l, _, rfl, SqL.of hy, fun l1 n1 => ?_⟩
      have s1 := @same_new _ _ (.lst (cutV (ys.map V.str) none (some (a : Int)))) n1
      refine ⟨_, rfl, _, rfl, (b : Int), rfl, l, _, rfl, SqL.of (s1 _ _ hy), fun l2 n2 => ?_⟩
      have s2 := @same_new _ _ (.lst (cutV (ys.map V.str) none (some (b : Int)))) n2
      refine ⟨_, rfl, 3, rfl, l, _, rfl, SqL.of (s2 _ _ (s1 _ _ hy)), fun l3 n3 => ?_⟩
      have s3 := @same_new _ _ (.lst (cutV (ys.map V.str) none (some (3 : Int)))) n3
      refine ⟨_, rfl, _, rfl, (e : Int), rfl, l, _, rfl, SqL.of (s3 _ _ (s2 _ _ (s1 _ _ hy))), fun l4 n4 => ?_⟩
      have s4 := @same_new _ _ (.lst (cutV (ys.map V.str) none (some (e : Int)))) n4
      refine ⟨(by show 4 ≤ sizeLine; decide), fun tp ntp => ?_⟩
      have s5 := @same_new _ _ (.tup [V.ref l1, .ref l2, .ref l3, .ref l4]) ntp
      have u4 := s4.trans s5
      have u3 := s3.trans u4
      have u2 := s2.trans u3
      have u1 := s1.trans u2
      have bt := (bt1.tr bt2).tr (.of u1)
      have f0 : H tp = none := (bt1.tr bt2).free (s1.free (s2.free (s3.free (s4.free ntp)))) pen2.there
      refine q tp l1 l2 l3 l4 (ys.take a) (ys.take b) (ys.take 3) (ys.take e) _ f0 upd_same ?_ ?_ ?_ ?_ (ny.take ha) (ny.take hb) (ny.take (by decide)) (ny.take he) ((pen2.mono (by omega)).same u1) bt
      · exact u2 _ _ (by rw [upd_same, tk])
      · exact u3 _ _ (by rw [upd_same, tk])
      · exact u4 _ _ (by rw [upd_same]; exact congrArg (fun z => some (HO.lst z)) (tk 3))
      · exact s5 _ _ (by rw [upd_same, tk])
    · refine ⟨_, rfl, p, c, n + 1, 3, rfl, pen1, by omega, by decide, by decide, fun l3 H2 nl3 hl3 pen2 bt2 => ?_⟩
      obtain ⟨ys3, hy3, ny3⟩ := nmAt_strs hl3
      refine ⟨_, rfl, _, rfl, p, c, n + 11, (a : Int), rfl, pen2, by omega, by omega, by omega, fun l1 H3 nl1 hl1 pen3 bt3 => ?_⟩
      obtain ⟨ys1, hy1, ny1⟩ := nmAt_strs hl1
      refine ⟨_, rfl, _, rfl, p, c, n + 21, (b : Int), rfl, pen3, by omega, by omega, by omega, fun l2 H4 nl2 hl2 pen4 bt4 => ?_⟩
      obtain ⟨ys2, hy2, ny2⟩ := nmAt_strs hl2
      refine ⟨_, rfl, _, rfl, _, rfl, p, c, n + 31, (e : Int), rfl, pen4, by omega, by omega, by omega, fun l4 H5 nl4 hl4 pen5 bt5 => ?_⟩
      obtain ⟨ys4, hy4, ny4⟩ := nmAt_strs hl4
      refine ⟨(by show 4 ≤ sizeLine; decide), fun tp ntp => ?_⟩
      have s5 := @same_new _ _ (.tup [V.ref l1, .ref l2, .ref l3, .ref l4]) ntp
      have bt := bt1.tr (bt2.tr (bt3.tr (bt4.tr bt5)))
      exact q tp l1 l2 l3 l4 ys1 ys2 ys3 ys4 _ (bt.free ntp pen5.there) upd_same (s5 _ _ (pen_strs pen4 bt5 (pen_strs pen3 bt4 hy1))) (s5 _ _ (pen_strs pen4 bt5 hy2)) (s5 _ _ (pen_strs pen4 bt5 (pen_strs pen3 bt4 (pen_strs pen2 bt3 hy3)))) (s5 _ _ hy4)
        (by rw [Int.toNat_natCast] at ny1; exact ny1) (by rw [Int.toNat_natCast] at ny2; exact ny2) ny3 (by rw [Int.toNat_natCast] at ny4; exact ny4) ((pen5.mono (by omega)).same s5) (bt.tr (.of s5))
abbrev momN : List Str := ["_law_pen_here", "_law_many_here", "_law_way", "_law_some", "_law_k", "_law_few", "_law_found"]
theorem scMom : FnScope momN ["_law_pen_here", "_law_many_here"] (defScope sMoments) := ⟨rfl, rfl, rfl, by decide +kernel, rfl, by decide +kernel, by decide +kernel⟩
theorem at_ints {ns : List Int} {r : Int} (h0 : 0 ≤ r) (h1 : r < (ns.length : Int)) : ∃ y, atI (ns.map V.int) r = some (.int y) ∧ y ∈ ns := by
  have h : r.toNat < ns.length := by omega
  have e : ((r.toNat : Nat) : Int) = r := by omega
  have q := atI_nat (xs := ns.map V.int) (j := r.toNat) (v := .int ns[r.toNat]) (by rw [List.getElem?_map, List.getElem?_eq_getElem h]; rfl)
  rw [e] at q
  exact ⟨_, q, List.getElem_mem h⟩
set_option maxHeartbeats 4000000 in
theorem ok_moments {f fT : Addr} {fd fdT : FuncData} (F : Fun K "_law_moments" "_law_moments" sMoments f fd) (T : TakeT P w K mg base fT fdT) (ml : mg "len" = none) (mr : mg "range" = none) (mi : mg "int" = none) :
    FnOk P w K mg base CX0 2 f fd ["_law_pen_here", "_law_many_here"] spMoments := by
  refine F.ok scMom (fun vs H Q E h => ?_) (fun cdv A outer s H vs Q E hr h => ?_)
  · obtain ⟨p, c, n, m, rfl, _⟩ := h
    rfl
  · obtain ⟨p, c, n, m, rfl, pen, hn, hm, q⟩ := h
    have nd := scMom.nd
    refine ⟨_, pss_cons (ps_set (i := 2) nd rfl (Or.inl rfl) (pe_call T.ok hr (by rfl) T.g T.kp T.b .nil pass0 (pa_cons (pv 0) (pa_cons pe_int pa_nil))))
      (pss_cons (ps_set (i := 3) nd rfl (Or.inr rfl) (pe_lst (pa_cons pe_int (pa_cons pe_int (pa_cons pe_int (pa_cons pe_int (pa_cons (pe_call T.ok hr (by rfl) T.g T.kp T.b .nil pass0 (pa_cons (pv 0) (pa_cons pe_int pa_nil))) (pa_cons (pe_call T.ok hr (by rfl) T.g T.kp T.b .nil pass0 (pa_cons (pv 0) (pa_cons pe_int pa_nil))) pa_nil))))))))
      (pss_cons (ps_setLc (i := 5) (own := [("_law_k", 4)]) (g := gName 4) (tt := tYes) (te := tOp (rIxL K) (tVar 3) (tCall spTake [] E0 (tCons (tVar 0) (tCons (tC (V.int 6)) tNil)))) rfl nd rfl rfl (sw_true rfl rfl rfl (by decide +kernel))
          (pi_range1 rfl mr (pa_cons (pe_op op_add pe_int (pe_call T.ok hr (by rfl) T.g T.kp T.b .nil pass0 (pa_cons (pv 0) (pa_cons pe_int pa_nil)))) pa_nil))
          (blkOk_by (N := momN) (sc := defScope sMoments) (by decide +kernel))
          (fun _ _ _ _ _ => pg_name (i := 4) nd rfl (Or.inl rfl)) (fun _ _ _ _ _ => pts_nil)
          (fun _ _ _ _ _ => pe_ix ix_list (pv 3) (pe_call T.ok hr (by rfl) T.g T.kp T.b .nil pass0 (pa_cons (pv 0) (pa_cons pe_int pa_nil))) (fun _ _ => rfl)))
      (pss_cons (ps_set (i := 6) nd rfl (Or.inl rfl) (pe_lst pa_nil))
      (pss_cons (ps_for PassesOwn.never rfl (pi_range1 rfl mr (pa_cons (pv 1) pa_nil)) (pg_name (i := 4) nd rfl (Or.inl rfl))
        (pss_one (ps_expr (pe_bm PySem.F.plainAttrs_list PySem.F.slot_list_append PySem.F.type_list_append mt_append (pv 6) (pa_cons (pe_ix ix_list
          (pe_lst (pa_cons (pe_ix ix_list (pv 5) (pe_call T.ok hr (by rfl) T.g T.kp T.b .nil pass0 (pa_cons (pv 0) (pa_cons (pe_callB call_len_seq (by rfl) ml PySem.boot_len (pa_cons (pv 5) pa_nil)) pa_nil))) (fun _ _ => rfl)) (pa_cons (pe_call T.ok hr (by rfl) T.g T.kp T.b .nil pass0 (pa_cons (pv 0) (pa_cons pe_int pa_nil))) pa_nil)))
          (pe_callTy call_int1 (by rfl) mi (by decide +kernel) (pa_cons (pe_cmpR op_eq (pv 2) pe_int (nomark _)) pa_nil)) (fun _ _ => rfl)) pa_nil)))))
      (pss_one (ps_ret (pv 6))))))), ?_⟩
    refine ⟨_, rfl, p, c, n, 4, rfl, pen, by omega, by decide, by decide, fun r1 H1 b1 d1 pen1 bt1 => ?_⟩
    refine ⟨_, rfl, p, c, n + 1, 10000, rfl, pen1, by omega, by decide, by decide, fun r2 H2 b2 d2 pen2 bt2 => ?_⟩
    refine ⟨_, rfl, p, c, n + 2, 10000, rfl, pen2, by omega, by decide, by decide, fun r3 H3 b3 d3 pen3 bt3 => ?_⟩
    refine ⟨(by show 6 ≤ sizeLine; decide), fun S nS => ?_⟩
    have sS := @same_new _ _ (.lst (([0, 99, 100, 9999, r2, r3] : List Int).map V.int)) nS
    have penS := pen3.same sS
    have nSp : S ≠ p := fun z => pen3.there (z ▸ nS)
    have btS : But p H (upd H3 S (.lst (([0, 99, 100, 9999, r2, r3] : List Int).map V.int))) := (bt1.tr (bt2.tr bt3)).tr (.of sS)
    have hS : (upd H3 S (.lst (([0, 99, 100, 9999, r2, r3] : List Int).map V.int))) S = some (.lst (([0, 99, 100, 9999, r2, r3] : List Int).map V.int)) := upd_same
    refine ⟨_, rfl, p, c, n + 3, 4, rfl, penS, by omega, by decide, by decide, fun r4 H4 b4 d4 pen4 bt4 => ?_⟩
    have hS4 := bt4 S _ hS nSp
    refine ⟨1, r4, rfl, rfl, 1 + r4, rfl, by omega, by omega, fun D nD => ?_⟩
    have nDp : D ≠ p := fun z => pen4.there (z ▸ nD)
    have nDc : D ≠ c := fun z => pen4.cells (z ▸ nD)
    have nSD : S ≠ D := ne_of_none hS4 nD
    have hDn : H D = none := (btS.tr bt4).free nD pen4.there
    refine lc_range (lo := 0) (n := (1 + r4).toNat) (fun j H' => PenAt H' p c (n + 4 + j) ∧ But p H H' ∧ H' S = some (.lst (([0, 99, 100, 9999, r2, r3] : List Int).map V.int)) ∧ ∃ fs : List Int, H' D = some (.lst (fs.map V.int)) ∧ fs.length = j ∧ ∀ x ∈ fs, 0 ≤ x ∧ x ≤ 9999)
      ⟨pen4.same (same_new nD), (btS.tr bt4).tr (.of (same_new nD)), (upd_ne nSD).trans hS4, [], upd_same, rfl, fun y hy => nomatch hy⟩ ?_ ?_
    · rintro j H6 hj ⟨pen6, bt6, hS6, fs, hD6, lf, bd⟩
      refine ⟨rfl, yesT ?_⟩
      refine ⟨_, rfl, _, rfl, p, c, _, 6, rfl, pen6, by omega, by decide, by decide, fun r H7 b7 d7 pen7 bt7 => ?_⟩
      obtain ⟨y, hy, my⟩ := at_ints (ns := [0, 99, 100, 9999, r2, r3]) b7 d7
      have hD7 := bt7 D _ hD6 nDp
      have hS7 := bt7 S _ hS6 nSp
      refine ⟨S, _, r, _, rfl, rfl, SqL.of hS7, hy, _, hD7, (by rw [List.length_map]; exact small1000 (by omega)), pen7.upd nDp nDc, fun b o e nb => (upd_ne (ne_of_none e hDn)).trans ((bt6.tr bt7) b o e nb), (upd_ne nSD).trans hS7, fs ++ [y], ?_, by simp [lf], ?_⟩
      · rw [upd_same, List.map_append]
        rfl
      · intro x hx
        rcases List.mem_append.mp hx with h | h
        · exact bd x h
        · rw [List.mem_singleton.mp h]
          simp only [List.mem_cons, List.not_mem_nil, or_false] at my
          rcases my with rfl | rfl | rfl | rfl | rfl | rfl <;> constructor <;> omega
    · rintro H6 ⟨pen6, bt6, hS6, fs, hD6, lf, bd⟩
      refine ⟨Nat.zero_le _, fun Fd nFd => ?_⟩
      have nFp : Fd ≠ p := fun z => pen6.there (z ▸ nFd)
      have nFc : Fd ≠ c := fun z => pen6.cells (z ▸ nFd)
      have nDF : D ≠ Fd := ne_of_none hD6 nFd
      have hFn : H Fd = none := bt6.free nFd pen6.there
      refine ⟨_, rfl, (m : Int), rfl, by omega, by omega, for_range (lo := 0) (n := (m : Int).toNat) (fun j σ H' => ∃ y4, σ = [some (.ref p), some (.int (m : Int)), some (.int r1), some (.ref S), y4, some (.ref D), some (.ref Fd)] ∧ PenAt H' p c (n + 8 + 2 * j) ∧ But p H H' ∧ H' D = some (.lst (fs.map V.int)) ∧
        ∃ ns : List Int, H' Fd = some (.lst (ns.map V.int)) ∧ ns.length = j ∧ ∀ x ∈ ns, 0 ≤ x ∧ x ≤ 9999) ⟨_, rfl, (pen6.mono (by omega)).same (same_new nFd), bt6.tr (.of (same_new nFd)), (upd_ne nDF).trans hD6, [], upd_same, rfl, fun y hy => nomatch hy⟩ ?_ ?_⟩
      · rintro j σ H9 hj ⟨y4, rfl, pen9, bt9, hD9, ns, hF9, ln, bn⟩
        have lfs : ((fs.map V.int).length : Int) = (fs.length : Int) := by rw [List.length_map]
        refine ⟨_, rfl, .inl ⟨rfl, _, SqL.of hF9⟩, _, rfl, _, rfl, _, rfl, D, _, rfl, .inl (SqL.of hD9), p, c, _, _, rfl, pen9, by omega, by rw [lfs]; omega, by rw [lfs]; omega, fun r5 H10 b5 d5 pen10 bt10 => ?_⟩
        rw [lfs] at d5
        obtain ⟨y, hy, my⟩ := at_ints b5 d5
        have hD10 := bt10 D _ hD9 nDp
        refine ⟨D, _, r5, _, rfl, rfl, SqL.of hD10, hy, _, rfl, p, c, _, 10000, rfl, pen10, by omega, by decide, by decide, fun r6 H11 b6 d6 pen11 bt11 => ?_⟩
        refine ⟨(by show 2 ≤ sizeLine; decide), fun L nL => ?_⟩
        have sL := @same_new _ _ (.lst (([y, r6] : List Int).map V.int)) nL
        refine ⟨_, rfl, rfl, .inr ⟨decide (V.int r1 = V.int 0), rfl, ?_⟩⟩
        have z01 : (0 : Int) ≤ (if decide (V.int r1 = V.int 0) = true then 1 else 0) ∧ (if decide (V.int r1 = V.int 0) = true then (1 : Int) else 0) < 2 := by
          cases decide (V.int r1 = V.int 0) <;> decide
        obtain ⟨x, hx, mx⟩ := at_ints (ns := [y, r6]) z01.1 z01.2
        have hF12 := sL _ _ (bt11 Fd _ (bt10 Fd _ hF9 nFp) nFp)
        have bt12 := (bt9.tr (bt10.tr bt11)).tr (.of sL)
        refine ⟨L, _, _, _, rfl, rfl, SqL.of upd_same, hx, Fd, _, _, rfl, rfl, hF12, (by rw [List.length_map]; exact small1000 (by omega)), _, rfl, (((pen11.mono (by omega)).same sL).upd nFp nFc), fun b o e nb => (upd_ne (ne_of_none e hFn)).trans (bt12 b o e nb), (upd_ne nDF).trans (sL _ _ (bt11 D _ hD10 nDp)), ns ++ [x], ?_, by simp [ln], ?_⟩
        · rw [upd_same, List.map_append]
          rfl
        · intro z hz
          rcases List.mem_append.mp hz with h | h
          · exact bn z h
          · rw [List.mem_singleton.mp h]
            have by_ := bd y my
            simp only [List.mem_cons, List.not_mem_nil, or_false] at mx
            rcases mx with rfl | rfl <;> constructor <;> omega
      · rintro σ H9 ⟨y4, rfl, pen9, bt9, hD9, ns, hF9, ln, bn⟩
        exact ⟨_, rfl, q Fd ns H9 hFn hF9 (by omega) bn (pen9.mono (by omega)) bt9⟩
end
/-! ### generator expressions whose element reads the module's names and the def's cells -/
section
variable {X : Cx} {pins : List (Addr × Obj)} {σ : L2.St} {H : Hp} {s : Shared}
/-- walking u makes one new object and reads fp alone; n items, the i-th one as Pf says -/
def GSrc (X : Cx) (T : Addr) (u : Value) (s1 : Shared) (n : Nat) (Pf : Nat → Value → Prop) : Prop :=
  ∀ (Q : Value → Shared → Prop) (E : Value → Shared → Prop),
    (∀ (o : Obj) (fp : List Addr) (St : Nat → Heap → Prop),
      (∀ A' : Around, A'.handled = none → Walks X.prog X.w A' s1.heap.objs.size fp [s1.heap.objs.size] n Pf St) →
      St 0 (s1.heap.push o) → (∀ b ∈ fp, b ≤ s1.heap.objs.size ∧ b ≠ T) →
      Q (.ref s1.heap.objs.size) { s1 with heap := s1.heap.push o }) →
    wpAny (model X.prog X.w) X.A (pyIter u) Q E s1
/-- the tests and the element at the item v: nothing that stood is changed -/
structure GElt (X : Cx) (T : Addr) (scope : Scope) (x : Str) (ifs : List Expr) (elt : Expr) (s1 : Shared) (Pf : Nat → Value → Prop) (pz : Nat → Bool) (F : Nat → Value → Prop) : Prop where
  run : ∀ (ce : Env) (A' : Around) (E' : Value → Shared → Prop) (i : Nat) (v : Value) (s2 : Shared) (m2 : Str → Option Value),
    ce.scope = scope → ce.globals = mainGlobals → ce.cells = cloFrom X.env.cells scope.names [] → A'.handled = none → Pf i v → s2.heap.Ns ce.locals m2 → m2 x = some v →
    (∀ b u, b ≠ T → s1.heap.get? b = some u → s2.heap.get? b = some u) →
    wpAny (model X.prog X.w) A' (forIn ifs true fun c r => if r = true then do let ok ← isTrue c ce (eval c ce); pure (ForInStep.yield ok) else pure (ForInStep.yield r)) (fun ok s3 => ok = pz i ∧ Keeps s2 s3) E' s2 ∧
    (pz i = true → wpAny (model X.prog X.w) A' (eval elt ce) (fun y s3 => F i y ∧ Keeps s2 s3) E' s2)
/-- the generator g is ready to be walked in s5 -/
def GReady (X : Cx) (pins : List (Addr × Obj)) (σ : L2.St) (H1 : Hp) (T : Addr) (n : Nat) (pz : Nat → Bool) (F : Nat → Value → Prop) (g : Addr) (s5 : Shared) : Prop :=
  ∃ (fp wr : List Addr) (G : Array GenState → Array GenState → Prop) (St : Nat → Shared → Prop),
    WalksS X.prog X.w X.A.in1 g fp wr G (passing pz n 0).length (fun j y => ∃ i, (passing pz n 0)[j]? = some i ∧ F i y) St ∧ St 0 s5 ∧
    ∀ s', Moved wr G s5 s' → ∃ H2, GxR.Tabbed T H1 H2 ∧ Inv X pins σ H2 s'
theorem gen_mk {c T : Addr} {elt iter : Expr} {x : Str} {px gpos : Pos} {ifs : List Expr} {scope : Scope} {te : TE} {k : Nat} {Q' : Value → Shared → Prop} {R : V → Hp → Prop}
    (hr : Room k X.A) (TB : GxR.TabB X.base X.mg c T) (hcode : X.env.code = .ref c) (S : GxR.GenS X.env scope x) (hi : PE X iter te)
    (hs : ∀ v, genFold iter X.env v = pure v) (I : Inv X pins σ H s) (h : te σ H fun v H1 => GxR.TabG H1 T ∧ R v H1)
    (hQ : ∀ v u H1 s1, Inv X pins σ H1 s1 → RelV v u → GxR.TabG H1 T → R v H1 → ∃ n Pf pz F, GSrc X T u s1 n Pf ∧ GElt X T scope x ifs elt s1 Pf pz F ∧
      ∀ g s5, GReady X pins σ H1 T n pz F g s5 → Q' (.ref g) s5) :
    wpAny (model X.prog X.w) X.A (eval (.GeneratorExp elt [⟨.Name x px, iter, ifs, 0⟩] scope gpos) X.env) Q' X.xe s := by
  refine wpAny_GeneratorExp_walksQ hr.hd S.co (closure_ok S.free) S.cell S.dot S.loc S.kind (Nat.lt_of_le_of_lt (by omega : X.A.depth ≤ X.A.depth + 3 * k + 5) hr.dp) ?_ hs
  refine thn (hi.run pins s σ H _ I h) fun u s1 ⟨v, H1, J, rv, ⟨ps, hT, hok⟩, hR⟩ => ?_
  obtain ⟨n, Pf, pz, F, src, el, fin⟩ := hQ v u H1 s1 J rv ⟨ps, hT, hok⟩ hR
  refine src _ _ fun o fp St W st0 hfp => ?_
  have gT : s1.heap.get? T = some (PySem.W.tabObj ps) := J.hok T _ hT
  have ltT := Heap.lt_size gT
  have sz : (s1.heap.push o).objs.size = s1.heap.objs.size + 1 := Heap.size_push ..
  have cd : PySem.W.CodeHd (s1.heap.push o) c T := TB.code.keeps fun b z e => Heap.get?_push_of_some _ (J.bk b z e)
  have pT : (s1.heap.push o).get? T = some (PySem.W.tabObj ps) := Heap.get?_push_of_some _ gT
  have lim : (s1.heap.push o).NoLimit := J.nolimit.push o
  obtain ⟨mc, nsC, _⟩ := id J.nolimit
  have ltC : cStatics < s1.heap.objs.size := nsC.lt
  have neC : cStatics ≠ T := fun e => by
    obtain ⟨oo, es, ep, go, dd, _⟩ := nsC
    rw [e, gT] at go
    cases go
    cases dd
  refine ⟨lim, ?_⟩
  -- behind the code object: the generator is made and handed on
  have on : ∀ (code : Value) (h3 : Heap) (tk : Nat) (ps' : Array Value), Heap.ExtBut T (s1.heap.push o) h3 → (s1.heap.push o).objs.size ≤ h3.objs.size →
      h3.get? T = some (PySem.W.tabObj ps') → (∃ more, ps' = ps ++ more) → TriplesOk ps'.toList →
      wpAny (model X.prog X.w) X.A (builtinsFor X.env.globals X.env.builtins) (fun bi s4 =>
        ∃ I' fp' wr n0 P' St' pz' F', Value.ref s1.heap.objs.size = .ref I' ∧ (∀ A' : Around, A'.handled = none → Walks X.prog X.w A' I' fp' wr n0 P' St') ∧ St' 0 s4.heap ∧ (∀ b ∈ fp', b < s4.heap.objs.size) ∧
          s4.heap.NoLimit ∧ cStatics ∉ wr ∧
          (∀ href : Heap, (∀ b z, s4.heap.get? b = some z → href.get? b = some z) →
            QuietGen X.prog X.w (genEnv scope (cloFrom X.env.cells scope.names []) s4.heap.objs.size code bi X.env) x ifs elt (List.range s4.heap.objs.size) wr P' pz' F' href) ∧
          (∀ a h5 tk5 gs, gs.bare = true → s4.heap.objs.size < a → h5.objs.size = a + 1 → (∀ b z, s4.heap.get? b = some z → h5.get? b = some z) →
            WalksS X.prog X.w X.A.in4 a (a :: s4.heap.objs.size :: List.range s4.heap.objs.size) (s4.heap.objs.size :: wr) (GenOnlyQ s4.gens.size) (passing pz' n0 0).length
              (fun j y => ∃ i, (passing pz' n0 0)[j]? = some i ∧ F' i y) (GenAt X.prog X.w X.A.in4 a s4.gens.size s4.heap.objs.size (List.range s4.heap.objs.size) wr pz' n0 F') →
            GenAt X.prog X.w X.A.in4 a s4.gens.size s4.heap.objs.size (List.range s4.heap.objs.size) wr pz' n0 F' 0 { s4 with gens := s4.gens.push gs, toks := tk5, heap := h5 } →
            Q' (.ref a) { s4 with gens := s4.gens.push gs, toks := tk5, heap := h5 })) X.xe { s1 with heap := h3, toks := tk } := by
    intro code h3 tk ps' ext ge3 gT3 mo ok3
    have stay : ∀ b z, b ≠ T → s1.heap.get? b = some z → h3.get? b = some z := fun b z nb e => ext b z nb (Heap.get?_push_of_some _ e)
    have glo : ∀ h4 : Heap, (∀ b z, b ≠ T → s1.heap.get? b = some z → h4.get? b = some z) → h4.Ns mainGlobals X.mg := fun h4 st => by
      obtain ⟨oo, es, ep, go, r⟩ := J.mod.glob
      exact ⟨oo, es, ep, st _ _ TB.gP (J.bk _ _ go), r⟩
    obtain ⟨bm, ob, e1, e2, _, e4, e5, e6, e7, e8⟩ := TB.bm
    refine wpAny_builtinsFor (m := X.mg) (by rw [J.ok.glob]; exact glo h3 stay) e1 e2 (stay _ _ e4 (J.bk _ _ e5)) e6 e7 e8 ?_
    refine ⟨s1.heap.objs.size, fp, [s1.heap.objs.size], n, Pf, St, pz, F, rfl, W, ?_, fun b hb => ?_, lim.extBut ext neC, fun z => ?_, fun href keepR => ⟨?_, ?_⟩, ?_⟩
    · exact (W X.A hr.hd).frame _ _ _ st0 fun b hb z e => ext b z (hfp b hb).2 e
    · have l1 := (hfp b hb).1
      have l2 := ge3
      rw [sz] at l2
      exact Nat.lt_of_lt_of_le (Nat.lt_succ_of_le l1) l2
    · rw [List.mem_singleton] at z
      exact absurd z (Nat.ne_of_lt ltC)
    · intro A' E' i v2 s2 m2 hA hP hn hm hk
      refine (el.run (genEnv scope (cloFrom X.env.cells scope.names []) h3.objs.size code builtinsNs X.env) A' E' i v2 s2 m2 rfl J.ok.glob rfl hA hP hn hm fun b z nb e => ?_).1
      have hb := Heap.lt_size e
      refine hk b (List.mem_range.mpr ?_) (fun q => ?_) z (keepR b z (stay b z nb e))
      · have := ge3
        rw [sz] at this
        exact Nat.lt_of_lt_of_le (Nat.lt_succ_of_lt hb) this
      · rw [List.mem_singleton] at q
        exact absurd q (Nat.ne_of_lt hb)
    · intro A' E' i v2 s2 m2 hA hP hz hn hm hk
      refine (el.run (genEnv scope (cloFrom X.env.cells scope.names []) h3.objs.size code builtinsNs X.env) A' E' i v2 s2 m2 rfl J.ok.glob rfl hA hP hn hm fun b z nb e => ?_).2 hz
      have hb := Heap.lt_size e
      refine hk b (List.mem_range.mpr ?_) (fun q => ?_) z (keepR b z (stay b z nb e))
      · have := ge3
        rw [sz] at this
        exact Nat.lt_of_lt_of_le (Nat.lt_succ_of_lt hb) this
      · rw [List.mem_singleton] at q
        exact absurd q (Nat.ne_of_lt hb)
    · intro g h5 tk5 gs bare ltg sz5 keep5 W5 at5
      refine fin g _ ⟨_, _, _, _, W5.in4_1, at5, fun s' mv => ?_⟩
      obtain ⟨more, em⟩ := mo
      have out : ∀ b z, s1.heap.get? b = some z → b ∉ h3.objs.size :: [s1.heap.objs.size] := fun b z e hb => by
        have l1 := Heap.lt_size e
        have l3 := ge3
        rw [sz] at l3
        rcases List.mem_cons.mp hb with q | q
        · rw [q] at l1
          exact Nat.lt_irrefl _ (Nat.lt_trans l1 l3)
        · rw [List.mem_singleton] at q
          rw [q] at l1
          exact Nat.lt_irrefl _ l1
      have K5 := GxR.inv_tab (more := more) (h' := s'.heap) (g' := s'.gens) (d' := s'.drawn) (t' := s'.toks) J hT
        (fun b z nb e => mv.heap b z (out b z e) (keep5 b z (stay b z nb e))) (by rw [← em]; exact mv.heap T _ (out T _ gT) (keep5 T _ gT3)) (AllBare.movedS (J.bare.push bare) mv)
      rw [GxR.sh_eta s1 s' mv.os] at K5
      exact ⟨upd H1 T (.tbl (ps ++ more)), ⟨⟨_, upd_same, by rw [← em]; exact ok3⟩, fun b nb => upd_ne nb⟩, K5⟩
  cases among : codeAmong gpos ps.toList with
  | some cv =>
    refine wpAny_genexprCode_hit hcode (cd.code pT hok) among ?_
    exact on cv _ s1.toks ps (Heap.ExtBut.refl _ _) (Nat.le_refl _) pT ⟨#[], (Array.append_empty).symm⟩ hok
  | none =>
    refine wpAny_genexprCodeX hcode (cd.code pT hok) (cd.tab pT) among fun c' h' tk hx hge hlt isC _ tab' _ => ?_
    obtain ⟨_, _, _, _, _, _, _, _, _, _, _, _, _, _, _, _, _, _, _, ok', _⟩ := isC
    exact on _ h' tk _ hx (Nat.le_trans hge (Nat.le_of_lt hlt)) tab'.2 ⟨_, rfl⟩ ok'
/-- a text's signs as what is walked -/
theorem gsrc_str {T : Addr} {a : Str} {t : Tok} {s1 : Shared} (hT : T < s1.heap.objs.size) : GSrc X T (.str a t) s1 a.cps.size (SignAt a) := fun Q E h =>
  wpAny_pyIter_str fun o St W st0 => h o _ St W st0 fun b hb => by
    rw [List.mem_singleton] at hb
    subst hb
    exact ⟨Nat.le_refl _, Nat.ne_of_gt hT⟩
theorem pass_all (n : Nat) : passing (fun _ => true) n 0 = List.range n := by
  simp [passing]
/-- all(test for x in e), e a text -/
def tAllT (T : Addr) (pb : Nat → Bool) (te : TE) : TE := fun σ H Q => te σ H fun v H1 => GxR.TabG H1 T ∧ ∃ a : Str, v = .str a ∧ ∀ H2, GxR.Tabbed T H1 H2 → Q (.bl (a.cps.toList.all pb)) H2
theorem pe_allT {c T : Addr} {elt iter : Expr} {x : Str} {px p pos gpos : Pos} {scope : Scope} {pb : Nat → Bool} {te : TE} {k : Nat}
    (hr : Room k X.A) (hg : Gl X "all") (hm : X.mg "all" = none) (TB : GxR.TabB X.base X.mg c T) (hcode : X.env.code = .ref c) (S : GxR.GenS X.env scope x) (hi : PE X iter te)
    (hel : ∀ pins s1 σ H1 a, Inv X pins σ H1 s1 → GElt X T scope x [] elt s1 (SignAt a) (fun _ => true) (fun i y => ∃ cc, a.cps[i]? = some cc ∧ y = .bool (pb cc)))
    (hs : ∀ v, genFold iter X.env v = pure v)
    (he : starEach [.GeneratorExp elt [⟨.Name x px, iter, [], 0⟩] scope gpos] X.env = (false, eval (.GeneratorExp elt [⟨.Name x px, iter, [], 0⟩] scope gpos) X.env) :: starEach [] X.env := by rfl) :
    PE X (.Call (.Name "all" p) [.GeneratorExp elt [⟨.Name x px, iter, [], 0⟩] scope gpos] [] pos) (tAllT T pb te) := by
  refine ⟨fun pins s σ H Q I h => wpAny_Call_Name_kw (ld_blt I hg hm (show bootBuiltins "all" = some (.builtin "all") by decide +kernel) ?_)⟩
  refine PyProof.Rows.callWith_builtin1 ?_ he (by rfl)
  rw [he]
  refine Calls.spliced_cons (gen_mk hr TB hcode S hi hs I h fun v u H1 s1 J rv tg hR => ?_)
  obtain ⟨a, rfl, hR⟩ := hR
  obtain ⟨t, rfl⟩ := id rv
  refine ⟨_, _, fun _ => true, _, gsrc_str ?_, hel pins s1 σ H1 a J, fun g s5 rdy => ?_⟩
  · obtain ⟨ps, e, _⟩ := tg
    exact J.hok.lt e
  obtain ⟨fp, wr, G, St, W, st0, back⟩ := rdy
  rw [pass_all] at W
  refine Calls.spliced_nil (call_all_walkS (W.self 0 _ _ _ st0 ⟨g, fp, wr, G, _, _, St, GxR.trF pb a.cps.toList, rfl, W, st0, ?_, fun s' mv => ?_⟩))
  · intro j y sj Qj Ej hy hq
    obtain ⟨i, ij, cc, hc, rfl⟩ := hy
    obtain ⟨hj, ej⟩ := List.getElem?_eq_some_iff.mp ij
    rw [List.getElem_range] at ej
    subst ej
    refine wpAny_truthy_bool ?_
    rw [← GxR.trF_some (pb := pb) (show a.cps.toList[j]? = some cc by rw [Array.getElem?_toList]; exact hc)]
    exact hq
  · obtain ⟨H2, tab, K2⟩ := back s' mv
    refine ⟨.bl _, H2, K2, rfl, ?_⟩
    rw [List.length_range, GxR.all_signs a pb]
    exact hR H2 tab
end
/-! ### is_name -/
def signB (c : Nat) : Bool := decide (c ∈ abc.cps.toList)
def nameB (z : Str) : Bool := decide (1 ≤ z.length) && decide (z.length ≤ 8) && z.cps.toList.all signB
theorem nameB_in {z : Str} (h1 : (1 : Int) ≤ (z.length : Int)) (h2 : (z.length : Int) ≤ 8) : nameB z = z.cps.toList.all signB := by
  unfold nameB
  rw [decide_eq_true (show 1 ≤ z.length by omega), decide_eq_true (show z.length ≤ 8 by omega)]
  rfl
theorem nameB_long {z : Str} (h : ¬ (z.length : Int) ≤ 8) : nameB z = false := by
  unfold nameB
  rw [decide_eq_false (show ¬ z.length ≤ 8 by omega), Bool.and_false]
  rfl
theorem nameB_short {z : Str} (h : ¬ (1 : Int) ≤ (z.length : Int)) : nameB z = false := by
  unfold nameB
  rw [decide_eq_false (show ¬ 1 ≤ z.length by omega)]
  rfl
/-- what is_name is told: a text, or what is of another built-in kind -/
def spName (K : PySem.W.Frag) (T : Addr) : Sp := fun vs H Q _ => ∃ v : V, vs = [v] ∧ GxR.TabG H T ∧
  ((∃ z : Str, v = .str z ∧ z.length ≤ sizeLine ∧ ∀ H2, GxR.Tabbed T H H2 → Q (.bl (nameB z)) H2) ∨
   ∃ t : String, TyX K H v (.type t) ∧ kitB t "str" = some false ∧ Q (.bl false) H)
section
variable {P : Program} {w : World} {K : PySem.W.Frag} {mg : Str → Option Value} {base : Heap}
theorem scName : FnScope ["thing"] ["thing"] (defScope sName) := ⟨rfl, rfl, rfl, by decide +kernel, rfl, by decide +kernel, by decide +kernel⟩
theorem ok_name {f c T : Addr} {oc kV doc pm ct : Value} {od an : Option Addr} {osl : Array (Option Value)}
    (lk : K.lookup f = some ⟨oc, od, .func (PySem.W.fnOf "is_name" "is_name" (defArgs sName) (defBody sName) (defScope sName) .none kV doc pm an (.ref c) ct), osl⟩) (cdI : PySem.W.codeIn K (.ref c) "is_name" = true)
    (TB : GxR.TabB base mg c T) (mi : mg "isinstance" = none) (mst : mg "str" = none) (ml : mg "len" = none) (ma : mg "all" = none) (mL : ∃ t, mg "LETTERS" = some (.str abc t)) (mN : ∃ t, mg "LONGEST_NAME" = some (.int 8 t)) :
    FnOk P w K mg base CX0 1 f (PySem.W.fnOf "is_name" "is_name" (defArgs sName) (defBody sName) (defScope sName) .none kV doc pm an (.ref c) ct) ["thing"] (spName K T) := by
  refine fn_of lk cdI scName (fun vs H Q E h => ?_) (fun A outer s H vs Q E hr h => ?_)
  · obtain ⟨v, rfl, _⟩ := h
    rfl
  · obtain ⟨v, rfl, tg, h⟩ := h
    obtain ⟨tL, mL⟩ := mL
    obtain ⟨tN, mN⟩ := mN
    refine ⟨_, pss_cons (ps_if (pt_not (pt_val (pe_callB call_isi (by rfl) mi (by decide +kernel) (pa_cons (pv 0) (pa_cons (pe_bltn (v := .ty "str") (u := .type "str") (by rfl) mst (by decide +kernel) rfl) pa_nil)))))
        (pss_one (ps_ret pe_bl)) pss_nil)
      (pss_one (ps_ret (pe_and (pe_chain op_le op_le pe_int (pe_callB call_len_str (by rfl) ml PySem.boot_len (pa_cons (pv 0) pa_nil)) (pe_glob (v := .int 8) rfl mN ⟨_, rfl⟩))
        (pe_one (pe_allT (T := T) (c := c) (pb := signB) hr (by rfl) ma TB rfl ⟨rfl, rfl, by decide +kernel, rfl, rfl, by intro y hy e; simp only [List.mem_cons, List.not_mem_nil, or_false] at hy; rcases hy with rfl | rfl | rfl <;> cases e⟩ (pv 0) ?_ (fun _ => rfl)))))), ?_⟩
    · intro pins s1 σ H1 a J
      refine ⟨fun ce A' E' i v s2 m2 e1 e2 e3 hA hP hn hm hk => ⟨?_, fun _ => ?_⟩⟩
      · simp only [List.forIn_nil]
        exact wpAny_pure ⟨rfl, GxR.keeps_refl _⟩
      · obtain ⟨cc, u, hc, rfl⟩ := hP
        refine wpAny_Compare1 ?_
        refine wpAny_Name (wpAny_loadName_local (by rw [e1]) (show ce.scope.names.lookup _ = some .local by rw [e1]; rfl) hn hm ?_) (by decide)
        refine Calls.Name_function_global (by rw [e1]) (show ce.scope.names.lookup _ = some .globalImplicit by rw [e1]; rfl) ?_
        have G : s2.heap.Ns mainGlobals mg := by
          obtain ⟨oo, es, ep, go, r⟩ := J.mod.glob
          exact ⟨oo, es, ep, hk _ _ TB.gP (J.bk _ _ go), r⟩
        refine Calls.loadGlobal_global (by rw [e2]; exact G) mL ?_
        exact PyProof.Rows.in_str ⟨⟨cc, hc, congrArg Value.bool (PySem.StrLaws.found_one abc cc)⟩, GxR.keeps_refl _⟩
    · refine ⟨v, rfl, ?_⟩
      rcases h with ⟨z, rfl, hz, q⟩ | ⟨t, ty, kt, q⟩
      · refine ⟨_, _, _, _, true, rfl, .ty "str", .base (.str z), kit_ty (by decide +kernel), _, rfl, iteF ?_⟩
        refine ⟨_, rfl, z, rfl, hz, 1, _, rfl, rfl, _, rfl, ite2 (fun e1 => ?_) (fun e1 => ?_)⟩
        · refine ⟨_, 8, rfl, rfl, _, rfl, ite2 (fun e2 => ?_) (fun e2 => ?_)⟩
          · refine ⟨_, rfl, tg, z, rfl, fun H2 tb => ?_⟩
            have e3 := q H2 tb
            rw [nameB_in (of_decide_eq_true e1) (of_decide_eq_true e2)] at e3
            exact e3
          · have e3 := q H ⟨tg, fun _ _ => rfl⟩
            rw [nameB_long fun h => e2 (decide_eq_true h)] at e3
            exact e3
        · have e3 := q H ⟨tg, fun _ _ => rfl⟩
          rw [nameB_short fun h => e1 (decide_eq_true h)] at e3
          exact ⟨_, rfl, iteF e3⟩
      · exact ⟨_, _, _, _, false, rfl, .ty "str", ty, kit_ty kt, _, rfl, iteT q⟩
end
/-! ### the drawn names are names, unlike ones -/
theorem bij_pow (t : Nat) : ∀ (j r : Nat), r + 1 ≤ 2 ^ j → (bij t r).length ≤ j
  | 0, r, h => by
    have : r = 0 := by simp at h; exact h
    subst this
    rw [bij]
    exact Nat.le_refl _
  | j + 1, 0, _ => by
    rw [bij]
    exact Nat.zero_le _
  | j + 1, r + 1, h => by
    rw [bij, List.length_append]
    have h2 : 2 ^ (j + 1) = 2 * 2 ^ j := by rw [Nat.pow_succ]; omega
    have := bij_pow t j (r / 2) (by rw [h2] at h; omega)
    show _ + 1 ≤ _
    omega
theorem bij_in (t : Nat) : ∀ (r : Nat), ∀ c ∈ bij t r, c ∈ abc.cps.toList
  | 0, c, h => by
    rw [bij] at h
    cases h
  | r + 1, c, h => by
    rw [bij] at h
    rcases List.mem_append.mp h with h | h
    · exact bij_in t (r / 2) c h
    · rw [List.mem_singleton.mp h]
      exact Lc_in (Nat.mod_lt _ (by decide))
theorem nm_in {way t : Nat} {B : List Nat} {sp : Nat} (ok : NmOk way t B sp) (k : Nat) : ∀ c ∈ nm way t B sp k, c ∈ abc.cps.toList := by
  intro c h
  unfold nm at h
  split at h
  · exact bij_in _ _ c h
  · rcases List.mem_append.mp h with h | h
    · rcases List.mem_append.mp h with h | h
      · exact ok.bl c (List.mem_of_mem_take h)
      · simp only [nmPair, List.mem_cons, List.not_mem_nil, or_false] at h
        rcases h with rfl | rfl <;> exact Lc_in (Nat.mod_lt _ (by decide))
    · exact ok.bl c (List.mem_of_mem_drop h)
theorem nm_len {way t : Nat} {B : List Nat} {sp : Nat} (ok : NmOk way t B sp) {k : Nat} (hk : k ≤ 30) : 1 ≤ (nm way t B sp k).length ∧ (nm way t B sp k).length ≤ 8 := by
  unfold nm
  split
  · have h := bij_pow t 5 (k + 1) (by show k + 1 + 1 ≤ 32; omega)
    refine ⟨?_, by omega⟩
    rw [bij, List.length_append]
    show 1 ≤ _ + 1
    omega
  · have := ok.b6
    have := ok.s
    rw [List.length_append, List.length_append, List.length_take, List.length_drop]
    show 1 ≤ _ + 2 + _ ∧ _ + 2 + _ ≤ 8
    constructor <;> omega
theorem nm_name {way t : Nat} {B : List Nat} {sp : Nat} (ok : NmOk way t B sp) {k : Nat} (hk : k ≤ 30) : nameB (nmStr way t B sp k) = true := by
  have h := nm_len ok hk
  have e : (nmStr way t B sp k).length = (nm way t B sp k).length := sc_len _
  unfold nameB
  rw [e, decide_eq_true h.1, decide_eq_true h.2]
  show (nmStr way t B sp k).cps.toList.all signB = true
  rw [List.all_eq_true]
  intro c hc
  exact decide_eq_true (nm_in ok k c (by simpa [nmStr] using hc))
theorem Lc_inj : ∀ i < 26, ∀ j < 26, Lc i = Lc j → i = j := by decide +kernel
theorem bij_inj {t : Nat} : ∀ (r q : Nat), bij t r = bij t q → r = q := by
  intro r
  induction r using Nat.strongRecOn with
  | ind r ih =>
    intro q h
    cases r with
    | zero =>
      cases q with
      | zero => rfl
      | succ q =>
        have := congrArg List.length h
        rw [bij, bij, List.length_append] at this
        simp at this
    | succ r =>
      cases q with
      | zero =>
        have := congrArg List.length h
        rw [bij, bij, List.length_append] at this
        simp at this
      | succ q =>
        rw [bij, bij] at h
        have h1 := List.append_inj_left' h rfl
        have h2 := List.append_inj_right' h rfl
        have e := ih (r / 2) (by omega) (q / 2) h1
        have e2 : Lc ((t + 9 * ((r + 1) % 2)) % 26) = Lc ((t + 9 * ((q + 1) % 2)) % 26) := List.head_eq_of_cons_eq h2
        have e3 := Lc_inj _ (Nat.mod_lt _ (by decide)) _ (Nat.mod_lt _ (by decide)) e2
        omega
theorem nm_inj {way t : Nat} {B : List Nat} {sp : Nat} {k j : Nat} (hk : k ≤ 30) (hj : j ≤ 30) (h : nm way t B sp k = nm way t B sp j) : k = j := by
  unfold nm at h
  split at h
  · have := bij_inj _ _ h
    omega
  · have h1 := List.append_inj_left' h rfl
    have h2 := List.append_inj_right h1 rfl
    unfold nmPair at h2
    have a := List.head_eq_of_cons_eq h2
    have b := List.head_eq_of_cons_eq (List.tail_eq_of_cons_eq h2)
    have a' := Lc_inj _ (Nat.mod_lt _ (by decide)) _ (Nat.mod_lt _ (by decide)) a
    have b' := Lc_inj _ (Nat.mod_lt _ (by decide)) _ (Nat.mod_lt _ (by decide)) b
    clear h h1 h2 a b
    have u1 : k / 26 ≤ 1 := by omega
    have u2 : j / 26 ≤ 1 := by omega
    have e1 : k / 26 = j / 26 := by
      generalize k / 26 = u at b' u1
      generalize j / 26 = v at b' u2
      omega
    clear b' u1 u2
    have e2 : (7 * k) % 26 = (7 * j) % 26 := by omega
    have e3 : k % 26 = j % 26 := by
      clear a'
      omega
    omega
theorem NmL.names {ys : List Str} {m : Nat} (h : NmL ys m) (hm : m ≤ 31) : ∀ y ∈ ys, nameB y = true := by
  obtain ⟨way, t, B, sp, ok, rfl⟩ := h
  intro y hy
  obtain ⟨k, hk, rfl⟩ := List.mem_map.mp hy
  exact nm_name ok (by have := List.mem_range.mp hk; omega)
theorem NmL.nodup {ys : List Str} {m : Nat} (h : NmL ys m) (hm : m ≤ 31) : ys.Nodup := by
  obtain ⟨way, t, B, sp, ok, rfl⟩ := h
  rw [List.Nodup, List.pairwise_map]
  refine List.Pairwise.imp_of_mem ?_ (List.nodup_range (n := m))
  intro a b ha hb ne e
  have ha' := List.mem_range.mp ha
  have hb' := List.mem_range.mp hb
  have e2 : nm way t B sp a = nm way t B sp b := by
    have := congrArg (fun z : Str => z.cps.toList) e
    simpa [nmStr] using this
  exact ne (nm_inj (by omega) (by omega) e2)
/-! ### defs that are called while nothing is being shown: the guards are known -/
structure FnG (P : Program) (w : World) (K : PySem.W.Frag) (mg : Str → Option Value) (base : Heap) (k : Nat) (f : Addr) (fd : FuncData) (ps : List Str) (sp : Sp) : Prop where
  many : ∀ vs H Q E, sp vs H Q E → vs.length = ps.length
  goes : ∀ (B : Around) (st : List Env) (s : Shared) (H : Hp) (as : Args) (us : List Value) (vs : List V) (Q : VK) (E : XK), B.guards = some [] → Room k B → Env0 P w K mg base B st s H →
    BindsTo s fd as (ps.zip us) → Vals vs us → sp vs H Q E → codeAny (model P w) B (.call (.ref f) as) (CR CX0 st P w H s Q E) s
section
variable {P : Program} {w : World} {K : PySem.W.Frag} {mg : Str → Option Value} {base : Heap}
theorem FnG.of {k : Nat} {f : Addr} {fd : FuncData} {ps : List Str} {sp : Sp} (F : FnOk P w K mg base CX0 k f fd ps sp) : FnG P w K mg base k f fd ps sp :=
  ⟨F.len, fun B st s H as us vs Q E _ => F.run B st s H as us vs Q E⟩
theorem Fun.okG {x qual : Str} {st : Stmt} {f : Addr} {fd : FuncData} {N ps : List Str} {k : Nat} {sp : Sp} (F : Fun K x qual st f fd) (S : FnScope N ps (defScope st)) (many : ∀ vs H Q E, sp vs H Q E → vs.length = ps.length)
    (body : ∀ (cdv : Value) (B : Around) (fs : List Env) (s : Shared) (H : Hp) (vs : List V) (Q : VK) (E : XK), B.guards = some [] → Room k (B.deeper (envOfC qual (defScope st) s.heap.objs.size f cdv)) → sp vs H Q E →
      ∃ t, PSs (cxOf CX0 P w K mg base N qual (defScope st) f cdv B fs s H E).nox (defBody st) t ∧ t { nx := fun _ H' => Q .non H', rt := Q } (start N vs) H) : FnG P w K mg base (k + 1) f fd ps sp := by
  obtain ⟨oc, od, kV, doc, pm, an, cdv, ct, osl, rfl, lk, hcd⟩ := F.ex
  refine ⟨many, fun B fs s H as us vs Q E hg hr e0 hb r hsp => ?_⟩
  have old : ∀ b o, base.get? b = some o → s.heap.get? b = some o := fun b o e => (e0.bs b o e).1
  have KX := e0.mod.kin.keeps old
  obtain ⟨t, pt, ht⟩ := body cdv B fs s H vs Q E hg (hr.deeper _) hsp
  refine codeAny_call_function hr.depth (KX _ _ lk) rfl S.co S.gen rfl (PySem.W.codeRec_of KX hcd) (hb _ _ _ _ ?_)
  refine wpAny_newFunctionEnv_cells S.kind ?_ ?_
  · rintro ⟨n, v⟩ hy
    have hn := (List.of_mem_zip hy).1
    exact (S.par n hn).imp id fun q => ⟨q, PySem.W.cellsFrom_some _ _ _ (.inl q)⟩
  · rintro env rfl s1 x
    have I := inv_start (CX := CX0) (E := E) S hr.hd e0 (many _ _ _ _ hsp) r x
    refine ⟨(e0.mod.nolimit.keeps old).keeps x.toInCall.keep, codeAny_func (wpAny_mono (pt.nox.run [] s1 _ H _ I ht) ?_ fun e s' hs => hs)⟩
    rintro fl s' hs
    cases fl with
    | ret u =>
      obtain ⟨v, σ', H', J, rv, q⟩ := hs
      exact ⟨v, H', J.os, J.bare, J.base, J.hok, rv, q⟩
    | next =>
      obtain ⟨σ', H', J, q⟩ := hs
      exact ⟨.non, H', J.os, J.bare, J.base, J.hok, rfl, q⟩
    | brk =>
      obtain ⟨_, _, _, q⟩ := hs
      exact False.elim q
    | cont =>
      obtain ⟨_, _, _, q⟩ := hs
      exact False.elim q
end
/-- f(e, ..): a def of this kind -/
theorem pe_callG {X : Cx} {k : Nat} {f : Addr} {fd : FuncData} {ps : List Str} {sp : Sp} {x : Str} {p pos : Pos} {e : Expr} {es : List Expr} {t : TA} (F : FnG X.prog X.w X.K X.mg X.base k f fd ps sp) (hG : X.A.guards = some []) (hr : Room k X.A) (hg : Gl X x) (hm : X.mg x = some (.ref f))
    (hk : PySem.W.keepIn X.K (.ref f) = true) (hb : Binds X.K fd ps []) (ha : PA X (e :: es) t) (hdb : (x == ("__debug__" : Str)) = false := by decide) (he : starEach (e :: es) X.env = (false, eval e X.env) :: starEach es X.env := by rfl)
    (hpl : (backTo pos (starEach es X.env)).any (·.1) = false := by rfl) : PE X (.Call (.Name x p) (e :: es) [] pos) (tCall sp [] E0 t) := by
  refine ⟨fun pins s σ H Q I h => wpAny_Call_Name_kw (ld_glob I hg hm ?_ hdb)⟩
  refine PySem.W.callWith_K (h₀ := X.base) I.ok.mod.kin hk (thn (ha.run pos pins s σ H _ I h) ?_) he hpl
  rintro us s1 ⟨vs, H1, I1, r, q⟩
  rw [List.append_nil] at q
  have hl : us.length = ps.length := r.length.symm.trans (F.many _ _ _ _ q)
  have bd := hb s1 us I1.kIn (by rw [List.append_nil]; exact hl)
  rw [List.append_nil] at bd
  refine ⟨I1.kIn, wpAny_call (codeAny_mono (F.goes X.A X.stack s1 H1 ⟨us, []⟩ us vs Q E0 hG hr I1.env0 bd r q) ?_)⟩
  rintro r2 s2 hq
  cases r2 with
  | error e => exact False.elim hq
  | ok fl =>
    cases fl with
    | ret u => exact I1.after hq
    | next => exact False.elim hq
    | brk => exact False.elim hq
    | cont => exact False.elim hq
/-! ### the top's call of the law, for a law that shows things -/
def topH (K : PySem.W.Frag) (a : Addr) (o : Obj) (xs : List V) (cs : List (Addr × Addr)) : Hp := fun b =>
  if b ∈ cs.map (·.2) then some (.tbl #[]) else if b = a ∧ K.lookup a = none then some (.frz o (.lst xs)) else none
section
variable {P : Program} {w : World} {K : PySem.W.Frag} {mg mb : Str → Option Value} {a : Addr} {o : Obj} {cs : List (Addr × Addr)} {s₁ : Shared} {vs : List Value} {ns : List Int}
theorem topH_tab {xs : List V} {p : Addr × Addr} (hp : p ∈ cs) : topH K a o xs cs p.2 = some (.tbl #[]) := if_pos (List.mem_map.mpr ⟨p, hp, rfl⟩)
theorem topH_cases {xs : List V} {b : Addr} {u : HO} (h : topH K a o xs cs b = some u) : (b ∈ cs.map (·.2) ∧ u = .tbl #[]) ∨ (b = a ∧ K.lookup a = none ∧ u = .frz o (.lst xs)) := by
  unfold topH at h
  split at h
  · rename_i hb
    exact .inl ⟨hb, (Option.some.inj h).symm⟩
  · split at h
    · rename_i hb
      exact .inr ⟨hb.1, hb.2, (Option.some.inj h).symm⟩
    · cases h
theorem top_call {fa : Addr} {k : Nat} {fd : FuncData} {x : Str} {sp : Sp}
    (KX : K.In s₁.heap) (hns : s₁.heap.Ns mainGlobals mg) (hb : s₁.heap.Ns builtinsNs mb) (hbb : ∀ x : Str, x ≠ "__name__" → mb x = bootBuiltins x) (hlim : s₁.heap.NoLimit) (hg : s₁.gens = #[])
    (hT : ∀ p ∈ cs, s₁.heap.get? p.2 = some { cls := .none, data := .fields #[] }) (nT : ∀ p ∈ cs, K.lookup p.2 = none) (C : ∀ p ∈ cs, PySem.W.CodeHd s₁.heap p.1 p.2)
    (hbm : ∃ (bm : Addr) (ob : Obj), mg "__builtins__" = some (.ref bm) ∧ bm ≠ builtinsNs ∧ s₁.heap.get? bm = some ob ∧ ob.cls = .type "module" ∧ ob.dict = some builtinsNs ∧ ob.data = .plain)
    (ha : s₁.heap.get? a = some { cls := .type "list", data := .seq vs.toArray }) (hi : IntsAre vs ns) (hl : ns.length ≤ sizeLine) (hr : Room k callerA)
    (F : ∀ base : Heap, K.In base → base.Ns mainGlobals mg → (∀ p ∈ cs, LamX.TabB base mg p.1 p.2) → FnG P w K mg base k fa fd [x] sp) (hbind : ∀ (s : Shared) (u : Value), BindsTo s fd ⟨[u], []⟩ [(x, u)])
    (hsp : ∀ H : Hp, (∀ p ∈ cs, H p.2 = some (.tbl #[])) → SqL K H a (ns.map V.int) → sp [.ref a] H (fun v _ => v = .bl true) fun _ _ _ => False) :
    codeAny (model P w) callerA (.call (.ref fa) ⟨[.ref a], []⟩) (fun r s' => r = .ok (.ret (.bool true)) ∧ OldK s₁.heap s'.heap ∧ s'.os = s₁.os ∧ AllBare s'.gens) s₁ := by
  have tabAt : ∀ b : Addr, b ∈ cs.map (·.2) → s₁.heap.get? b = some { cls := .none, data := .fields #[] } := fun b hb => by
    obtain ⟨p, hp, rfl⟩ := List.mem_map.mp hb
    exact hT p hp
  have naT : a ∉ cs.map (·.2) := fun z => by
    have q := (tabAt a z).symm.trans ha
    cases q
  have rv := vals_ints hi
  let H : Hp := topH K a { cls := .type "list", data := .seq vs.toArray } (ns.map V.int) cs
  have hH : ∀ p ∈ cs, H p.2 = some (.tbl #[]) := fun p hp => topH_tab hp
  -- what is tracked is a list or a table
  have free : ∀ {b : Addr} {ob : Obj}, s₁.heap.get? b = some ob → (∀ us n, ob.data ≠ .seq us n) → ob.data ≠ .fields #[] → H b = none := fun {b ob} e h1 h2 => by
    cases q : H b with
    | none => rfl
    | some u =>
      rcases topH_cases q with ⟨hb, _⟩ | ⟨rfl, _, _⟩
      · rw [tabAt b hb] at e
        cases e
        exact absurd rfl h2
      · rw [ha] at e
        cases e
        exact absurd rfl (h1 _ _)
  have dic : ∀ {b : Addr} {m : Str → Option Value}, s₁.heap.Ns b m → (hidT s₁.heap H).Ns b m := fun {b m} ⟨ob, es, ep, e, d, r⟩ =>
    ⟨ob, es, ep, hidT_get e (free e (fun us n z => by rw [d] at z; cases z) fun z => by rw [d] at z; cases z), d, r⟩
  have hK : K.In (hidT s₁.heap H) := fun b ob e => hidT_get (KX b ob e) (by
    cases q : H b with
    | none => rfl
    | some u =>
      rcases topH_cases q with ⟨hb, _⟩ | ⟨rfl, n, _⟩
      · obtain ⟨p, hp, rfl⟩ := List.mem_map.mp hb
        rw [nT p hp] at e
        cases e
      · rw [n] at e
        cases e)
  have hok : HOk P w H s₁.heap := fun b u q => by
    rcases topH_cases q with ⟨hb, rfl⟩ | ⟨rfl, _, rfl⟩
    · exact tabAt b hb
    · exact ⟨ha, by rw [List.length_map]; exact hl, vs, _, rv, ha⟩
  have hS : SqL K H a (ns.map V.int) := by
    cases hk : K.lookup a with
    | some ob =>
      have e := (KX a ob hk).symm.trans ha
      cases e
      exact .inr ⟨_, vs.toArray, _, hk, rfl, rfl, rfl, by rw [List.size_toArray, hi.length]; exact hl, by simpa using rv⟩
    | none => exact .inl (.inr ⟨{ cls := .type "list", data := .seq vs.toArray }, (if_neg naT).trans (if_pos ⟨rfl, hk⟩)⟩)
  have hM : L2.Mod K mg (hidT s₁.heap H) := ⟨hK, dic hns, ⟨mb, dic hb, hbb⟩, let ⟨mc, h1, h2⟩ := hlim; ⟨mc, dic h1, h2⟩⟩
  have TB : ∀ p ∈ cs, LamX.TabB (hidT s₁.heap H) mg p.1 p.2 := fun p hp => by
    have hTp := hT p hp
    obtain ⟨og, eg, pg, g1, g2, _⟩ := hns
    refine ⟨?_, ?_, fun z => ?_⟩
    · obtain ⟨ob, us, file, tf, flags, tg, inF, text, tt, e1, r1, r2, r3, r4⟩ := C p hp
      refine ⟨ob, us, file, tf, flags, tg, inF, text, tt, hidT_get e1 (free e1 (fun us n z => ?_) fun z => ?_), r1, r2, r3, r4⟩
      · rw [r2] at z
        cases z
      · rw [r2] at z
        cases z
        simp at r3
    · obtain ⟨bm, ob, b1, b2, b3, b4, b5, b6⟩ := hbm
      refine ⟨bm, ob, b1, b2, fun z => ?_, fun z => ?_, hidT_get b3 (free b3 (fun us n z => by rw [b6] at z; cases z) fun z => by rw [b6] at z; cases z), b4, b5, b6⟩
      · rw [z, g1] at b3
        cases b3
        rw [g2] at b6
        cases b6
      · rw [z, hTp] at b3
        cases b3
        cases b6
    · rw [z, hTp] at g1
      cases g1
      cases g2
  have e0 : Env0 P w K mg (hidT s₁.heap H) callerA [] s₁ H := ⟨rfl, hM, fun b ob e => of_hidT e, Nat.le_of_eq (hidT_size _ _), trivial, (fun b hb => nomatch (show b ∈ ([] : List Addr) from hb)), hok, .of_eq hg⟩
  refine codeAny_mono ((F _ hK (dic hns) TB).goes callerA [] s₁ H ⟨[.ref a], []⟩ [.ref a] [.ref a] _ _ rfl hr e0 (hbind s₁ (.ref a)) (.cons rfl .nil) (hsp H hH hS)) ?_
  rintro r s' h
  cases r with
  | error e => exact False.elim h
  | ok fl =>
    cases fl with
    | next => exact False.elim h
    | brk => exact False.elim h
    | cont => exact False.elim h
    | ret u =>
      obtain ⟨v, H', os, bare, un, hok', r', rfl⟩ := h
      obtain rfl : u = Value.bool true := r'
      have stays : ∀ b ob, b ∉ cs.map (·.2) → s₁.heap.get? b = some ob → s'.heap.get? b = some ob := fun b ob nb e => by
        cases q : H b with
        | none => exact un.keep b ob e q (fun z => nomatch (show b ∈ ([] : List Addr) from z)) (by simp)
        | some u =>
          rcases topH_cases q with ⟨z, _⟩ | ⟨rfl, _, rfl⟩
          · exact absurd z nb
          · rw [ha] at e
            cases e
            exact (hok' _ _ (un.frzs _ _ _ q)).1
      have grown : ∀ b ∈ cs.map (·.2), ∃ p ∈ cs, b = p.2 ∧ ∃ more : Array Value, s'.heap.get? b = some { cls := .none, data := .fields more } := fun b hb => by
        obtain ⟨p, hp, rfl⟩ := List.mem_map.mp hb
        obtain ⟨more, z⟩ := un.tbls p.2 #[] (hH p hp)
        exact ⟨p, hp, rfl, _, hok' p.2 _ z⟩
      refine ⟨rfl, ⟨fun b ob e => ?_, fun b ob e => ?_⟩, os, bare⟩
      · by_cases hb : b ∈ cs.map (·.2)
        · obtain ⟨p, hp, rfl, more, hm⟩ := grown b hb
          rw [hT p hp] at e
          cases e
          exact .inr (.inl ⟨((C p hp).tab (hT p hp)).isCodeTable, rfl, #[], more, rfl, by rw [Array.empty_append]; exact hm⟩)
        · exact .inl (stays b ob hb e)
      · by_cases hb : b ∈ cs.map (·.2)
        · obtain ⟨p, hp, rfl, more, hm⟩ := grown b hb
          exact ⟨_, hm⟩
        · exact ⟨ob, stays b ob hb e⟩
end
/-- what is known of a law that shows things -/
def LawG (l : PySem.W.OpenLaw) (w : World) (K : PySem.W.Frag) (k n : Nat) (x : Str) (mg : Str → Option Value) (fa : Addr) (h : Heap) : Prop :=
  ∃ (fd : FuncData) (cs : List (Addr × Addr)) (sp : Sp), ((∀ p ∈ cs, h.get? p.2 = some { cls := .none, data := .fields #[] }) ∧ (∀ p ∈ cs, K.lookup p.2 = none) ∧ ∀ p ∈ cs, PySem.W.CodeHd h p.1 p.2) ∧ (∀ (s : Shared) (u : Value), BindsTo s fd ⟨[u], []⟩ [(x, u)]) ∧
    (∀ (H : Hp) (a : Addr) (ns : List Int), ns.length ≤ n → (∀ p ∈ cs, H p.2 = some (.tbl #[])) → SqL K H a (ns.map V.int) → sp [.ref a] H (fun v _ => v = .bl true) fun _ _ _ => False) ∧
    ∀ base : Heap, K.In base → base.Ns mainGlobals mg → (∀ p ∈ cs, LamX.TabB base mg p.1 p.2) → FnG l.prog w K mg base k fa fd [x] sp
theorem end_G {l : PySem.W.OpenLaw} {n k : Nat} {q : Program} {loose : List Str} {XP : (Str → Option Value) → Heap → Prop} {YP : World → Heap → Prop} {d : PySem.DefRec} {K : Params → PySem.W.Frag} {x : Str}
    (hn : l.most = some n) (hn2 : n ≤ sizeLine) (hdf : d.params.defaults = []) (hr : Room k callerA)
    (hY : ∀ (w : World) (h : Heap), YP w h → (K w.params).In h)
    (F : ∀ (w : World) (s0 : Shared) (mg mb : Str → Option Value) (fa : Addr) (h : Heap), PySem.W.Ground q loose [] XP w s0 mg mb h → (K w.params).In h → mg d.name = some (.ref fa) → LawG l w (K w.params) k n x mg fa h) :
    PySem.W.WalkO q loose XP YP l.row.toRowW d [] (fun f vs => PySem.call f vs) := by
  refine Att.attach_callB hn hdf fun w s0 s1 mg mb fa o pm cd doc a vs ns G Y ho hd hcd hmg hobj hints hlen hbits hg => ?_
  have KX := hY w _ Y
  obtain ⟨fd, cs, sp, ⟨hT, nT, C⟩, hb, hsp, hF⟩ := F w s0 mg mb fa _ G KX hmg
  exact top_call KX G.T.g G.T.b G.T.builtins G.T.nolimit hg hT nT C G.T.bmain hobj hints (Nat.le_trans hlen hn2) hr hF hb (fun H hH hS => hsp H a ns hlen hH hS)
/-! ### repr of data -/
theorem cr_repr {X : Cx} (hG : X.A.guards = some []) (hu : X.A.units + 64 < cLine) : CallR X (.builtin "repr") (fun vs H Q => ∃ (a : Addr) (d : PyData), vs = [.ref a] ∧ Dp X.K H (.ref a) d ∧ d.showable = true ∧ d.hasDict = false ∧ d.depth ≤ 60 ∧ d.shown.length ≤ sizeLine ∧ Q (.str d.shown) H) := by
  rintro pins s σ H vs us Q I r ⟨a, d, rfl, hd, sh, nd, dp, sz, q⟩
  rw [Vals.ref1 r]
  obtain ⟨as, rd⟩ := Dp.reads I d (.ref a) (.ref a) hd rfl
  exact repr_of_reads' rd sh (PyData.noDict_hsm nd) hG (by omega) (fun _ _ e => e) (fun h' u tk hk => ⟨.str d.shown, H, I.kept hk, ⟨_, rfl⟩, q⟩) sz
/-! ### sorted(xs, key=f), f a def whose answers are data -/
mutual
theorem Dp.on {K : PySem.W.Frag} {H H' : Hp} (s : Same H H') : ∀ {v : V} {d : PyData}, Dp K H v d → Dp K H' v d
  | _, _, .non => .non
  | _, _, .bl b => .bl b
  | _, _, .int i => .int i
  | _, _, .str x => .str x
  | _, _, .lst h r => .lst (h.imp (fun z => z.imp (s _ _) fun ⟨o, e⟩ => ⟨o, s _ _ e⟩) id) (DpAll.on s r)
  | _, _, .tup h r => .tup (h.imp (fun z => z.imp (s _ _) fun ⟨o, e⟩ => ⟨o, s _ _ e⟩) id) (DpAll.on s r)
theorem DpAll.on {K : PySem.W.Frag} {H H' : Hp} (s : Same H H') : ∀ {vs : List V} {ds : List PyData}, DpAll K H vs ds → DpAll K H' vs ds
  | _, _, .nil => .nil
  | _, _, .cons h r => .cons (Dp.on s h) (DpAll.on s r)
end
theorem DpAll.snoc {K : PySem.W.Frag} {H : Hp} {v : V} {d : PyData} : ∀ {vs : List V} {ds : List PyData}, DpAll K H vs ds → Dp K H v d → DpAll K H (vs ++ [v]) (ds ++ [d])
  | _, _, .nil, h => .cons h .nil
  | _, _, .cons a r, h => .cons a (DpAll.snoc r h)
theorem DpAll.len {K : PySem.W.Frag} {H : Hp} : ∀ {vs : List V} {ds : List PyData}, DpAll K H vs ds → vs.length = ds.length
  | _, _, .nil => rfl
  | _, _, .cons _ r => congrArg Nat.succ (DpAll.len r)
theorem vals_snoc {v : V} {u : Value} : ∀ {vs : List V} {us : List Value}, Vals vs us → RelV v u → Vals (vs ++ [v]) (us ++ [u])
  | _, _, .nil, h => .cons h .nil
  | _, _, .cons a r, h => .cons a (vals_snoc r h)
theorem vals_get {vs : List V} {us : List Value} (h : Vals vs us) : ∀ {i : Nat} {u : Value}, us[i]? = some u → ∃ v, vs[i]? = some v ∧ RelV v u := by
  induction h with
  | nil => intro i u e; cases e
  | cons a r ih =>
    intro i u e
    cases i with
    | zero => exact ⟨_, rfl, by rw [← Option.some.inj e]; exact a⟩
    | succ n => exact ih (i := n) e
theorem each_dp {X : Cx} {pins : List (Addr × Obj)} {σ : L2.St} {H : Hp} {s : Shared} (I : Inv X pins σ H s) : ∀ {vs : List V} {ds : List PyData} {us : List Value}, DpAll X.K H vs ds → Vals vs us → PySem.W.EachIs (fun v d => ∃ as, Reads s.heap v d as) us ds
  | _, _, _, .nil, .nil => .nil
  | _, _, _, .cons h r, .cons a t => .cons (Dp.reads I _ _ _ h a) (each_dp I r t)
theorem each_pairs : ∀ {es : List (V × PyData)} {us : List Value}, Vals (es.map (·.1)) us → PySem.W.EachIs (fun v (e : V × PyData) => RelV e.1 v) us es
  | [], _, .nil => .nil
  | _ :: _, _, .cons a t => .cons a (each_pairs t)
theorem pairs_each : ∀ {es : List (V × PyData)} {us : List Value}, PySem.W.EachIs (fun v (e : V × PyData) => RelV e.1 v) us es → Vals (es.map (·.1)) us
  | [], _, .nil => .nil
  | _ :: _, _, .cons a t => .cons a (pairs_each t)
abbrev keyed (es : List (V × PyData)) : List (V × PyData) := es.mergeSort (PySem.W.dataLe false fun e => e.2)
def rSortK (K : PySem.W.Frag) (f : Addr) (sp : Sp) : List V → List V → Hp → VK → Prop := fun vs zs H Q => ∃ (l : Addr) (es : List (V × PyData)), vs = [.ref l] ∧ zs = [.ref f] ∧ SqL K H l (es.map (·.1)) ∧ PySem.W.AllAlike (es.map (·.2)) ∧ PySem.W.Sortable (es.map (·.2)) ∧ (∀ e ∈ es, e.2.depth ≤ 60) ∧
  (∀ e ∈ es, ∀ H1, Same H H1 → ∀ Q1 : VK, (∀ v H2, Same H1 H2 → Dp K H2 v e.2 → Q1 v H2) → sp [e.1] H1 Q1 E0) ∧ ∀ (p : Addr) (H1 : Hp), H p = none → Same H H1 → H1 p = some (.lst ((keyed es).map (·.1))) → Q (.ref p) H1
theorem cr_sortK {X : Cx} {k : Nat} {f : Addr} {fd : FuncData} {p1 : Str} {sp : Sp} (F : FnOk X.prog X.w X.K X.mg X.base CX0 k f fd [p1] sp) (hr : Room (k + 2) X.A) (hb : Binds X.K fd [p1] []) : CallRK X (.builtin "sorted") [Str.ofString "key"] (rSortK X.K f sp) := by
  rintro pins s σ H vs zs us ws Q I r rz ⟨l, es, rfl, rfl, hs, al, so, dp, key, q⟩
  obtain rfl := Vals.ref1 r
  obtain rfl := Vals.ref1 rz
  obtain ⟨its, rv, hl, hz⟩ := I.list hs
  have hlen : its.length = es.length := by rw [← rv.length, List.length_map]
  have hZ : its.length ≤ sizeLine := by rw [← rv.length]; exact hz
  have rB : Room k X.A.in1.in1 := hr.in1.in1
  have uB : X.A.in1.in1.units + 64 < cLine := rB.units
  refine PySem.W.sorted_of_sort (vs := its) hl.isList hZ (PyProof.Rows.ksk_s1 _ _) (fun _ => PyProof.Rows.ksk_l1 _ _) fun E' => ?_
  show wpAny _ X.A.in1.in1 (Builtin.«list.sort» ⟨[.ref (s.heap.objs.size + 1)], [(Str.ofString "key", .ref f)]⟩) _ _ _
  rw [PyProof.Rows.ksk_t1]
  generalize ha : s.heap.objs.size + 1 = a
  have ho : (PySem.W.copyHeap s.heap its).get? a = some (seqObj "list" its.toArray 0) := by rw [← ha]; exact PySem.W.copyHeap_at s.heap its
  obtain ⟨e1, ho1⟩ : ∃ e1, ((PySem.W.copyHeap s.heap its).update a (Obj.mapSeq fun _ => (#[] : Array Value))).get? a = some (seqObj "list" #[] e1) := ⟨_, get?_update_seq ho fun _ => #[]⟩
  have hsz0 : a < (PySem.W.copyHeap s.heap its).objs.size := Heap.lt_size ho
  unfold PyProof.Rows.ksk_tree
  refine wpAny_bind (listItems_at ho rfl ?_)
  refine wpAny_bind (listUpdate_at ho rfl ?_ (by rw [List.size_toArray]; exact hZ) (Nat.zero_le _))
  refine wpAny_bind (seqEpoch_at ho1 rfl ?_)
  refine wpAny_bind (wpAny_newTuple ?_ hZ)
  refine wpAny_bind (wpAny_newList ?_ (Nat.zero_le _))
  refine wpAny_holding ?_
  generalize hk : (((PySem.W.copyHeap s.heap its).update a (Obj.mapSeq fun _ => (#[] : Array Value))).push (seqObj "tuple" its.toArray 0)).objs.size = kS
  generalize hg : (((PySem.W.copyHeap s.heap its).update a (Obj.mapSeq fun _ => (#[] : Array Value))).push (seqObj "tuple" its.toArray 0)).push (seqObj "list" #[] 0) = g
  have size_g : s.heap.objs.size < kS := by
    rw [← hk, size_push', Heap.size_update]
    omega
  have hka : kS ≠ a := by
    rw [← hk, size_push', Heap.size_update]
    omega
  have old : ∀ b o, s.heap.get? b = some o → g.get? b = some o := fun b o e => by
    rw [← hg]
    refine Heap.get?_push_of_some _ (Heap.get?_push_of_some _ ((Heap.get?_update_ne _ _ _ _ (Nat.ne_of_lt ?_)).trans (PySem.W.copyHeap_old e)))
    exact Nat.lt_of_lt_of_le (Heap.lt_size e) (by omega)
  have ga : g.get? a = some (seqObj "list" #[] e1) := by
    rw [← hg]
    exact Heap.get?_push_of_some _ (Heap.get?_push_of_some _ ho1)
  have gk : g.get? kS = some (seqObj "list" #[] 0) := by
    rw [← hg, ← hk]
    exact Heap.get?_push_size _ rfl
  have fa : ∀ {H1 : Hp}, H1 a = none → FpOk X pins H1 a := fun n => I.fpOk (by omega) n
  have fk : ∀ {H1 : Hp}, H1 kS = none → FpOk X pins H1 kS := fun n => I.fpOk (by omega) n
  -- the two lists of the sort are held as pins
  have pin : ∀ {H1 : Hp} {s1 : Shared} {kA : Array Value} {n : Nat}, Inv X pins σ H1 s1 → H1 a = none → H1 kS = none → s1.heap.get? a = some (seqObj "list" #[] e1) → s1.heap.get? kS = some (seqObj "list" kA n) → Inv X (pins ++ [(a, seqObj "list" #[] e1), (kS, seqObj "list" kA n)]) σ H1 s1 := fun {H1 s1 kA n} J na nk ea ek => by
    refine J.pins_of fun p hp => ?_
    rcases List.mem_append.mp hp with h | h
    · exact J.pin p (List.mem_append_right _ h)
    · rcases List.mem_cons.mp h with rfl | h
      · exact ⟨ea, na, (fa na).2.1, (fa na).2.2.1, fun v z => by cases z⟩
      · rw [List.mem_singleton.mp h]
        exact ⟨ek, nk, (fk nk).2.1, (fk nk).2.2.1, fun v z => by cases z⟩
  have I0 : Inv X pins σ H { s with heap := g } := I.kept (t' := s.toks) old
  have na0 : H a = none := I.hok.fresh (by omega)
  have nk0 : H kS = none := I.hok.fresh (by omega)
  unfold PyProof.Rows.ksk_rest
  refine wpAny_bind (wpAny_rule ?_)
  first
    | rw [List.forIn_toArray]
    | (rw [← Array.forIn_toList]; simp only [List.toList_toArray])
  refine wpAny_bind (PyProof.Rows.ksk_fold (fun i s' => ∃ H1 kA n kv, Same H H1 ∧ Inv X (pins ++ [(a, seqObj "list" #[] e1), (kS, seqObj "list" kA n)]) σ H1 s' ∧ Vals kv kA.toList ∧ DpAll X.K H1 kv ((es.take i).map (·.2))) its 0 _
    ⟨H, #[], 0, [], fun _ _ e => e, pin I0 na0 nk0 ga gk, .nil, .nil⟩ ?step ?done)
  case step =>
    rintro j u s1 hu ⟨H1, kA, n, kv, sm, J, vk, dk⟩
    rw [Nat.zero_add] at dk ⊢
    obtain ⟨v, hv, rel⟩ := vals_get rv hu
    rw [List.getElem?_map] at hv
    obtain ⟨e, he, rfl⟩ := Option.map_eq_some_iff.mp hv
    have pa := J.pin (a, seqObj "list" #[] e1) (by simp)
    have pk := J.pin (kS, seqObj "list" kA n) (by simp)
    have hj : j < its.length := (List.getElem?_eq_some_iff.mp hu).1
    have ck : kA.size ≤ its.length := by
      have h1 : kv.length = kA.size := vk.length.trans Array.length_toList
      have h2 := DpAll.len dk
      rw [List.length_map, List.length_take] at h2
      omega
    have E1 := J.env0
    have sp1 := key e (List.mem_of_getElem? he) H1 sm (fun v H2 => Same H1 H2 ∧ Dp X.K H2 v e.2) fun v H2 h1 h2 => ⟨h1, h2⟩
    refine wpAny_bind (wpAny_attempt ?_)
    refine wpAny_call (codeAny_mono (F.run X.A.in1.in1 X.stack s1 H1 ⟨[u], []⟩ [u] [e.1] _ E0 rB ⟨E1.frames, E1.mod, E1.bs, E1.bsz, E1.funs, E1.frf, E1.hok, E1.bare⟩ (hb s1 [u] J.kIn rfl) (.cons rel .nil) sp1) ?_)
    rintro r s2 hq
    cases r with
    | error e => exact False.elim hq
    | ok fl =>
      cases fl with
      | next => exact False.elim hq
      | brk => exact False.elim hq
      | cont => exact False.elim hq
      | ret x =>
        obtain ⟨v2, H2, J2, rel2, sm2, dp2⟩ := J.after hq
        have pa2 := J2.pin (a, seqObj "list" #[] e1) (by simp)
        have pk2 := J2.pin (kS, seqObj "list" kA n) (by simp)
        have J3 : Inv X pins σ H2 s2 := J2.unpinned
        obtain ⟨c2, hc2⟩ : ∃ c2, (s2.heap.update kS (Obj.mapSeq (·.push x))).get? kS = some (seqObj "list" (kA.push x) c2) := ⟨_, get?_update_seq pk2.1 (·.push x)⟩
        have sb := Heap.SameBut.update s2.heap kS (Obj.mapSeq (·.push x))
        show wpAny _ _ _ _ _ _
        refine wpAny_bind (listUpdate_at pk2.1 rfl ?_ (Nat.le_trans ck hZ) (Nat.le_trans (Nat.le_of_eq (Array.size_push ..)) (Nat.succ_le_succ (Nat.le_trans ck hZ))))
        have J4 : Inv X pins σ H2 { s2 with heap := s2.heap.update kS (Obj.mapSeq (·.push x)), toks := s2.toks } := J3.turnedL (ch := [kS]) (fun b o hb e => (sb.2 b (fun z => hb (by simp [z]))).trans e) fun b hb => by rw [List.mem_singleton.mp hb]; exact fk pk2.2.1
        refine wpAny_pure ⟨rfl, H2, kA.push x, c2, kv ++ [v2], fun b o e => sm2 b o (sm b o e), pin J4 pa2.2.1 pk2.2.1 ((sb.2 a hka.symm).trans pa2.1) hc2, ?_, ?_⟩
        · rw [Array.toList_push]
          exact vals_snoc vk rel2
        · rw [List.take_add_one, he, List.map_append]
          exact DpAll.snoc (DpAll.on sm2 dk) dp2
  case done =>
    rintro s1 ⟨H1, kA, n, kv, sm, J, vk, dk⟩
    have pa := J.pin (a, seqObj "list" #[] e1) (by simp)
    have pk := J.pin (kS, seqObj "list" kA n) (by simp)
    have J1 : Inv X pins σ H1 s1 := J.unpinned
    rw [Nat.zero_add, hlen, List.take_length] at dk
    have hk1 := each_dp J dk vk
    have sz : kA.size = its.length := by
      have h1 : kv.length = kA.size := vk.length.trans Array.length_toList
      have h2 := DpAll.len dk
      rw [List.length_map] at h2
      omega
    have hu : ∀ d, d ∈ es.map (·.2) → X.A.in1.in1.units + d.depth < cLine := fun d hd => by
      obtain ⟨e, he, rfl⟩ := List.mem_map.mp hd
      have := dp e he
      omega
    obtain ⟨G, g1, g2⟩ := L2.restrict s1.heap fun b => decide (b ≠ kS)
    have kp : PySem.W.KeepsBut a G s1.heap := fun b o _ e => by
      by_cases z : b = kS
      · rw [g2 b (decide_eq_false fun h => h z)] at e
        cases e
      · rw [g1 b (decide_eq_true z)] at e
        exact e
    refine wpAny_bind (listItems_at pk.1 rfl ?_)
    refine PySem.W.keyH_end (κ := PySem.W.dataKind s1.heap (es.map (·.2))) (h₁ := G) kp (g2 kS (decide_eq_false fun h => h rfl)) pk.1 pa.1 hka (PySem.W.SortsAt.data hk1 al so hu) sz hZ fun h3 tk3 c k3 n3 => ⟨rfl, ?_⟩
    have ko : PySem.W.KeyedOut false (es.map (·.2)) its (PySem.W.sortVals (PySem.W.dataKind s1.heap (es.map (·.2))) false kA.toList its) := ⟨s1.heap, kA.toList, al, rfl, hk1⟩
    have out := pairs_each (PySem.W.keyedOut_each (fun e : V × PyData => e.2) ko (each_pairs rv))
    have J2 : Inv X pins σ H1 { s1 with heap := h3, toks := tk3 } := J1.turnedL (ch := [a, kS]) (fun b o hb e => k3 b o (fun z => hb (by simp [z])) ((g1 b (decide_eq_true fun z => hb (by simp [z]))).trans e)) fun b hb => by
      rcases List.mem_cons.mp hb with rfl | h
      · exact fa pa.2.1
      · rw [List.mem_singleton.mp h]
        exact fk pk.2.1
    have lo : ((keyed es).map (·.1)).length ≤ sizeLine := by
      rw [List.length_map, List.length_mergeSort, ← hlen]
      exact hZ
    refine ⟨.ref a, upd H1 a (.lst ((keyed es).map (·.1))), J2.take (it := a) (fun b o _ e => e) (fa pa.2.1) ⟨lo, _, c, out, n3⟩, rfl, q a _ na0 (fun b o e => (upd_ne (ne_of_none e na0)).trans (sm b o e)) upd_same⟩
/-! ### generator expressions whose parts may call: the generator's own frame as a context -/
abbrev gxc (X : Cx) (A' : Around) (s : Shared) (H : Hp) (ce : Env) (fp : List Addr) : Cx :=
  { X with A := A', s_0 := s, H_0 := H, env := ce, outer := X.stack, stack := ce :: X.stack, ex := fp, fn := fun _ => false, calm := true, pn := [], xe := fun _ _ => False }
abbrev genE (X : Cx) (scope : Scope) (C : Addr) (code : Value) : Env := genEnv scope (cloFrom X.env.cells scope.names []) C code builtinsNs X.env
structure GOk (N : List Str) (sc scope : Scope) (own : List (Str × Nat)) : Prop where
  blk : BlkOk N sc scope own
  co : scope.isCoroutine = false
  cell : ∀ y ∈ scope.names, y.2 ≠ .cell
  dot : scope.names.lookup (".0" : Str) = some NameKind.local
section
variable {X : Cx} {pins : List (Addr × Obj)} {σ : L2.St} {H : Hp} {s : Shared}
theorem gx_free {N : List Str} {scope : Scope} {own : List (Str × Nat)} (I : Inv X pins σ H s) (ok : GOk N X.env.scope scope own) : ∀ y ∈ scope.names, y.2 = .free → ∃ c, X.env.cells.lookup y.1 = some c := fun y hy e => by
  rcases ok.blk.free y hy e with k | k
  · exact I.ok.has _ (.inl k)
  · exact I.ok.has _ (.inr k)
/-- the generator's frame and the generator itself have come -/
theorem gx_start {scope : Scope} {own : List (Str × Nat)} {fp : List Addr} {A' : Around} {code it : Value} {h' : Heap} {oG : Obj} {g' : Array GenState} {t' : Nat} (I : Inv X pins σ H s) (ok : GOk X.N X.env.scope scope own) (hN : X.N.Nodup)
    (hfp : ∀ b ∈ fp, FpOk X pins H b ∧ b < s.heap.objs.size) (hA : A'.handled = none) (hfr : A'.frames = some (genE X scope s.heap.objs.size code :: X.stack))
    (hn : h'.Ns s.heap.objs.size (fun y => if y = ".0" then some it else none)) (hs : Heap.SameBut s.heap.objs.size (s.heap.push { cls := .type "frame", data := .dict #[] }) h')
    (hG : ∀ v, oG.data ≠ .cell v) (hb : AllBare g') (fG : oG.isFreed = false) :
    Inv (gxc X A' s H (genE X scope s.heap.objs.size code) fp) [(h'.objs.size, oG)] (wipe σ (own.map (·.2))) H { s with gens := g', toks := t', heap := h'.push oG } := by
  have sz : h'.objs.size = s.heap.objs.size + 1 := by rw [hs.1, Heap.size_push]
  have k1 : ∀ b o, s.heap.get? b = some o → h'.get? b = some o := fun b o e => hs.extBut b o (Nat.ne_of_lt (Heap.lt_size e)) (Heap.get?_push_of_some _ e)
  have kp : ∀ b o, s.heap.get? b = some o → (h'.push oG).get? b = some o := fun b o e => Heap.get?_push_of_some _ (k1 b o e)
  have fr := gx_free I ok
  have cm : ∀ {y c}, (cloFrom X.env.cells scope.names []).lookup y = some c → X.env.cells.lookup y = some c ∧ c < s.heap.objs.size ∧ (y, NameKind.free) ∈ scope.names := fun {y c} e => by
    rcases cloFrom_mem (PySem.mem_of_lookup e) with hm | ⟨h1, rfl⟩
    · cases hm
    · obtain ⟨c, hc⟩ := fr _ h1 rfl
      rw [hc]
      obtain ⟨w, z⟩ := I.cell _ _ hc
      exact ⟨rfl, z.lt, h1⟩
  have has : ∀ {y}, (y, NameKind.free) ∈ scope.names → ∃ c, (cloFrom X.env.cells scope.names []).lookup y = some c := fun {y} hy => mem_lookup (cloFrom_has (cells := X.env.cells) (acc := []) hy)
  have uq : ∀ {y k}, (y, k) ∈ scope.names → scope.names.lookup y = some k := fun {y k} h => ok.blk.uniq _ h
  have okG : (gxc X A' s H (genE X scope s.heap.objs.size code) fp).Ok := by
    refine ⟨I.ok.mod, ok.blk.kind, I.ok.glob, rfl, Nat.le_refl _, fun y z c e1 e2 => I.ok.inj y z c (cm e1).1 (cm e2).1, fun y hy => ?_, fun y c z _ => (nomatch z), fun _ => hA, hfr, .inr ⟨rfl, rfl⟩,
      fun b hb => ⟨Nat.ne_of_lt (hfp b hb).2, fun y c e z => (hfp b hb).1.2.2.2.2.1 y c (cm e).1 z⟩, I.bs, Nat.le_trans I.ok.bsz I.sz, fun b o e hb => ?_, fun b hb z => ?_, I.stack, I.stkFree⟩
    · rcases hy with hy | hy
      · exact absurd rfl (ok.cell _ (PySem.mem_of_lookup (show scope.names.lookup y = some .cell from hy)))
      · exact has (PySem.mem_of_lookup (show scope.names.lookup y = some .free from hy))
    · rcases (hfp b hb).1.2.2.2.1 with z | z
      · exact I.ok.noex b o e z
      · exact absurd (Nat.lt_of_lt_of_le (Heap.lt_size e) (Nat.le_trans I.ok.bsz z)) (Nat.lt_irrefl _)
    · rcases List.mem_cons.mp (I.stkSub b z) with z | z
      · exact (hfp b hb).1.2.1 z
      · exact (hfp b hb).1.2.2.1 z
  refine ⟨okG, rfl, hb, Un.kept kp, ⟨_, hn.push oG, fun i y v e1 e2 e3 => ?_⟩, fun y c e => ?_, I.hok.fresh (Nat.le_refl _), fun y c e => I.freeC y c (cm e).1, fun p hp => ?_, I.hok.kept kp, by rw [wipe_length]; exact I.len⟩
  · obtain ⟨e2, hne⟩ := wipe_some e2
    have key : scope.names.lookup y = some .free := by
      have no : ∀ k, scope.names.lookup y = some k → ¬ (k = .local ∨ k = .cell) := fun k hk hh => by
        rcases ok.blk.own _ (PySem.mem_of_lookup hk) hh with e' | e'
        · obtain ⟨p, hp, hpy⟩ := List.mem_map.mp e'
          have e4 := ok.blk.ix p hp
          have : p.1 = y := hpy
          rw [this] at e4
          exact hne (List.mem_map.mpr ⟨p, hp, nodup_ix hN e4 e1⟩)
        · exact e' (List.mem_of_getElem? e1)
      rcases (show Vis scope y from e3) with e3 | e3 | e3
      · exact absurd (.inl rfl) (no _ e3)
      · exact absurd (.inr rfl) (no _ e3)
      · exact e3
    obtain ⟨m, _, hl⟩ := I.loc
    have fy := PySem.mem_of_lookup key
    have hvis : Vis X.env.scope y := (ok.blk.free _ fy rfl).elim (fun k => .inr (.inl k)) (fun k => .inr (.inr k))
    obtain ⟨u, r, q⟩ := hl i y v e1 e2 hvis
    refine ⟨u, r, .inr ⟨.inr key, ?_⟩⟩
    obtain ⟨c, h1⟩ := has fy
    rcases q with ⟨k, _⟩ | ⟨_, c', e', z⟩
    · have k : X.env.scope.names.lookup y = some .local := k
      rcases ok.blk.free _ fy rfl with k' | k' <;> rw [show X.env.scope.names.lookup y = _ from k'] at k <;> cases k
    · have h2 := (cm h1).1
      rw [h2] at e'
      cases e'
      exact ⟨c, h1, z.keeps kp⟩
  · obtain ⟨v, z⟩ := I.cell y c (cm e).1
    exact ⟨v, z.keeps kp⟩
  · have hp' : p = (h'.objs.size, oG) := by simpa using hp
    subst hp'
    have nl : s.heap.objs.size ≤ h'.objs.size := by omega
    refine ⟨Heap.get?_push_size _ fG, I.hok.fresh nl, by show h'.objs.size ≠ s.heap.objs.size; omega, fun z => ?_, hG⟩
    rcases List.mem_cons.mp (I.stkSub _ z) with z | z
    · have := I.lt
      rw [← z] at this
      exact Nat.lt_irrefl _ (Nat.lt_of_lt_of_le this nl)
    · exact I.nofs nl z
end
/-! ### the generator's turns -/
abbrev gxl (X : Cx) (Ag : Around) (elt tg iter : Expr) (ifs : List Expr) (scope : Scope) (gpos : Pos) (it : Addr) (ce : Env) (s3 : Shared) (H3 : Hp) (fp : List Addr) : Cx :=
  gxc X (Ag.over (.compLoop (.GeneratorExp elt [⟨tg, iter, ifs, 0⟩] scope gpos) 0 (.ref it) .none ce) []) s3 H3 ce fp
/-- what stands between two turns: at most m turns are left, the i-th is next -/
def GTurns (J : It) (g : TG) (tt : TT) (te : TE) (vs : List Nat) (σ : L2.St) (W : Nat → Nat → Hp → Prop) (Out : Nat → Nat → V → Hp → Prop) (Fin : Hp → Prop) : Prop :=
  ∀ i m H, W i m H → (J.stop i H ∧ Fin H) ∨ (J.go i H ∧ ∀ x H', J.yld i H x H' → g x (wipe σ vs) H' fun σ2 H2 => wipe σ2 vs = wipe σ vs ∧ tt σ2 H2 fun b H3 =>
    if b = true then te σ2 H3 fun y H4 => Out i m y H4 else ∃ m', m' < m ∧ W (i + 1) m' H3)
def gxY (IG : Hp → Shared → Prop) (tn : Nat → Heap → Prop) (fp : List Addr) (W : Nat → Nat → Hp → Prop) (Out : Nat → Nat → V → Hp → Prop) (gn : Nat) : Protocol := fun n _ v s kap =>
  ∃ i m y H, RelV y v ∧ IG H s ∧ tn (i + 1) s.heap ∧ (∀ b ∈ fp, H b = none) ∧ Out i m y H ∧ gn < s.gens.size ∧ m ≤ n ∧
    ∀ m', m' < m → W (i + 1) m' H → ∀ s'' : Shared, IG H s'' → tn (i + 1) s''.heap → gn < s''.gens.size → kap (.send .none) s''
def gxR (IG : Hp → Shared → Prop) (Fin : Hp → Prop) : Nat → Shared → Shared → Prop := fun _ _ s1 => ∃ H, IG H s1 ∧ Fin H
section
variable {X : Cx} {σ : L2.St} {Ag : Around} {tg elt iter : Expr} {ifs : List Expr} {scope : Scope} {gpos : Pos} {it a : Addr} {oG : Obj} {ce : Env} {fp : List Addr} {s3 : Shared} {H3 : Hp} {tn : Nat → Heap → Prop} {J : It} {vs : List Nat} {gn : Nat}
  {g : TG} {tt : TT} {te : TE} {W : Nat → Nat → Hp → Prop} {Out : Nat → Nat → V → Hp → Prop} {Fin : Hp → Prop}
theorem gx_stat {σ' : L2.St} {H' : Hp} {s' : Shared} {A' : Around} (I' : Inv (gxc X A' s3 H3 ce fp) [(a, oG)] σ' H' s') (na : a ∉ fp) (hn : ∀ b ∈ fp, H' b = none) : ∀ b ∈ fp, FpOk (gxc X A' s3 H3 ce fp) [(a, oG)] H' b := fun b hb => by
  refine ⟨hn b hb, (I'.ok.exf b hb).1, I'.ok.exfs b hb, .inl hb, fun x c e => (I'.ok.exf b hb).2 x c e, fun p hp z => ?_⟩
  have hp' : p = (a, oG) := by simpa using hp
  subst hp'
  have z' : a = b := z
  exact na (z' ▸ hb)
theorem gx_seg (T : Turn X.prog X.w X.K tg J fp it tn) (na : a ∉ fp) (hco : ce.scope.isCoroutine = false)
    (pg : PG (gxl X Ag elt tg iter ifs scope gpos it ce s3 H3 fp) tg g)
    (pt : PTs (gxl X Ag elt tg iter ifs scope gpos it ce s3 H3 fp) ifs tt)
    (pe : PE (gxl X Ag elt tg iter ifs scope gpos it ce s3 H3 fp) elt te)
    (turn : GTurns J g tt te vs σ W Out Fin) (IG : Hp → Shared → Prop)
    (hIG : IG = fun H s => Inv (gxl X Ag elt tg iter ifs scope gpos it ce s3 H3 fp) [(a, oG)] (wipe σ vs) H s) :
    ∀ (m n i : Nat) (H : Hp) (s s0 : Shared), m < n → IG H s → tn i s.heap → (∀ b ∈ fp, H b = none) → W i m H → gn < s.gens.size →
      Seg (model X.prog X.w) Ag (fun n s0 r s1 => r = .ok .next ∧ gxR IG Fin n s0 s1) (gxY IG tn fp W Out gn) n s0
        (.compLoop (.GeneratorExp elt [⟨tg, iter, ifs, 0⟩] scope gpos) 0 (.ref it) .none ce)
        ((model X.prog X.w).den (.compLoop (.GeneratorExp elt [⟨tg, iter, ifs, 0⟩] scope gpos) 0 (.ref it) .none ce)) [] s := by
  intro m
  induction m using Nat.strongRecOn with
  | ind m ih =>
  intro n i H s s0 hmn I0 st n0 w0 hg
  have I : Inv (gxl X Ag elt tg iter ifs scope gpos it ce s3 H3 fp) [(a, oG)] (wipe σ vs) H s := by
    rw [hIG] at I0
    exact I0
  show Seg _ Ag _ _ _ s0 _ ((compTurn (.GeneratorExp elt [⟨tg, iter, ifs, 0⟩] scope gpos) 0 (.ref it) .none ce).onRaise (leaving ce)) [] s
  rw [compTurn_gen, Sem.onRaise_eq_wrap]
  refine seg_bind_wrap (wpAny_standAt ?_)
  rcases turn i m H w0 with ⟨stop, fin⟩ | ⟨go, step⟩
  · refine seg_bind_wrap (thnF (T.done (gxl X Ag elt tg iter ifs scope gpos it ce s3 H3 fp) rfl rfl rfl rfl i [(a, oG)] s _ H (fun _ _ => False) I (gx_stat I na n0) st stop) fun r s6 ⟨hr, I6⟩ => ?_)
    subst hr
    exact seg_end (.ok .next) ⟨rfl, H, by rw [hIG]; exact I6, fin⟩
  · refine seg_bind_wrap (GenW.wpAny_gsz hg (thnF (T.item (gxl X Ag elt tg iter ifs scope gpos it ce s3 H3 fp) rfl rfl rfl rfl i [(a, oG)] s _ H (fun _ _ => False) I (gx_stat I na n0) st go) fun r s6 ⟨u, hr, h6⟩ hg6 => ?_))
    subst hr
    refine seg_bind_wrap (GenW.wpAny_gsz hg6 (thnF h6 fun _ s7 ⟨x, H7, I7, r7, y7, st7, n7⟩ hg7 => ?_))
    have I7' := I7.pinned (gx_stat I7 na n7) (T.obj _ _ st7)
    refine seg_bind_wrap (GenW.wpAny_gsz hg7 (thnF (pg.run _ s7 _ H7 x u _ I7' r7 (step x H7 y7)) fun _ s8 ⟨σ8, H8, I8, hw8, q8⟩ hg8 => ?_))
    refine seg_bind_wrap (GenW.wpAny_gsz hg8 (thnF (pt.run _ s8 σ8 H8 _ I8 q8) fun b s9 ⟨H9, I9, q9⟩ hg9 => ?_))
    have hl : (wipe σ vs).length = σ8.length := by rw [← hw8, wipe_length]
    have back : ∀ {s' : Shared} {H' : Hp}, Inv (gxl X Ag elt tg iter ifs scope gpos it ce s3 H3 fp) ([(a, oG)] ++ pinsAt fp s7.heap) σ8 H' s' →
        IG H' s' ∧ tn (i + 1) s'.heap ∧ ∀ b ∈ fp, H' b = none := fun {s' H'} I' => by
      have pin' : ∀ b ∈ fp, ∀ o, s7.heap.get? b = some o → s'.heap.get? b = some o ∧ H' b = none := fun b hb o e =>
        let z := I'.pin (b, o) (List.mem_append_right _ (List.mem_append_right _ (mem_pinsAt hb e)))
        ⟨z.1, z.2.1⟩
      refine ⟨?_, T.keep _ _ _ st7 fun b hb o e => (pin' b hb o e).1, fun b hb => ?_⟩
      · rw [hIG]
        refine I'.unpinned.weak hl fun j v e => ?_
        rw [← hw8] at e
        exact (wipe_some e).1
      · obtain ⟨o, e, _⟩ := T.obj _ _ st7 b hb
        exact (pin' b hb o e).2
    cases b with
    | false =>
      simp only [Bool.false_eq_true, if_false] at q9 ⊢
      obtain ⟨m', hm, w'⟩ := q9
      obtain ⟨b1, b2, b3⟩ := back I9
      exact seg_again rfl (ih m' hm n (i + 1) H9 s9 s0 (Nat.lt_trans hm hmn) b1 b2 b3 w' hg9)
    | true =>
      simp only [if_true] at q9 ⊢
      have hy : ∀ v, yieldOut ce v = yieldValue v := fun v => by simp only [yieldOut, hco, Bool.false_eq_true, if_false]
      simp only [hy]
      rw [Sem.bind_eq_wrap', Sem.bind_eq_wrap', Sem.wrap_wrap, Sem.wrap_wrap]
      obtain ⟨n', rfl⟩ : ∃ n', n = n' + 1 := ⟨n - 1, by omega⟩
      refine seg_wrap (GenW.wpAny_gsz hg9 (thnF (pe.run _ s9 σ8 H9 _ I9 q9) fun z s10 ⟨yv, H10, I10, r10, out⟩ hg10 => ?_))
      obtain ⟨b1, b2, b3⟩ := back I10
      refine seg_at (seg_yield rfl rfl rfl ⟨i, m, yv, H10, r10, b1, b2, b3, out, hg10, by omega, fun m' hm w' s'' I'' st'' hg'' => ?_⟩)
      exact seg_again rfl (ih m' hm n' (i + 1) H10 s'' s'' (by omega) I'' st'' b3 w' hg'')
theorem gx_seg0 (T : Turn X.prog X.w X.K tg J fp it tn) {n : Nat} {s0 s : Shared} {R : GenEnd} {Y : Protocol} (st : tn 0 s.heap)
    (loop : Seg (model X.prog X.w) Ag R Y n s0 (.compLoop (.GeneratorExp elt [⟨tg, iter, ifs, 0⟩] scope gpos) 0 (.ref it) .none ce)
        ((model X.prog X.w).den (.compLoop (.GeneratorExp elt [⟨tg, iter, ifs, 0⟩] scope gpos) 0 (.ref it) .none ce)) [] s) :
    Seg (model X.prog X.w) Ag R Y n s0 (.compStart (.GeneratorExp elt [⟨tg, iter, ifs, 0⟩] scope gpos) 0 (.ref it) .none ce)
      ((model X.prog X.w).den (.compStart (.GeneratorExp elt [⟨tg, iter, ifs, 0⟩] scope gpos) 0 (.ref it) .none ce)) [] s := by
  show Seg _ Ag _ _ _ s0 _ ((compStart (.GeneratorExp elt [⟨tg, iter, ifs, 0⟩] scope gpos) 0 (.ref it) .none ce).onRaise (leaving ce)) [] s
  unfold compStart
  rw [Sem.onRaise_eq_wrap]
  show Seg _ Ag _ _ _ s0 _ ((ask >>= _).wrap _ _ _ _) [] s
  refine seg_bind_wrap (wpAny_askSetting ?_)
  split
  · exact seg_again rfl loop
  · refine seg_bind_wrap (wpAny_rule ?_)
    show Seg _ Ag _ _ _ s0 _ ((standAt iter.pos >>= _).wrap _ _ _ _) [] s
    exact seg_bind_wrap (wpAny_standAt (seg_bind_wrap (T.self _ 0 s _ _ st (seg_again rfl loop))))
end
/-! ### the generator asked for its next -/
structure IGok (X : Cx) (pins : List (Addr × Obj)) (σ : L2.St) (a : Addr) (gn : Nat) (IG : Hp → Shared → Prop) : Prop where
  bare : ∀ {H s}, IG H s → AllBare s.gens
  gens : ∀ {H s g'}, IG H s → AllBare g' → IG H { s with gens := g' }
  kept : ∀ {H : Hp} {s : Shared} {h' : Heap} {tk : Nat}, IG H s → (∀ b o, s.heap.get? b = some o → h'.get? b = some o) → IG H { s with heap := h', toks := tk }
  isgen : ∀ {H s}, IG H s → s.heap.IsGen a gn
  nolim : ∀ {H s}, IG H s → s.heap.NoLimit
  back : ∀ {H s}, IG H s → Inv X pins σ H s
def GRun (X : Cx) (Ac : Around) (IG : Hp → Shared → Prop) (tn : Nat → Heap → Prop) (fp : List Addr) (W : Nat → Nat → Hp → Prop) (Out : Nat → Nat → V → Hp → Prop) (Fin : Hp → Prop) (gn i m n : Nat) (H : Hp) (s : Shared) : Prop :=
  IG H s ∧ tn i s.heap ∧ (∀ b ∈ fp, H b = none) ∧ W i m H ∧ ∃ gs, s.gens[gn]? = some gs ∧ m < n ∧ ∀ s'' : Shared, IG H s'' → tn i s''.heap → gn < s''.gens.size →
    gs.Goes (model X.prog X.w) Ac.in1 (fun n s0 r s1 => r = .ok .next ∧ gxR IG Fin n s0 s1) (gxY IG tn fp W Out gn) n (.send .none) s''
theorem bare_set {s : Shared} {gn : Nat} {x : GenState} (h : AllBare s.gens) (hx : x.bare = true) : AllBare (s.setGen gn x).gens := by
  intro y hy
  have hy' : y ∈ s.gens.setIfInBounds gn x := hy
  rcases Array.mem_or_eq_of_mem_setIfInBounds hy' with h1 | h1
  · exact h y h1
  · rw [h1]; exact hx
section
variable {X : Cx} {pins : List (Addr × Obj)} {σ : L2.St} {Ac : Around} {IG : Hp → Shared → Prop} {tn : Nat → Heap → Prop} {fp : List Addr} {W : Nat → Nat → Hp → Prop} {Out : Nat → Nat → V → Hp → Prop} {Fin : Hp → Prop} {a : Addr} {gn : Nat}
theorem GRun.lt {i m n : Nat} {H : Hp} {s : Shared} (G : GRun X Ac IG tn fp W Out Fin gn i m n H s) : gn < s.gens.size := by
  obtain ⟨_, _, _, _, gs, h, _⟩ := G
  exact (Array.getElem?_eq_some_iff.mp h).1
/-- what a consumer lays beside it changes nothing -/
theorem GRun.kept (ig : IGok X pins σ a gn IG) (hk : ∀ i h h', tn i h → (∀ b o, h.get? b = some o → h'.get? b = some o) → tn i h') {i m n : Nat} {H : Hp} {s : Shared} {h' : Heap} {tk : Nat} (G : GRun X Ac IG tn fp W Out Fin gn i m n H s)
    (k : ∀ b o, s.heap.get? b = some o → h'.get? b = some o) : GRun X Ac IG tn fp W Out Fin gn i m n H { s with heap := h', toks := tk } := by
  obtain ⟨g1, g2, g3, g4, gs, g5, g6, g7⟩ := G
  exact ⟨ig.kept g1 k, hk _ _ _ g2 k, g3, g4, gs, g5, g6, g7⟩
theorem gx_next {E : Value → Shared → Prop} {Q : Option Value → Shared → Prop} {i m n : Nat} {H : Hp} {s : Shared} (ig : IGok X pins σ a gn IG) (hA : Ac.handled = none) (hd : Ac.depth < recursionLimit) (G : GRun X Ac IG tn fp W Out Fin gn i m n H s)
    (hout : ∀ v y H' s' i' m', RelV y v → Out i' m' y H' → IG H' s' → (∀ m'', m'' < m' → W (i' + 1) m'' H' → GRun X Ac IG tn fp W Out Fin gn (i' + 1) m'' (n - 1) H' s') → Q (some v) s')
    (hfin : ∀ H' s', Fin H' → IG H' s' → Q none s') : wpAny (model X.prog X.w) Ac (pyNext (.ref a)) Q E s := by
  have lt := G.lt
  obtain ⟨g1, g2, g3, g4, gs, g5, g6, g7⟩ := G
  have run : IG H (s.setGen gn .running) := ig.gens g1 (bare_set (ig.bare g1) rfl)
  refine wpAny_pyNext_genexpQ (P := gxR IG Fin) hA (ig.nolim g1) hd (ig.isgen g1) g5 (g7 _ run g2 (by rw [GenW.setGen_size]; exact lt)) (fun v s1 gs' hb hv => ?_) fun s1 hp h' hk => ?_
  · obtain ⟨i', m', y, H', r, I1, st1, nf, out, hg1, hmn, kap⟩ := hv
    have I2 : IG H' (s1.setGen gn gs') := ig.gens I1 (bare_set (ig.bare I1) hb)
    refine hout v y H' _ i' m' r out I2 fun m'' hm w' => ⟨I2, st1, nf, w', gs', ?_, by omega, fun s'' J'' st'' hg'' => ?_⟩
    · show (s1.gens.setIfInBounds gn gs')[gn]? = some gs'
      rw [Array.getElem?_setIfInBounds_self_of_lt hg1]
    · have q := kap m'' hm w' s'' J'' st'' hg''
      cases n with
      | zero => exact q.elim
      | succ n => exact q
  · obtain ⟨H', I1, fin⟩ := hp
    exact hfin H' _ fin (ig.kept (tk := (s1.setGen gn .finished).toks) (ig.gens I1 (bare_set (ig.bare I1) rfl)) hk)
end
/-! ### the generator made -/
section
variable {X : Cx} {pins : List (Addr × Obj)} {σ : L2.St} {H : Hp} {s : Shared}
theorem over_gen {Ag : Around} {stack : List Env} {elt tg iter : Expr} {ifs : List Expr} {scope : Scope} {gpos : Pos} {it : Value} {ce : Env} (hf : Ag.frames = some stack) :
    (Ag.over (.compLoop (.GeneratorExp elt [⟨tg, iter, ifs, 0⟩] scope gpos) 0 it .none ce) []).frames = some (ce :: stack) := by
  show pushEnvs [ce] (pushEnvs [] Ag.frames) = _
  rw [hf]
  rfl
theorem room_gen {Ag : Around} {k : Nat} {elt tg iter : Expr} {ifs : List Expr} {scope : Scope} {gpos : Pos} {it : Value} {ce : Env} (h1 : Ag.handled = none) (h2 : Ag.depth + 1 + 3 * k + 5 < recursionLimit) (h3 : Ag.units + 3 + 16 * k + 200 < cLine) :
    Room k (Ag.over (.compLoop (.GeneratorExp elt [⟨tg, iter, ifs, 0⟩] scope gpos) 0 it .none ce) []) := by
  refine ⟨h1, ?_, ?_⟩
  · show Ag.depth + 0 + 1 + 3 * k + 5 < _
    omega
  · show Ag.units + 0 + 3 + 16 * k + 200 < _
    omega
/-- a generator expression is made; Ac: where it will be asked -/
theorem gx_mk {c T : Addr} {elt tg iter : Expr} {ifs : List Expr} {scope : Scope} {own : List (Str × Nat)} {gpos : Pos} {wi : TI} {g : TG} {tt : TT} {te : TE} {k : Nat} {Q' : Value → Shared → Prop} {Outf : (Nat → Nat → Hp → Prop) → Nat → Nat → V → Hp → Prop} {Fin : Hp → Prop}
    (Ac : Around) (hA : Ac.handled = none) (hfr : Ac.frames = some X.stack) (hd : Ac.depth ≤ X.A.depth) (hu : Ac.units ≤ X.A.units + 8) (hr : Room (k + 1) X.A) (hc : X.calm = true) (hN : X.N.Nodup) (TB : GxR.TabB X.base X.mg c T) (hcode : X.env.code = .ref c) (ok : GOk X.N X.env.scope scope own) (hi : PI X tg iter wi)
    (hg : ∀ (A' : Around) (s3 : Shared) (H3 : Hp) (C : Addr) (code : Value) (fp : List Addr), PG (gxc X A' s3 H3 (genE X scope C code) fp) tg g)
    (ht : ∀ (A' : Around) (s3 : Shared) (H3 : Hp) (C : Addr) (code : Value) (fp : List Addr), Room k A' → PTs (gxc X A' s3 H3 (genE X scope C code) fp) ifs tt)
    (he : ∀ (A' : Around) (s3 : Shared) (H3 : Hp) (C : Addr) (code : Value) (fp : List Addr), Room k A' → PE (gxc X A' s3 H3 (genE X scope C code) fp) elt te)
    (hs : ∀ v, genFold iter X.env v = pure v) (I : Inv X pins σ H s)
    (h : wi σ H fun J H1 => GxR.TabG H1 T ∧ ∀ H2, GxR.Tabbed T H1 H2 → ∃ W, (∃ m, W 0 m H2) ∧ GTurns J g tt te (own.map (·.2)) σ W (Outf W) Fin)
    (hQ : ∀ (IG : Hp → Shared → Prop) (tn : Nat → Heap → Prop) (fp : List Addr) W (a : Addr) (gn m : Nat) (H2 : Hp) (s5 : Shared), IGok X pins σ a gn IG → (∀ i h h', tn i h → (∀ b o, h.get? b = some o → h'.get? b = some o) → tn i h') →
      GRun X Ac IG tn fp W (Outf W) Fin gn 0 m (m + 1) H2 s5 → Q' (.ref a) s5) :
    wpAny (model X.prog X.w) X.A (eval (.GeneratorExp elt [⟨tg, iter, ifs, 0⟩] scope gpos) X.env) Q' X.xe s := by
  have free := gx_free I ok
  refine wpAny_GeneratorExp_make ok.co (closure_ok free) ok.cell ok.dot ok.blk.kind (Nat.lt_of_le_of_lt (by omega : X.A.depth ≤ X.A.depth + 3 * (k + 1) + 5) hr.dp) ?_ hs
  refine thn (hi.run pins s σ H _ I h) fun xv s1 h1 => thn h1 fun itv s2 h2 => ?_
  obtain ⟨it, fp, tn, J, H1, rfl, J1, TU, st2, f2, ⟨ps, hT, hok⟩, q⟩ := h2
  have gT : s2.heap.get? T = some (PySem.W.tabObj ps) := J1.hok T _ hT
  have cd : PySem.W.CodeHd s2.heap c T := TB.code.keeps J1.bk
  refine ⟨J1.nolimit, ?_⟩
  have lts : ∀ b ∈ fp, b < s2.heap.objs.size := fun b hb => by
    obtain ⟨o, e, _⟩ := TU.obj _ _ st2 b hb
    exact Heap.lt_size e
  have nfT : ∀ b ∈ fp, b ≠ T := fun b hb z => by
    have := (f2 b hb).1
    rw [z, hT] at this
    cases this
  -- behind the code object
  have on : ∀ (code : Value) (h3 : Heap) (tk : Nat) (more : Array Value), Heap.ExtBut T s2.heap h3 → s2.heap.objs.size ≤ h3.objs.size → h3.get? T = some (PySem.W.tabObj (ps ++ more)) → TriplesOk (ps ++ more).toList →
      wpAny (model X.prog X.w) X.A (builtinsFor X.env.globals X.env.builtins) (fun bi s4 =>
        ∀ h', h'.Ns s4.heap.objs.size (fun y => if y = ".0" then some (.ref it) else none) → Heap.SameBut s4.heap.objs.size (s4.heap.push { cls := .type "frame", data := .dict #[] }) h' →
          Q' (.ref h'.objs.size) { s4 with
            gens := s4.gens.push (.fresh (.compStart (.GeneratorExp elt [⟨tg, iter, ifs, 0⟩] scope gpos) 0 (.ref it) .none (genEnv scope (cloFrom X.env.cells scope.names []) s4.heap.objs.size code bi X.env))),
            toks := s4.toks + 1 + 1 + 1,
            heap := h'.push { cls := .type "generator", data := .fields #[.int s4.gens.size 0, .str "<genexpr>" (s4.toks + 1), .str (X.env.qual ++ "<genexpr>") (s4.toks + 1 + 1)] } }) X.xe { s2 with heap := h3, toks := tk } := by
    intro code h3 tk more ext ge3 gT3 ok3
    have J3 : Inv X pins σ (upd H1 T (.tbl (ps ++ more))) { s2 with heap := h3, toks := tk } := GxR.inv_tab (g' := s2.gens) (d' := s2.drawn) J1 hT ext gT3 J1.bare
    have tb : GxR.Tabbed T H1 (upd H1 T (.tbl (ps ++ more))) := ⟨⟨_, upd_same, ok3⟩, fun b nb => upd_ne nb⟩
    obtain ⟨W, ⟨m0, w0⟩, turn⟩ := q _ tb
    obtain ⟨bm, ob, e1, e2, _, e4, e5, e6, e7, e8⟩ := TB.bm
    refine wpAny_builtinsFor (m := X.mg) (by rw [J3.ok.glob]; exact J3.mod.glob.keeps J3.bk) e1 e2 (ext _ _ e4 (J1.bk _ _ e5)) e6 e7 e8 ?_
    intro h' hn hsb
    have f3 : ∀ b ∈ fp, FpOk X pins (upd H1 T (.tbl (ps ++ more))) b ∧ b < h3.objs.size := fun b hb => by
      refine ⟨⟨?_, (f2 b hb).2⟩, Nat.lt_of_lt_of_le (lts b hb) ge3⟩
      rw [upd_ne (nfT b hb)]
      exact (f2 b hb).1
    have st3 : tn 0 h3 := TU.keep _ _ _ st2 fun b hb o e => ext b o (nfT b hb) e
    have nf3 : ∀ b ∈ fp, (upd H1 T (.tbl (ps ++ more))) b = none := fun b hb => (f3 b hb).1.1
    generalize hH3 : upd H1 T (.tbl (ps ++ more)) = H3 at J3 w0 f3 nf3
    generalize hs3 : ({ s2 with heap := h3, toks := tk } : Shared) = s3 at J3 hn hsb ⊢
    have eh : s3.heap = h3 := by rw [← hs3]
    have szh : h'.objs.size = s3.heap.objs.size + 1 := by rw [hsb.1, Heap.size_push]
    have kp : ∀ b o, s3.heap.get? b = some o → h'.get? b = some o := fun b o e => hsb.extBut b o (Nat.ne_of_lt (Heap.lt_size e)) (Heap.get?_push_of_some _ e)
    generalize hoG : ({ cls := .type "generator", data := .fields #[.int s3.gens.size 0, .str "<genexpr>" (s3.toks + 1), .str (X.env.qual ++ "<genexpr>") (s3.toks + 1 + 1)] } : Obj) = oG
    have na : h'.objs.size ∉ fp := fun z => by
      have := (f3 _ z).2
      rw [← eh] at this
      exact Nat.lt_irrefl _ (Nat.lt_of_lt_of_le this (by rw [szh]; exact Nat.le_succ _))
    have start := gx_start (A' := Ac.in1.over (.compLoop (.GeneratorExp elt [⟨tg, iter, ifs, 0⟩] scope gpos) 0 (.ref it) .none (genE X scope s3.heap.objs.size code)) []) (code := code) (it := .ref it) (oG := oG)
      (g' := s3.gens.push (.fresh (.compStart (.GeneratorExp elt [⟨tg, iter, ifs, 0⟩] scope gpos) 0 (.ref it) .none (genE X scope s3.heap.objs.size code)))) (t' := s3.toks + 1 + 1 + 1) J3 ok hN (fun b hb => ⟨(f3 b hb).1, by rw [eh]; exact (f3 b hb).2⟩) hA (over_gen hfr) hn hsb
      (fun v => by rw [← hoG]; exact fun z => nomatch z) (J3.bare.push rfl) (by rw [← hoG]; rfl)
    have rm : Room k (Ac.in1.over (.compLoop (.GeneratorExp elt [⟨tg, iter, ifs, 0⟩] scope gpos) 0 (.ref it) .none (genE X scope s3.heap.objs.size code)) []) :=
      room_gen hA (by have := hr.dp; show Ac.depth + 1 + 3 * k + 5 < _; omega) (by have := hr.un; show Ac.units + 1 + 3 + 16 * k + 200 < _; omega)
    refine hQ (fun H' s' => Inv (gxl X Ac.in1 elt tg iter ifs scope gpos it (genE X scope s3.heap.objs.size code) s3 H3 fp) [(h'.objs.size, oG)] (wipe σ (own.map (·.2))) H' s') tn fp W h'.objs.size s3.gens.size m0 H3 _ ?_ (fun i h h' st kk => TU.keep _ _ _ st fun b _ o e => kk b o e) ?_
    · refine ⟨fun I' => I'.bare, fun I' hb => ⟨I'.ok, I'.os, hb, I'.base, I'.loc, I'.cell, I'.free, I'.freeC, I'.pin, I'.hok, I'.len⟩, fun I' kk => I'.kept kk, fun I' => ?_, fun I' => I'.nolimit, fun I' => ?_⟩
      · have z := (I'.pin (h'.objs.size, oG) (by simp)).1
        rw [← hoG] at z
        exact ⟨_, _, _, z, rfl, rfl, rfl⟩
      · exact J3.call' (ch := fp) I'.os I'.base I'.hok I'.bare fun b hb => ⟨(f3 b hb).1.2.2.2.1, (f3 b hb).1.2.1, (f3 b hb).1.2.2.2.2.1, (f3 b hb).1.2.2.2.2.2⟩
    · refine ⟨start, TU.keep _ _ _ st3 fun b hb o e => Heap.get?_push_of_some _ (kp b o (by rw [eh]; exact e)), nf3, w0, _, Array.getElem?_push_size .., Nat.lt_succ_self _, fun s'' I'' st'' hg'' => ⟨rfl, ?_⟩⟩
      exact gx_seg0 TU st'' (gx_seg TU na ok.co (hg _ s3 H3 _ code fp) (ht _ s3 H3 _ code fp rm) (he _ s3 H3 _ code fp rm) turn _ rfl m0 (m0 + 1) 0 H3 s'' s'' (Nat.lt_succ_self _) I'' st'' nf3 w0 hg'')
  cases among : codeAmong gpos ps.toList with
  | some cv =>
    refine wpAny_genexprCode_hit hcode (cd.code gT hok) among ?_
    exact on cv s2.heap s2.toks #[] (Heap.ExtBut.refl _ _) (Nat.le_refl _) (by rw [Array.append_empty]; exact gT) (by rw [Array.append_empty]; exact hok)
  | none =>
    refine wpAny_genexprCodeX hcode (cd.code gT hok) (cd.tab gT) among fun c' h' tk hx hge hlt isC _ tab' _ => ?_
    obtain ⟨_, _, _, _, _, _, _, _, _, _, _, _, _, _, _, _, _, _, _, ok', _⟩ := isC
    exact on _ h' tk _ hx (Nat.le_trans hge (Nat.le_of_lt hlt)) tab'.2 ok'
end
/-! ### all(..) of a generator expression -/
def tAllG (T : Addr) (wi : TI) (g : TG) (tt : TT) (te : TE) (vs : List Nat) : TE := fun σ H Q => wi σ H fun J H1 => GxR.TabG H1 T ∧ ∀ H2, GxR.Tabbed T H1 H2 → ∃ W : Nat → Nat → Hp → Prop, (∃ m, W 0 m H2) ∧
  GTurns J g tt te vs σ W (fun i m y H' => ∃ k, y = .bl k ∧ (if k = true then ∃ m', m' < m ∧ W (i + 1) m' H' else Q (.bl false) H')) (fun H' => Q (.bl true) H')
section
variable {X : Cx} {pins : List (Addr × Obj)} {σ : L2.St}
theorem all_loop {IG : Hp → Shared → Prop} {tn : Nat → Heap → Prop} {fp : List Addr} {W : Nat → Nat → Hp → Prop} {a : Addr} {gn : Nat} {Q : VK} {R : Result → Shared → Prop} (ig : IGok X pins σ a gn IG) (hA : X.A.handled = none) (hd : X.A.depth < recursionLimit)
    (hR : ∀ b H s, Q (.bl b) H → IG H s → R (.ok (.ret (.bool b))) s) : ∀ (n i m : Nat) (H : Hp) (s : Shared),
    GRun X X.A.in1 IG tn fp W (fun i m y H' => ∃ k, y = .bl k ∧ (if k = true then ∃ m', m' < m ∧ W (i + 1) m' H' else Q (.bl false) H')) (fun H' => Q (.bl true) H') gn i m n H s →
    codeAny (model X.prog X.w) X.A (.builtin "all.loop" ⟨[.ref a], []⟩) R s := by
  intro n
  induction n with
  | zero =>
    intro i m H s G
    obtain ⟨_, _, _, _, gs, _, h, _⟩ := G
    exact absurd h (Nat.not_lt_zero _)
  | succ n ih =>
    intro i m H s G
    refine codeAny_builtin F.entry_all_loop ?_
    rw [Around.under_plainId F.plain_all_loop _]
    show wpAny _ X.A.in1 (pyNext (.ref a) >>= _) _ _ s
    refine wpAny_bind (gx_next ig hA hd G (fun v y H' s' i' m' r out I' cont => ?_) fun H' s' fin I' => ?_)
    · obtain ⟨k, rfl, hk⟩ := out
      obtain rfl : v = .bool k := r
      refine wpAny_bind (wpAny_holding (wpAny_truthy_bool ?_))
      refine wpAny_bind (wpAny_letGo ?_)
      cases k with
      | true =>
        obtain ⟨m'', hm, w'⟩ := hk
        exact wpAny_pure ⟨plainId_quiet F.plain_all_loop _, ih (i' + 1) m'' H' s' (cont m'' hm w')⟩
      | false =>
        refine wpAny_bind (wpAny_rule (wpAny_pure ?_))
        exact hR false H' s' hk I'
    · refine wpAny_bind (wpAny_rule (wpAny_pure ?_))
      exact hR true H' s' fin I'
theorem pe_allG {c T : Addr} {elt tg iter : Expr} {ifs : List Expr} {scope : Scope} {own : List (Str × Nat)} {gpos p pos : Pos} {wi : TI} {g : TG} {tt : TT} {te : TE} {k : Nat}
    (hr : Room (k + 1) X.A) (hgl : Gl X "all") (hm : X.mg "all" = none) (hc : X.calm = true) (hN : X.N.Nodup) (TB : GxR.TabB X.base X.mg c T) (hcode : X.env.code = .ref c) (ok : GOk X.N X.env.scope scope own) (hi : PI X tg iter wi)
    (hg : ∀ (A' : Around) (s3 : Shared) (H3 : Hp) (C : Addr) (code : Value) (fp : List Addr), PG (gxc X A' s3 H3 (genE X scope C code) fp) tg g)
    (ht : ∀ (A' : Around) (s3 : Shared) (H3 : Hp) (C : Addr) (code : Value) (fp : List Addr), Room k A' → PTs (gxc X A' s3 H3 (genE X scope C code) fp) ifs tt)
    (he : ∀ (A' : Around) (s3 : Shared) (H3 : Hp) (C : Addr) (code : Value) (fp : List Addr), Room k A' → PE (gxc X A' s3 H3 (genE X scope C code) fp) elt te)
    (hs : ∀ v, genFold iter X.env v = pure v := by intro _; rfl)
    (hst : starEach [.GeneratorExp elt [⟨tg, iter, ifs, 0⟩] scope gpos] X.env = (false, eval (.GeneratorExp elt [⟨tg, iter, ifs, 0⟩] scope gpos) X.env) :: starEach [] X.env := by rfl) :
    PE X (.Call (.Name "all" p) [.GeneratorExp elt [⟨tg, iter, ifs, 0⟩] scope gpos] [] pos) (tAllG T wi g tt te (own.map (·.2))) := by
  refine ⟨fun pins s σ H Q I h => wpAny_Call_Name_kw (ld_blt I hgl hm (show bootBuiltins "all" = some (.builtin "all") by decide +kernel) ?_)⟩
  refine PyProof.Rows.callWith_builtin1 ?_ hst (by rfl)
  rw [hst]
  have hA := I.ok.hd hc
  have hf := I.ok.frames
  refine Calls.spliced_cons (gx_mk (Outf := fun W i m y H' => ∃ k, y = .bl k ∧ (if k = true then ∃ m', m' < m ∧ W (i + 1) m' H' else Q (.bl false) H')) (Fin := fun H' => Q (.bl true) H')
    X.A.in1 hA hf (Nat.le_refl _) (by show X.A.units + 1 ≤ _; omega) hr hc hN TB hcode ok hi hg ht he hs I h ?_)
  · intro IG tn fp W a gn m H2 s5 ig hk G
    refine Calls.spliced_nil ?_
    refine call_function_tree F.kind_all F.plain_all F.entry_all (F.args_all1 _) ?_
    unfold Builtin.«all»
    refine wpAny_bind (m := oneArg "all" _) (wpAny_pure ?_)
    refine wpAny_bind (wpAny_pyIter_gen (ig.isgen G.1) ?_)
    exact wpAny_pure ⟨plainId_quiet F.plain_all_loop _, all_loop ig hA (Nat.lt_of_le_of_lt (by omega : X.A.depth ≤ X.A.depth + 3 * (k + 1) + 5) hr.dp) (fun b H s q I' => ⟨.bl b, H, ig.back I', rfl, q⟩) _ _ _ _ _ G⟩
end
/-! ### len(set(t)) of a tuple of texts -/
/-- the texts, each once -/
def once : List Str → List Str := fun xs => xs.foldl (fun acc x => if acc.contains x = true then acc else acc ++ [x]) []
theorem once_snoc (xs : List Str) (x : Str) : once (xs ++ [x]) = if (once xs).contains x = true then once xs else once xs ++ [x] := by
  unfold once
  rw [List.foldl_append]
  rfl
theorem once_le (l : List Str) : (once l).length ≤ l.length := by
  have more : ∀ (l acc : List Str), (l.foldl (fun acc x => if acc.contains x = true then acc else acc ++ [x]) acc).length ≤ acc.length + l.length := by
    intro l
    induction l with
    | nil => intro acc; exact Nat.le_refl _
    | cons x r ih =>
      intro acc
      refine Nat.le_trans (ih _) ?_
      show (if acc.contains x = true then acc else acc ++ [x]).length + r.length ≤ acc.length + (r.length + 1)
      by_cases h : acc.contains x = true
      · rw [if_pos h]; omega
      · rw [if_neg h, List.length_append]; show acc.length + 1 + r.length ≤ _; omega
  have h := more l []
  have z : (once l).length ≤ ([] : List Str).length + l.length := h
  simpa using z
section
variable {prog : Program} {w : World} {A : Around}
theorem set_texts_loop {R : Result → Shared → Prop} {it : Addr} {fp wr : List Addr} {G : Array GenState → Array GenState → Prop} {n : Nat} {P : Nat → Value → Prop} {St : Nat → Shared → Prop} (W : WalksS prog w A.in1 it fp wr G n P St) (S : Addr) (nS : S ∉ fp) (xs : List Str)
    (len : xs.length = n) (big : n + 1 < scanBound) (val : ∀ i v, P i v → ∃ t, v = .str (xs.getD i Str.empty) t) :
    ∀ (k i : Nat) (s : Shared), n - i = k → i ≤ n → St i s → s.heap.SetOf (PySem.strKind prog w) S (fun x => (once (xs.take i)).contains x) (once (xs.take i)).length →
      (∀ s', Moved (S :: wr) G s s' → s'.heap.SetOf (PySem.strKind prog w) S (fun x => (once xs).contains x) (once xs).length → R (.ok (.ret .none)) s') →
      codeAny (model prog w) A (.builtin "set.update.loop" ⟨[.ref S, .ref it], []⟩) R s := by
  have nW : S ∉ wr := fun h => nS (W.sub _ h)
  have up : ∀ b ∈ wr, b ∈ S :: wr := fun b hb => List.mem_cons_of_mem _ hb
  have stay : ∀ {s s' : Shared} {f : Str → Bool} {c : Nat}, Moved wr G s s' → s.heap.SetOf (PySem.strKind prog w) S f c → s'.heap.SetOf (PySem.strKind prog w) S f c := fun mv ⟨o, es, ep, t, ho, r⟩ => ⟨o, es, ep, t, mv.heap S _ nW ho, r⟩
  have most := once_le
  intro k
  induction k with
  | zero =>
    intro i s hk hi st hS hR
    obtain rfl : i = n := by omega
    refine codeAny_builtin PyProof.Rows.F.entry_set_update_loop ?_
    rw [Around.under_plainId PyProof.Rows.F.plain_set_update_loop _]
    show wpAny _ A.in1 (pyNext (.ref it) >>= _) _ _ s
    refine wpAny_bind (W.done s _ _ st fun s' mv => ?_)
    rw [List.take_of_length_le (Nat.le_of_eq len)] at hS
    exact wpAny_pure (hR s' (mv.mono up) (stay mv hS))
  | succ k ih =>
    intro i s hk hi st hS hR
    have lt : i < n := by omega
    refine codeAny_builtin PyProof.Rows.F.entry_set_update_loop ?_
    rw [Around.under_plainId PyProof.Rows.F.plain_set_update_loop _]
    show wpAny _ A.in1 (pyNext (.ref it) >>= _) _ _ s
    refine wpAny_bind (W.item i s _ _ lt st fun v s' hP st' mv => ?_)
    obtain ⟨t, rfl⟩ := val i v hP
    show wpAny _ A.in1 (holding [Value.str (xs.getD i Str.empty) t] (setAdd S (.str (xs.getD i Str.empty) t)) >>= _) _ _ s'
    refine wpAny_bind (wpAny_holding ?_)
    unfold setAdd
    refine wpAny_holding (wpAny_bind ((PySem.strKind prog w).pyHash (k := xs.getD i Str.empty) (strKind_is _ _ _ _) ?_))
    have small : (once (xs.take i)).length + 1 < scanBound := by
      have h := most (xs.take i)
      rw [List.length_take] at h
      omega
    refine wpAny_setAddHashed_of (knd := PySem.strKind prog w) (s := { s' with toks := s'.toks + 1 }) (strKind_is _ _ _ _) rfl (show s'.heap.SetOf _ S _ _ from stay mv hS) small fun h' sb hS2 => ?_
    have hx : xs.take (i + 1) = xs.take i ++ [xs.getD i Str.empty] := by
      have hl : i < xs.length := by omega
      rw [List.take_add_one, List.getElem?_eq_getElem hl, List.getD_eq_getElem?_getD, List.getElem?_eq_getElem hl]
      rfl
    have hS3 : h'.SetOf (PySem.strKind prog w) S (fun x => (once (xs.take (i + 1))).contains x) (once (xs.take (i + 1))).length := by
      rw [hx, once_snoc]
      revert hS2
      generalize xs.getD i Str.empty = z
      generalize once (xs.take i) = L
      intro hS2
      by_cases e : L.contains z = true
      · rw [if_pos e] at hS2 ⊢
        refine SetOf_congr hS2 (fun y => ?_) rfl
        by_cases q : y = z
        · rw [q, e]; rfl
        · rw [decide_eq_false q, Bool.or_false]
      · rw [if_neg e] at hS2 ⊢
        refine SetOf_congr hS2 (fun y => ?_) (by rw [List.length_append]; rfl)
        rw [List.contains_append]
        by_cases q : y = z
        · rw [q, decide_eq_true rfl]; simp
        · rw [decide_eq_false q]; simp [q]
    refine wpAny_pure ⟨plainId_quiet PyProof.Rows.F.plain_set_update_loop _, ih (i + 1) _ (by omega) lt (W.frame _ s' _ _ st' (Nat.le_succ _) fun b hb o e => ?_) hS3 fun s'' mv'' hS'' => ?_⟩
    · rw [sb.2 b (fun z : b = S => nS (by rw [← z]; exact hb))]
      exact e
    · refine hR s'' (Moved.trans W.gtrans ((mv.mono up).then_heap (Nat.le_succ _) fun b o hb e => ?_) mv'') hS''
      rw [sb.2 b (fun z : b = S => hb (by rw [z]; exact List.mem_cons_self))]
      exact e
abbrev set0 (led : Bool) : Obj := { cls := .type "set", dict := none, data := .set #[] 0 (.fresh 0 0 led) }
set_option maxHeartbeats 3200000 in
theorem set_of_texts {E : Value → Shared → Prop} {s : Shared} {l : Addr} {items : Array Value} {xs : List Str} {Q : Value → Shared → Prop} (hh : A.handled = none) (hl : s.heap.IsTuple l items) (hi : PyProof.Rows.StrsAre items.toList xs) (big : xs.length + 1 < scanBound)
    (h : ∀ (h' : Heap) (tk : Nat), h'.SetOf (PySem.strKind prog w) s.heap.objs.size (fun x => (once xs).contains x) (once xs).length →
      (∀ b o, b < s.heap.objs.size → s.heap.get? b = some o → h'.get? b = some o) → Q (.ref s.heap.objs.size) { s with heap := h', toks := tk }) :
    wpAny (model prog w) A (call (.type "set") [.ref l]) Q E s := by
  obtain ⟨c, tl, hmro⟩ := PySem.F.called_set.mro
  have hmade := PySem.F.called_set.made
  have hsub := PySem.F.called_set.sub
  refine wpAny_call (codeAny_of_tree ?_)
  show wpAny _ _ (callAny (.type "set") _) _ _ _
  refine wpAny_pure ⟨Code.quiet_builtin _ (by decide +kernel), codeAny_builtin PySem.F.entry_type_call ?_⟩
  rw [Around.under_plain (weight_type_call_type "set" [.ref l] []) rfl]
  have h1 := PySem.F.called_set.notType
  have h2 := PySem.F.called_set.canCreate
  have hct := PySem.F.typeCall_set_1 (.ref l)
  repeat (any_goals (first | assumption | wp_step))
  refine codeAny_mono (code_set_new_1 (.ref l) (E := E) (Q₁ := fun obj s₁ => ∃ led : Bool, obj = .ref s.heap.objs.size ∧ s₁ = { s with heap := s.heap.push { cls := .type "set", dict := none, data := .set #[] 0 (.fresh 0 0 led) } }) fun led => ⟨led, rfl, rfl⟩) fun r s₁ hr => ?_
  cases r with
  | error e => exact hr
  | ok fl =>
    cases fl with
    | ret obj =>
      obtain ⟨led, rfl, rfl⟩ := hr
      have fresh : (set0 led).isFreed = false := rfl
      have hS : (s.heap.push (set0 led)).get? s.heap.objs.size = some (set0 led) := Heap.get?_push_size _ fresh
      have hT : Shared.TypeIs { s with heap := s.heap.push (set0 led) } (.ref s.heap.objs.size) "set" := ⟨_, hS, rfl⟩
      have hli := PySem.F.called_set.init.lookup
      have hbi := PySem.F.called_set.init.bind (.ref s.heap.objs.size)
      repeat (any_goals (first | assumption | wp_step))
      refine codeAny_mono (codeAny_call_builtin (R := wants (fun r s₂ => r = .none ∧ ∃ h' tk, s₂ = { s with heap := h', toks := tk } ∧
          h'.SetOf (PySem.strKind prog w) s.heap.objs.size (fun x => (once xs).contains x) (once xs).length ∧
          (∀ b o, b < s.heap.objs.size → s.heap.get? b = some o → h'.get? b = some o)) E) PySem.F.called_set.init.plain PySem.F.entry_set_init (check_set_init_1 hT ?_)) fun r₂ s₂ hr₂ => ?_
      · obtain ⟨⟨ocls, odict, odata, oslots⟩, hol, hcl, nl, hdl⟩ := hl
        simp only at hcl hdl
        subst hcl; subst hdl
        have hol' : (s.heap.push (set0 led)).get? l = some { cls := .type "tuple", dict := odict, data := .seq items nl, slots := oslots } := Heap.get?_push_of_some _ hol
        have hsls := PySem.F.sub_tuple_set
        have hslf := PySem.F.sub_tuple_frozenset
        have hne : (Value.type "tuple" == Value.type "dict") = false := by decide
        have hl1 : (s.heap.push (set0 led)).IsTuple l items := ⟨_, hol', rfl, nl, rfl⟩
        unfold Builtin.«set.__init__» noKeywords Builtin.Frozenset.updateFrom
        generalize hPI : pyIter = PI
        wp_walk
        subst hPI
        refine wpAny_pyIter_tuple hl1 ?_
        refine wpAny_bind (wpAny_runValue ?_)
        have ltl : l < s.heap.objs.size := Heap.lt_size hol
        have szP : (s.heap.push (set0 led)).objs.size = s.heap.objs.size + 1 := Heap.size_push ..
        have hh3 : A.in1.in1.in1.handled = none := hh
        have neI : l ≠ (s.heap.push (set0 led)).objs.size := by rw [szP]; exact Nat.ne_of_lt (Nat.lt_succ_of_lt ltl)
        have len : xs.length = items.size := by rw [← StrsAre.len_eq hi, Array.length_toList]
        refine set_texts_loop ((Walks.tuple hh3 _ l neI items).toS) s.heap.objs.size ?n xs len (by rw [← len]; exact big)
          (fun i v hv => SS.strs_at hi i v (by rw [Array.getElem?_toList]; exact hv)) (items.size - 0) 0 _ (by omega) (Nat.zero_le _) ⟨⟨_, Heap.get?_push_size _ rfl, rfl, rfl⟩, (hl1.push _)⟩ ?z ?r
        case n =>
          rw [szP]
          simp only [List.mem_cons, List.not_mem_nil, or_false, not_or]
          exact ⟨Nat.ne_of_lt (Nat.lt_succ_self _), Nat.ne_of_gt ltl⟩
        case z =>
          refine PyProof.Rows.SetOf_congr ((PyProof.Rows.setObjOf_fresh (knd := PySem.strKind prog w) led).setOf (Heap.get?_push_of_some _ hS) (by unfold scanBound; omega)) (fun _ => rfl) rfl
        case r =>
          intro s' mv hS'
          obtain ⟨h', g', d', tk', os'⟩ := s'
          obtain rfl : g' = s.gens := mv.gens
          obtain rfl : d' = s.drawn := mv.drawn
          obtain rfl : os' = s.os := mv.os
          refine wpAny_pure ?_
          show wpAny _ _ (ret Value.none) _ _ _
          refine wpAny_pure ⟨rfl, h', tk', rfl, hS', fun b o hb e => mv.heap b o ?_ (Heap.get?_push_of_some _ (Heap.get?_push_of_some _ e))⟩
          rw [szP]
          simp only [List.mem_cons, List.not_mem_nil, or_false, not_or]
          exact ⟨Nat.ne_of_lt hb, Nat.ne_of_lt (Nat.lt_succ_of_lt hb)⟩
      · cases r₂ with
        | error e => exact hr₂
        | ok fl₂ =>
          cases fl₂ with
          | ret r =>
            obtain ⟨rfl, h', tk, rfl, hS', hk'⟩ := hr₂
            repeat (any_goals (first | assumption | wp_step))
            exact h _ _ hS' hk'
          | _ => exact hr₂.elim
    | _ => exact hr.elim
end
def tLenSetX (K : PySem.W.Frag) (ta : TE) : TE := fun σ H Q => ta σ H fun x H1 => ∃ l, ∃ xs : List Str, x = .ref l ∧ SqT K H1 l (xs.map V.str) ∧ xs.length ≤ 1000 ∧ Q (.int (once xs).length) H1
theorem pe_lenSetX {X : Cx} {a : Expr} {ta : TE} {p p2 q pos : Pos} (hc : X.calm = true) (hg : Gl X "len") (hm : X.mg "len" = none) (hg2 : Gl X "set") (hm2 : X.mg "set" = none) (ha : PE X a ta)
    (na : starEach [a] X.env = (false, eval a X.env) :: starEach [] X.env := by rfl) : PE X (.Call (.Name "len" p) [.Call (.Name "set" p2) [a] [] q] [] pos) (tLenSetX X.K ta) := by
  refine ⟨fun pins s σ H Q I h => Call_ (ld_blt I hg hm boot_len (PyProof.Rows.callWith_builtin1 (PyProof.Rows.args_cons ?_ rfl) rfl rfl))⟩
  refine Call_ (ld_blt I hg2 hm2 boot_set (PyProof.Rows.callWith_type1 (PyProof.Rows.args_cons (thn (ha.run pins s σ H _ I h) fun v s1 ⟨x, H1, I1, r1, q1⟩ => PyProof.Rows.args_nil ?_) na) na rfl))
  obtain ⟨l, xs, rfl, hq, le, q1⟩ := q1
  cases r1
  obtain ⟨its, r, pl, hz⟩ := I1.tuple hq
  refine set_of_texts (I1.ok.hd hc) pl (by simpa using strsAre_of r) (by unfold scanBound; omega) fun h' tk hS hk => PyProof.Rows.args_nil ?_
  obtain ⟨o, es, ep, t, ho, hex, hd, _, _, _, hf, hn⟩ := hS
  have I2 : Inv X pins σ H1 { s1 with heap := h', toks := tk } := I1.kept fun b o e => hk b o (Heap.lt_size e) e
  have most := once_le xs
  exact call_len_set ho hex hd hf (by rw [hn] <;> omega) ⟨.int (once xs).length, H1, I2.tok _, ⟨_, by rw [hn]⟩, q1⟩
/-! ### entries that are entries -/
abbrev TB2 (T1 T2 : Addr) (H H' : Hp) : Prop := (∀ b o, H b = some o → b ≠ T1 → b ≠ T2 → H' b = some o) ∧ GxR.TabG H' T1 ∧ GxR.TabG H' T2
theorem TB2.tr {T1 T2 : Addr} {H H1 H2 : Hp} (a : TB2 T1 T2 H H1) (b : TB2 T1 T2 H1 H2) : TB2 T1 T2 H H2 := ⟨fun c o e n1 n2 => b.1 c o (a.1 c o e n1 n2) n1 n2, b.2⟩
theorem tabg_same {H H' : Hp} {T : Addr} (b : Same H H') (t : GxR.TabG H T) : GxR.TabG H' T := by
  obtain ⟨ps, e, ok⟩ := t
  exact ⟨ps, b T _ e, ok⟩
theorem TB2.same {T1 T2 : Addr} {H H' : Hp} (t1 : GxR.TabG H T1) (t2 : GxR.TabG H T2) (h : Same H H') : TB2 T1 T2 H H' := ⟨fun b o e _ _ => h b o e, tabg_same h t1, tabg_same h t2⟩
theorem TB2.one {T1 T2 : Addr} {H H' : Hp} (ne : T1 ≠ T2) (t2 : GxR.TabG H T2) (h : GxR.Tabbed T1 H H') : TB2 T1 T2 H H' := by
  obtain ⟨ps, e, ok⟩ := t2
  exact ⟨fun b o e n1 _ => (h.2 b n1).trans e, h.1, ps, (h.2 T2 ne.symm).trans e, ok⟩
theorem TB2.two {T1 T2 : Addr} {H H' : Hp} (ne : T1 ≠ T2) (t1 : GxR.TabG H T1) (h : GxR.Tabbed T2 H H') : TB2 T1 T2 H H' := by
  obtain ⟨ps, e, ok⟩ := t1
  exact ⟨fun b o e _ n2 => (h.2 b n2).trans e, ⟨ps, (h.2 T1 ne).trans e, ok⟩, h.1⟩
/-- what is no table stays -/
theorem TB2.keep {T1 T2 : Addr} {H H' : Hp} (h : TB2 T1 T2 H H') (t1 : GxR.TabG H T1) (t2 : GxR.TabG H T2) {a : Addr} {o : HO} (e : H a = some o) (n : ∀ ps, o ≠ .tbl ps) : H' a = some o := by
  obtain ⟨p1, e1, _⟩ := t1
  obtain ⟨p2, e2, _⟩ := t2
  exact h.1 a o e (ne_of e e1 (n p1)) (ne_of e e2 (n p2))
def nmV : V → Bool
  | .str z => nameB z
  | _ => false
def bnd (x : Str) : Int × Int := if x = "moment" then (0, 9999) else if x = "many" then (1, 1000000000) else (0, 1000000000)
def inB (x : Str) : V → Bool
  | .int i => decide ((bnd x).1 ≤ i) && decide (i ≤ (bnd x).2)
  | _ => false
def fitB (v : V) (x : Str) : Bool := if x = "name" then nmV v else if x = "end" then (decide (v = .str "") || nmV v) else inB x v
def Part (v : V) : Prop := (∃ z : Str, v = .str z ∧ z.length ≤ 1000) ∨ ∃ i, v = .int i
def sorts4 : List Str := ["moment", "many", "counted", "price"]
def sorts6 : List Str := ["name", "end", "moment", "many", "counted", "price"]
def spWhole : Sp := fun vs H Q _ => ∃ v : V, vs = [v] ∧ Part v ∧ Q (.bl (match v with | .int _ => true | _ => false)) H
def spFits (T1 : Addr) : Sp := fun vs H Q _ => ∃ (v : V) (x : Str), vs = [v, .str x] ∧ Part v ∧ x ∈ sorts6 ∧ GxR.TabG H T1 ∧ ∀ H', GxR.Tabbed T1 H H' → Q (.bl (fitB v x)) H'
namespace Ent
def sorts : Ent → List Str
  | come .. => ["name", "moment", "name", "name", "many", "price"]
  | go .. => ["name", "moment", "name", "name", "many"]
  | move .. => ["name", "moment", "name", "name", "name", "many"]
  | some_ .. => ["name", "moment", "name", "name", "end"]
  | swap .. => ["name", "moment", "name", "name"]
  | count .. => ["name", "moment", "name", "name", "counted", "name"]
  | look .. => ["name", "moment", "name", "name"]
def parts (e : Ent) : List V := .str e.name :: .int e.moment :: e.rest
def places : Ent → List Str
  | come _ _ _ p _ _ => [p]
  | go _ _ _ p _ => [p]
  | move _ _ _ o t _ => [o, t]
  | some_ _ _ _ o t => if t = "" then [o] else [o, t]
  | swap _ _ o t => [o, t]
  | count _ _ _ p _ _ => [p]
  | look _ _ _ p => [p]
def goodV : Ent → V
  | come _ _ g _ _ _ => .str g
  | go _ _ g _ _ => .str g
  | move _ _ g _ _ _ => .str g
  | some_ _ _ g _ _ => .str g
  | swap _ _ _ _ => .non
  | count _ _ g _ _ _ => .str g
  | look _ _ g _ => .str g
structure Fine (e : Ent) : Prop where
  fit : ∀ (i : Nat) (v : V) (x : Str), e.parts[i]? = some v → e.sorts[i]? = some x → Part v ∧ fitB v x = true
  apart : e.places.Nodup
theorem len_parts (e : Ent) : e.parts.length = e.sorts.length := by cases e <;> rfl
theorem sorts_in (e : Ent) : ∀ x ∈ e.sorts, x ∈ sorts6 := by
  cases e <;> (intro x hx; simp only [sorts, sorts6, List.mem_cons, List.not_mem_nil, or_false] at hx ⊢; rcases hx with rfl | rfl | rfl | rfl | rfl | rfl <;> simp) 
end Ent
def spPlaces : Sp := fun vs H Q _ => ∃ (a : Addr) (e : Ent), vs = [.ref a] ∧ H a = some (.tup e.vals) ∧ ∀ (tp : Addr) (H' : Hp), Same H H' → H' tp = some (.tup (e.places.map V.str)) → Q (.ref tp) H'
def spGood : Sp := fun vs H Q _ => ∃ (a : Addr) (e : Ent), vs = [.ref a] ∧ H a = some (.tup e.vals) ∧ Q e.goodV H
def spDay : Sp := fun vs H Q _ => ∃ m : Int, vs = [.int m] ∧ Q (.int (m / 100)) H
def spIsEntry (T1 T2 : Addr) : Sp := fun vs H Q _ => ∃ (a : Addr) (e : Ent), vs = [.ref a] ∧ H a = some (.tup e.vals) ∧ e.Fine ∧ GxR.TabG H T1 ∧ GxR.TabG H T2 ∧ ∀ H', TB2 T1 T2 H H' → Q (.bl true) H'
section
variable {P : Program} {w : World} {K : PySem.W.Frag} {mg : Str → Option Value} {base : Heap}
theorem scWhole : FnScope ["thing"] ["thing"] (defScope sWhole) := ⟨rfl, rfl, rfl, by decide +kernel, rfl, by decide +kernel, by decide +kernel⟩
theorem scFits : FnScope ["part", "sort", "low", "high"] ["part", "sort"] (defScope sFits) := ⟨rfl, rfl, rfl, by decide +kernel, rfl, by decide +kernel, by decide +kernel⟩
theorem scGood : FnScope ["entry"] ["entry"] (defScope sGood) := ⟨rfl, rfl, rfl, by decide +kernel, rfl, by decide +kernel, by decide +kernel⟩
theorem scPlacesOf : FnScope ["entry", "word"] ["entry"] (defScope sPlacesOf) := ⟨rfl, rfl, rfl, by decide +kernel, rfl, by decide +kernel, by decide +kernel⟩
theorem at0 (e : Ent) : atI e.vals 0 = some (.str e.word) := atI_nat (j := 0) rfl
theorem at2 (e : Ent) : atI e.vals 2 = some (.int e.moment) := atI_nat (j := 2) rfl
theorem ok_whole {f : Addr} {fd : FuncData} (F : Fun K "is_whole" "is_whole" sWhole f fd) (mi : mg "isinstance" = none) (m1 : mg "int" = none) (m2 : mg "bool" = none) : FnOk P w K mg base CX0 1 f fd ["thing"] spWhole := by
  refine F.ok scWhole (fun vs H Q E h => ?_) (fun cdv A outer s H vs Q E hr h => ?_)
  · obtain ⟨v, rfl, _⟩ := h
    rfl
  · obtain ⟨v, rfl, pt, q⟩ := h
    refine ⟨_, pss_one (ps_ret (pe_and (pe_callB call_isi (by rfl) mi (by decide +kernel) (pa_cons (pv 0) (pa_cons (pe_bltn (v := .ty "int") (u := .type "int") (by rfl) m1 (by decide +kernel) rfl) pa_nil)))
      (pe_one (pe_not (pe_callB call_isi (by rfl) mi (by decide +kernel) (pa_cons (pv 0) (pa_cons (pe_bltn (v := .ty "bool") (u := .type "bool") (by rfl) m2 (by decide +kernel) rfl) pa_nil))))))), ?_⟩
    rcases pt with ⟨z, rfl, _⟩ | ⟨i, rfl⟩
    · exact ⟨_, rfl, _, _, _, _, false, rfl, .ty "int", .base (.str z), kit_ty (by decide +kernel), _, rfl, iteF q⟩
    · exact ⟨_, rfl, _, _, _, _, true, rfl, .ty "int", .base (.int i), kit_ty (by decide +kernel), _, rfl, iteT ⟨_, rfl, _, _, _, _, false, rfl, .ty "bool", .base (.int i), kit_ty (by decide +kernel), _, rfl, q⟩⟩
theorem at3 {e : Ent} (h : e.goodV ≠ .non) : atI e.vals 3 = some e.goodV := by
  cases e <;> first | exact atI_nat (j := 3) rfl | exact absurd rfl h
theorem sw_word (e : Ent) : e.word = "swap" ↔ e.goodV = .non := by
  have k1 : ("come" : Str) ≠ "swap" := by decide +kernel
  have k2 : ("go" : Str) ≠ "swap" := by decide +kernel
  have k3 : ("move" : Str) ≠ "swap" := by decide +kernel
  have k4 : ("some" : Str) ≠ "swap" := by decide +kernel
  have k6 : ("count" : Str) ≠ "swap" := by decide +kernel
  have k7 : ("look" : Str) ≠ "swap" := by decide +kernel
  cases e
  · exact ⟨fun h => absurd h k1, fun h => nomatch h⟩
  · exact ⟨fun h => absurd h k2, fun h => nomatch h⟩
  · exact ⟨fun h => absurd h k3, fun h => nomatch h⟩
  · exact ⟨fun h => absurd h k4, fun h => nomatch h⟩
  · exact ⟨fun _ => rfl, fun _ => rfl⟩
  · exact ⟨fun h => absurd h k6, fun h => nomatch h⟩
  · exact ⟨fun h => absurd h k7, fun h => nomatch h⟩
theorem ok_good {f : Addr} {fd : FuncData} (F : Fun K "good_of" "good_of" sGood f fd) : FnOk P w K mg base CX0 1 f fd ["entry"] spGood := by
  refine F.ok scGood (fun vs H Q E h => ?_) (fun cdv A outer s H vs Q E hr h => ?_)
  · obtain ⟨a, e, rfl, _⟩ := h
    rfl
  · obtain ⟨a, e, rfl, ha, q⟩ := h
    refine ⟨_, pss_cons (ps_if (pt_cmpR op_eq (pe_ix ix_tup (pv 0) pe_int (fun _ _ => rfl)) pe_str (nomark _)) (pss_one (ps_ret pe_non)) pss_nil) (pss_one (ps_ret (pe_ix ix_tup (pv 0) pe_int (fun _ _ => rfl)))), ?_⟩
    refine ⟨_, rfl, a, _, 0, _, rfl, rfl, SqT.of ha, at0 e, rfl, _, rfl, ite2 (fun z => ?_) (fun z => ?_)⟩
    · have z' : e.word = "swap" := V.str.inj (of_decide_eq_true z)
      rw [(sw_word e).mp z'] at q
      exact q
    · have z' : e.goodV ≠ .non := fun h => z (decide_eq_true (congrArg V.str ((sw_word e).mpr h)))
      exact ⟨_, rfl, a, _, 3, _, rfl, rfl, SqT.of ha, at3 z', q⟩
theorem ok_fits {f fN fW aB T1 : Addr} {fd dN dW : FuncData} (F : Fun K "fits" "fits" sFits f fd) (N : DefT P w K mg base "is_name" 1 fN dN ["thing"] (spName K T1)) (W : DefT P w K mg base "is_whole" 1 fW dW ["thing"] spWhole)
    (mB : mg "BOUNDS" = some (.ref aB)) (hB : ∀ x ∈ sorts4, ∃ aT, KDct K w aB x (.ref aT) ∧ ∀ H, SqT K H aT [.int (bnd x).1, .int (bnd x).2]) : FnOk P w K mg base CX0 2 f fd ["part", "sort"] (spFits T1) := by
  refine F.ok scFits (fun vs H Q E h => ?_) (fun cdv A outer s H vs Q E hr h => ?_)
  · obtain ⟨v, x, rfl, _⟩ := h
    rfl
  · obtain ⟨v, x, rfl, pt, hx, tg, q⟩ := h
    have nd := scFits.nd
    refine ⟨_, pss_cons (ps_if (pt_cmpR op_eq (pv 1) pe_str (nomark _)) (pss_one (ps_ret (pe_call N.ok hr (by rfl) N.g N.kp N.b .nil pass0 (pa_cons (pv 0) pa_nil)))) pss_nil)
      (pss_cons (ps_if (pt_cmpR op_eq (pv 1) pe_str (nomark _)) (pss_one (ps_ret (pe_or (pe_cmpR op_eq (pv 0) pe_str (nomark _)) (pe_one (pe_call N.ok hr (by rfl) N.g N.kp N.b .nil pass0 (pa_cons (pv 0) pa_nil)))))) pss_nil)
      (pss_cons (ps_asg (pe_ix ix_kdict (pe_glob (v := .ref aB) rfl mB rfl) (pv 1) (fun _ _ => rfl)) (pg_tup (by rfl) (pgs_cons (pg_name (i := 2) nd rfl (Or.inl rfl)) (pgs_cons (pg_name (i := 3) nd rfl (Or.inl rfl)) pgs_nil))))
      (pss_one (ps_ret (pe_and (pe_call W.ok hr (by rfl) W.g W.kp W.b .nil pass0 (pa_cons (pv 0) pa_nil)) (pe_one (pe_chain op_le op_le (pv 2) (pv 0) (pv 3)))))))), ?_⟩
    have same0 : GxR.Tabbed T1 H H := ⟨tg, fun _ _ => rfl⟩
    -- is_name of the part
    have nm : ∀ (Q1 : VK), (∀ H2, GxR.Tabbed T1 H H2 → Q1 (.bl (nmV v)) H2) → spName K T1 ([v] ++ []) H Q1 E0 := fun Q1 h1 => by
      rcases pt with ⟨z, rfl, lz⟩ | ⟨i, rfl⟩
      · exact ⟨_, rfl, tg, .inl ⟨z, rfl, small_sz lz, h1⟩⟩
      · exact ⟨_, rfl, tg, .inr ⟨"int", .base (.int i), by decide +kernel, h1 H same0⟩⟩
    refine ⟨_, rfl, rfl, _, rfl, ite2 (fun e => ?_) (fun e => ?_)⟩
    · have e' : x = "name" := V.str.inj (of_decide_eq_true e)
      refine ⟨_, rfl, nm _ fun H2 tb => ?_⟩
      have z := q H2 tb
      unfold fitB at z
      rw [if_pos e'] at z
      exact z
    · have e1 : ¬ x = "name" := fun h => e (decide_eq_true (congrArg V.str h))
      refine ⟨_, rfl, rfl, _, rfl, ite2 (fun e => ?_) (fun e => ?_)⟩
      · have e' : x = "end" := V.str.inj (of_decide_eq_true e)
        have fe : fitB v x = (decide (v = .str "") || nmV v) := by
          unfold fitB
          rw [if_neg e1, if_pos e']
        have fl : scal v (V.str "") = true := by
          rcases pt with ⟨z, rfl, _⟩ | ⟨i, rfl⟩ <;> rfl
        rw [fe] at q
        refine ⟨_, rfl, fl, decide (v = .str ""), rfl, ?_⟩
        cases hd : decide (v = V.str "") with
        | true =>
          rw [hd] at q
          exact iteT (q H same0)
        | false =>
          rw [hd] at q
          exact iteF ⟨_, rfl, nm _ fun H2 tb => q H2 tb⟩
      · have e2 : ¬ x = "end" := fun h => e (decide_eq_true (congrArg V.str h))
        have x4 : x ∈ sorts4 := by
          simp only [sorts6, sorts4, List.mem_cons, List.not_mem_nil, or_false] at hx ⊢
          rcases hx with h | h | h | h | h | h
          · exact absurd h e1
          · exact absurd h e2
          · exact .inl h
          · exact .inr (.inl h)
          · exact .inr (.inr (.inl h))
          · exact .inr (.inr (.inr h))
        obtain ⟨aT, kd, sq⟩ := hB x x4
        have fe : fitB v x = inB x v := by
          unfold fitB
          rw [if_neg e1, if_neg e2]
        rw [fe] at q
        have q0 := q H same0
        refine ⟨_, rfl, aB, x, _, rfl, rfl, kd, aT, _, rfl, sq H, rfl, _, _, rfl, _, _, rfl, rfl, _, rfl, v, rfl, pt, ?_⟩
        rcases pt with ⟨z, rfl, lz⟩ | ⟨i, rfl⟩
        · exact ⟨_, rfl, iteF q0⟩
        · refine ⟨_, rfl, iteT ⟨_, rfl, _, rfl, (bnd x).1, i, rfl, rfl, _, rfl, ite2 (fun a1 => ?_) (fun a1 => ?_)⟩⟩
          · refine ⟨_, rfl, i, (bnd x).2, rfl, rfl, ?_⟩
            have z : inB x (.int i) = decide (i ≤ (bnd x).2) := by
              show (decide ((bnd x).1 ≤ i) && decide (i ≤ (bnd x).2)) = _
              rw [a1, Bool.true_and]
            rw [z] at q0
            exact q0
          · have z : inB x (.int i) = false := by
              show (decide ((bnd x).1 ≤ i) && decide (i ≤ (bnd x).2)) = _
              rw [Bool.eq_false_iff.mpr a1, Bool.false_and]
            rw [z] at q0
            exact q0
end
/-! ### places_of, is_entry -/
theorem cut_mid {xs : List V} {i j : Nat} (h : j ≤ xs.length) (hi : i ≤ j) : cutV xs (some (i : Int)) (some (j : Int)) = (xs.drop i).take (j - i) := by
  unfold cutV
  rw [HT.sIx_nat, HT.sIx_nat, Nat.min_eq_left h, Nat.min_eq_left (Nat.le_trans hi h)]
theorem no_whole {n i j : Nat} (h : i ≤ n) (hi : 0 < i) : ¬ (HT.sIx n 0 (some (i : Int)) = 0 ∧ HT.sIx n n (some (j : Int)) = n) := by
  rw [HT.sIx_nat, Nat.min_eq_left h]
  omega
section
variable {P : Program} {w : World} {K : PySem.W.Frag} {mg : Str → Option Value} {base : Heap}
theorem bl_of {a b : Str} {k : Bool} (h : decide (V.str a = V.str b) = k) : V.bl (decide (V.str a = V.str b)) = V.bl k := congrArg V.bl h
theorem ok_placesOf {f : Addr} {fd : FuncData} (F : Fun K "places_of" "places_of" sPlacesOf f fd) : FnOk P w K mg base CX0 1 f fd ["entry"] spPlaces := by
  refine F.ok scPlacesOf (fun vs H Q E h => ?_) (fun cdv A outer s H vs Q E hr h => ?_)
  · obtain ⟨a, e, rfl, _⟩ := h
    rfl
  · obtain ⟨a, e, rfl, ha, q⟩ := h
    have nd := scPlacesOf.nd
    refine ⟨_, pss_cons (ps_set (i := 1) nd rfl (Or.inl rfl) (pe_ix ix_tup (pv 0) pe_int (fun _ _ => rfl)))
      (pss_cons (ps_if (pt_cmpR op_eq (pv 1) pe_str (nomark _)) (pss_one (ps_ret (pe_slice sl_tup (pv 0) (po_some pe_int) (po_some pe_int)))) pss_nil)
      (pss_cons (ps_if (PW.pt (pw_or (pt_cmpR op_eq (pv 1) pe_str (nomark _)) (pw_or1 (PW.pt (pw_and (pt_cmpR op_eq (pv 1) pe_str (nomark _)) (pw_and1 (pt_cmpR op_ne (pe_ix ix_tup (pv 0) pe_int (fun _ _ => rfl)) pe_str (nomark _)))))))) (pss_one (ps_ret (pe_slice sl_tup (pv 0) (po_some pe_int) (po_some pe_int)))) pss_nil)
      (pss_one (ps_ret (pe_slice sl_tup (pv 0) (po_some pe_int) (po_some pe_int)))))), ?_⟩
    refine ⟨_, rfl, a, _, 0, _, rfl, rfl, SqT.of ha, at0 e, ?_⟩
    have c1 : decide (V.str "come" = V.str "swap") = false := by decide +kernel
    have c2 : decide (V.str "go" = V.str "swap") = false := by decide +kernel
    have c3 : decide (V.str "move" = V.str "swap") = false := by decide +kernel
    have c4 : decide (V.str "some" = V.str "swap") = false := by decide +kernel
    have c6 : decide (V.str "count" = V.str "swap") = false := by decide +kernel
    have c7 : decide (V.str "look" = V.str "swap") = false := by decide +kernel
    have m1 : decide (V.str "come" = V.str "move") = false := by decide +kernel
    have m2 : decide (V.str "go" = V.str "move") = false := by decide +kernel
    have m4 : decide (V.str "some" = V.str "move") = false := by decide +kernel
    have m6 : decide (V.str "count" = V.str "move") = false := by decide +kernel
    have m7 : decide (V.str "look" = V.str "move") = false := by decide +kernel
    have s1 : decide (V.str "come" = V.str "some") = false := by decide +kernel
    have s2 : decide (V.str "go" = V.str "some") = false := by decide +kernel
    have s6 : decide (V.str "count" = V.str "some") = false := by decide +kernel
    have s7 : decide (V.str "look" = V.str "some") = false := by decide +kernel
    cases e with
    | come nme mo g pl many price =>
      refine ⟨_, rfl, rfl, false, bl_of c1, iteF ⟨_, rfl, rfl, false, bl_of m1, iteF ⟨_, rfl, rfl, false, bl_of s1, iteF ?_⟩⟩⟩
      exact ⟨_, rfl, 4, rfl, 5, rfl, a, _, rfl, SqT.of ha, no_whole (i := 4) (j := 5) (by show 4 ≤ 7; decide) (by decide), fun p np => q p _ (same_new np) (by rw [upd_same]; rfl)⟩
    | go nme mo g pl many =>
      refine ⟨_, rfl, rfl, false, bl_of c2, iteF ⟨_, rfl, rfl, false, bl_of m2, iteF ⟨_, rfl, rfl, false, bl_of s2, iteF ?_⟩⟩⟩
      exact ⟨_, rfl, 4, rfl, 5, rfl, a, _, rfl, SqT.of ha, no_whole (i := 4) (j := 5) (by show 4 ≤ 6; decide) (by decide), fun p np => q p _ (same_new np) (by rw [upd_same]; rfl)⟩
    | move nme mo g one other many =>
      refine ⟨_, rfl, rfl, false, bl_of c3, iteF ⟨_, rfl, rfl, true, bl_of (decide_eq_true rfl), iteT ?_⟩⟩
      exact ⟨_, rfl, 4, rfl, 6, rfl, a, _, rfl, SqT.of ha, no_whole (i := 4) (j := 6) (by show 4 ≤ 7; decide) (by decide), fun p np => q p _ (same_new np) (by rw [upd_same]; rfl)⟩
    | some_ nme mo g one other =>
      refine ⟨_, rfl, rfl, false, bl_of c4, iteF ⟨_, rfl, rfl, false, bl_of m4, iteF ⟨_, rfl, rfl, true, bl_of (decide_eq_true rfl), iteT ?_⟩⟩⟩
      refine ⟨_, rfl, a, _, 5, .str other, rfl, rfl, SqT.of ha, atI_nat (j := 5) rfl, rfl, !decide (V.str other = V.str ""), rfl, ?_⟩
      by_cases z : other = ""
      · rw [decide_eq_true (congrArg V.str z)]
        refine iteF ⟨_, rfl, 4, rfl, 5, rfl, a, _, rfl, SqT.of ha, no_whole (i := 4) (j := 5) (by show 4 ≤ 6; decide) (by decide), fun p np => q p _ (same_new np) ?_⟩
        rw [upd_same]
        show some (HO.tup [V.str one]) = some (HO.tup ((if other = "" then [one] else [one, other]).map V.str))
        rw [if_pos z]
        rfl
      · rw [decide_eq_false fun h => z (V.str.inj h)]
        refine iteT ⟨_, rfl, 4, rfl, 6, rfl, a, _, rfl, SqT.of ha, no_whole (i := 4) (j := 6) (by show 4 ≤ 6; decide) (by decide), fun p np => q p _ (same_new np) ?_⟩
        rw [upd_same]
        show some (HO.tup [V.str one, V.str other]) = some (HO.tup ((if other = "" then [one] else [one, other]).map V.str))
        rw [if_neg z]
        rfl
    | swap nme mo one other =>
      refine ⟨_, rfl, rfl, true, bl_of (decide_eq_true rfl), iteT ?_⟩
      exact ⟨_, rfl, 3, rfl, 5, rfl, a, _, rfl, SqT.of ha, no_whole (i := 3) (j := 5) (by show 3 ≤ 5; decide) (by decide), fun p np => q p _ (same_new np) (by rw [upd_same]; rfl)⟩
    | count nme mo g pl many hand =>
      refine ⟨_, rfl, rfl, false, bl_of c6, iteF ⟨_, rfl, rfl, false, bl_of m6, iteF ⟨_, rfl, rfl, false, bl_of s6, iteF ?_⟩⟩⟩
      exact ⟨_, rfl, 4, rfl, 5, rfl, a, _, rfl, SqT.of ha, no_whole (i := 4) (j := 5) (by show 4 ≤ 7; decide) (by decide), fun p np => q p _ (same_new np) (by rw [upd_same]; rfl)⟩
    | look nme mo g pl =>
      refine ⟨_, rfl, rfl, false, bl_of c7, iteF ⟨_, rfl, rfl, false, bl_of m7, iteF ⟨_, rfl, rfl, false, bl_of s7, iteF ?_⟩⟩⟩
      exact ⟨_, rfl, 4, rfl, 5, rfl, a, _, rfl, SqT.of ha, no_whole (i := 4) (j := 5) (by show 4 ≤ 5; decide) (by decide), fun p np => q p _ (same_new np) (by rw [upd_same]; rfl)⟩
theorem once_nodup : ∀ {xs : List Str}, xs.Nodup → once xs = xs := by
  intro xs
  have key : ∀ (l acc : List Str), (acc ++ l).Nodup → l.foldl (fun acc x => if acc.contains x = true then acc else acc ++ [x]) acc = acc ++ l := by
    intro l
    induction l with
    | nil => intro acc _; rw [List.append_nil]; rfl
    | cons x r ih =>
      intro acc h
      have nx : ¬ acc.contains x = true := fun z => by
        have hx : x ∈ acc := by simpa using z
        rw [List.nodup_append] at h
        exact h.2.2 x hx x List.mem_cons_self rfl
      rw [List.foldl_cons, if_neg nx]
      have e : acc ++ x :: r = (acc ++ [x]) ++ r := by rw [List.append_assoc]; rfl
      rw [e] at h ⊢
      exact ih _ h
  intro h
  exact key xs [] h
abbrev isN : List Str := ["thing", "sorts", "places", "part", "sort"]
theorem scIs : FnScope isN ["thing"] (defScope sIsEntry) := ⟨rfl, rfl, rfl, by decide +kernel, rfl, by decide +kernel, by decide +kernel⟩
theorem vals_cut (e : Ent) : cutV e.vals (some 1) none = e.parts := by
  have h : cutV e.vals (some ((1 : Nat) : Int)) none = e.parts := by
    unfold cutV
    rw [HT.sIx_nat, HT.sIx_none]
    have l : 1 ≤ e.vals.length := by show 1 ≤ _ + 1; omega
    rw [Nat.min_eq_left l]
    show (e.parts).take (e.parts.length + 1 - 1) = e.parts
    rw [Nat.add_sub_cancel]
    exact List.take_length
  exact h
theorem places_le (e : Ent) : e.places.length ≤ 2 := by
  cases e with
  | some_ n m g o t =>
    by_cases z : t = ""
    · rw [show Ent.places (.some_ n m g o t) = [o] from if_pos z]
      exact Nat.le_succ 1
    · rw [show Ent.places (.some_ n m g o t) = [o, t] from if_neg z]
      exact Nat.le_refl 2
  | move _ _ _ _ _ _ => exact Nat.le_refl 2
  | swap _ _ _ _ => exact Nat.le_refl 2
  | come _ _ _ _ _ _ => exact Nat.le_succ 1
  | go _ _ _ _ _ => exact Nat.le_succ 1
  | count _ _ _ _ _ _ => exact Nat.le_succ 1
  | look _ _ _ _ => exact Nat.le_succ 1
theorem ok_isEntry {f cE T1 T2 aF fF fP : Addr} {dF dP : FuncData} {oc kV doc pm ct : Value} {od an : Option Addr} {osl : Array (Option Value)} {es : Array DictEntry} {nE : Nat}
    (lk : K.lookup f = some ⟨oc, od, .func (PySem.W.fnOf "is_entry" "is_entry" (defArgs sIsEntry) (defBody sIsEntry) (defScope sIsEntry) .none kV doc pm an (.ref cE) ct), osl⟩) (cdI : PySem.W.codeIn K (.ref cE) "is_entry" = true)
    (TB : GxR.TabB base mg cE T2) (ne : T1 ≠ T2) (FI : DefT P w K mg base "fits" 2 fF dF ["part", "sort"] (spFits T1)) (PO : DefT P w K mg base "places_of" 1 fP dP ["entry"] spPlaces)
    (mi : mg "isinstance" = none) (mt : mg "tuple" = none) (ml : mg "len" = none) (mst : mg "str" = none) (ma : mg "all" = none) (mz : mg "zip" = none) (ms : mg "set" = none) (mF : mg "FORMS" = some (.ref aF)) (D : KDict K w aF es nE)
    (hF : ∀ e : Ent, ∃ aS, KDct K w aF e.word (.ref aS) ∧ ∀ H, SqT K H aS (e.sorts.map V.str)) :
    FnOk P w K mg base CX0 4 f (PySem.W.fnOf "is_entry" "is_entry" (defArgs sIsEntry) (defBody sIsEntry) (defScope sIsEntry) .none kV doc pm an (.ref cE) ct) ["thing"] (spIsEntry T1 T2) := by
  refine fn_of lk cdI scIs (fun vs H Q E h => ?_) (fun A outer s H vs Q E hr h => ?_)
  · obtain ⟨a, e, rfl, _⟩ := h
    rfl
  · obtain ⟨a, e, rfl, ha, fine, t1, t2, q⟩ := h
    have nd := scIs.nd
    have hr1 : Room 1 _ := hr.mono (by decide)
    refine ⟨_, pss_cons (ps_if (PW.pt (pw_or (pt_not (pt_val (pe_callB call_isi (by rfl) mi (by decide +kernel) (pa_cons (pv 0) (pa_cons (pe_bltn (v := .ty "tuple") (u := .type "tuple") (by rfl) mt (by decide +kernel) rfl) pa_nil)))))
          (pw_or1 (pt_cmpR op_eq (pe_callB call_len_seq (by rfl) ml PySem.boot_len (pa_cons (pv 0) pa_nil)) pe_int (nomark _))))) (pss_one (ps_ret pe_bl)) pss_nil)
      (pss_cons (ps_if (PW.pt (pw_or (pt_not (pt_val (pe_callB call_isi (by rfl) mi (by decide +kernel) (pa_cons (pe_ix ix_tup (pv 0) pe_int (fun _ _ => rfl)) (pa_cons (pe_bltn (v := .ty "str") (u := .type "str") (by rfl) mst (by decide +kernel) rfl) pa_nil)))))
          (pw_or1 (pt_cmpR (op_notIn_kd D) (pe_ix ix_tup (pv 0) pe_int (fun _ _ => rfl)) (pe_glob (v := .ref aF) rfl mF rfl) (by rfl))))) (pss_one (ps_ret pe_bl)) pss_nil)
      (pss_cons (ps_set (i := 1) nd rfl (Or.inl rfl) (pe_ix ix_kdict (pe_glob (v := .ref aF) rfl mF rfl) (pe_ix ix_tup (pv 0) pe_int (fun _ _ => rfl)) (fun _ _ => rfl)))
      (pss_cons (ps_if (pt_cmpR op_ne (pe_callB call_len_seq (by rfl) ml PySem.boot_len (pa_cons (pv 0) pa_nil)) (pe_op op_add (pe_callB call_len_seq (by rfl) ml PySem.boot_len (pa_cons (pv 1) pa_nil)) pe_int) (nomark _)) (pss_one (ps_ret pe_bl)) pss_nil)
      (pss_cons (ps_if (pt_not (pt_val (pe_allG (T := T2) (c := cE) (k := 2) (own := [("part", 3), ("sort", 4)]) (g := gTup K 2 (gCons (gName 3) (gCons (gName 4) gNil))) (tt := tYes) (te := tCall (spFits T1) [] E0 (tCons (tVar 3) (tCons (tVar 4) tNil)))
          hr (by rfl) ma rfl nd TB rfl ⟨blkOk_by (N := isN) (sc := defScope sIsEntry) (by decide +kernel), rfl, by decide +kernel, rfl⟩
          (RZ.pi_zipA (by rfl) mz (pa_cons (pe_slice sl_tup (pv 0) (po_some pe_int) po_none) (pa_cons (pv 1) pa_nil)))
          (fun _ _ _ _ _ _ => pg_tup (by rfl) (pgs_cons (pg_name (i := 3) nd rfl (Or.inl rfl)) (pgs_cons (pg_name (i := 4) nd rfl (Or.inl rfl)) pgs_nil)))
          (fun _ _ _ _ _ _ _ => pts_nil) (fun _ _ _ _ _ _ hr' => pe_call FI.ok hr' (by rfl) FI.g FI.kp FI.b .nil pass0 (pa_cons (pv 3) (pa_cons (pv 4) pa_nil)))))) (pss_one (ps_ret pe_bl)) pss_nil)
      (pss_cons (ps_set (i := 2) nd rfl (Or.inl rfl) (pe_call PO.ok hr1 (by rfl) PO.g PO.kp PO.b .nil pass0 (pa_cons (pv 0) pa_nil)))
      (pss_one (ps_ret (pe_cmpR op_eq (pe_lenSetX rfl (by rfl) ml (by rfl) ms (pv 2)) (pe_callB call_len_seq (by rfl) ml PySem.boot_len (pa_cons (pv 2) pa_nil)) (nomark _))))))))), ?_⟩
    obtain ⟨aS, kd, sq⟩ := hF e
    -- a tuple, not empty
    refine ⟨_, rfl, _, _, _, _, true, rfl, .ty "tuple", .base (.tup ha), kit_ty (by decide +kernel), _, rfl, iteF ?_⟩
    refine ⟨_, rfl, a, _, rfl, .inr (SqT.of ha), rfl, false, congrArg V.bl (decide_eq_false fun z => ?_), iteF ?_⟩
    · have z' : ((e.vals.length : Nat) : Int) = 0 := V.int.inj z
      have : e.vals.length = e.parts.length + 1 := rfl
      omega
    -- a word of the forms
    refine ⟨_, rfl, a, _, 0, _, rfl, rfl, SqT.of ha, at0 e, _, _, _, _, true, rfl, .ty "str", .base (.str e.word), kit_ty (by decide +kernel), _, rfl, iteF ?_⟩
    obtain ⟨es', n', u, hl, hlit, hns, ru⟩ := id kd
    refine ⟨_, rfl, a, _, 0, _, rfl, rfl, SqT.of ha, at0 e, e.word, some u, rfl, rfl, hns, _, rfl, iteF ?_⟩
    -- the sorts
    refine ⟨_, rfl, a, _, 0, _, rfl, rfl, SqT.of ha, at0 e, aF, e.word, _, rfl, rfl, kd, ?_⟩
    refine ⟨_, rfl, a, _, rfl, .inr (SqT.of ha), _, rfl, aS, _, rfl, .inr (sq H), _, 1, rfl, rfl, rfl, false, ?_, iteF ?_⟩
    · refine congrArg V.bl ?_
      have l1 : (e.vals.length : Int) = ((e.sorts.map V.str).length : Int) + 1 := by
        have : e.vals.length = e.parts.length + 1 := rfl
        rw [this, e.len_parts, List.length_map]
        rfl
      rw [l1, decide_eq_true rfl]
      rfl
    -- all fit
    refine ⟨_, rfl, 1, rfl, a, _, rfl, SqT.of ha, ?_, fun pp npp => ?_⟩
    · rintro ⟨z, _⟩
      rw [show HT.sIx e.vals.length 0 (some 1) = min 1 e.vals.length from HT.sIx_nat _ _ 1] at z
      have : e.vals.length = e.parts.length + 1 := rfl
      omega
    have sp := @same_new _ _ (.tup (cutV e.vals (some 1) none)) npp
    refine ⟨_, rfl, pp, aS, cutV e.vals (some 1) none, e.sorts.map V.str, rfl, .inr ⟨SqT.of upd_same, sq _, tabg_same sp t2, fun H2 tb2 => ?_⟩⟩
    have hpp : (upd H pp (.tup (cutV e.vals (some 1) none))) pp = some (.tup e.parts) := by rw [upd_same, vals_cut]
    have b0 : TB2 T1 T2 H H2 := (TB2.same t1 t2 sp).tr (.two ne (tabg_same sp t1) tb2)
    have b1 : TB2 T1 T2 (upd H pp (.tup (cutV e.vals (some 1) none))) H2 := .two ne (tabg_same sp t1) tb2
    have hp2 : H2 pp = some (.tup e.parts) := b1.keep (tabg_same sp t1) (tabg_same sp t2) hpp (by intro ps z; cases z)
    refine ⟨fun i m H' => m = e.parts.length - i ∧ i ≤ e.parts.length ∧ H' pp = some (.tup e.parts) ∧ TB2 T1 T2 H H', ⟨_, rfl, Nat.zero_le _, hp2, b0⟩, ?_⟩
    rintro i m H3 ⟨rfl, hi, hp3, b3⟩
    by_cases lt : i < e.parts.length
    · refine .inr ⟨⟨e.parts, e.sorts.map V.str, e.parts[i], .str (e.sorts[i]'(by rw [← e.len_parts]; exact lt)), SqT.of hp3, sq _, List.getElem?_eq_getElem lt, ?_⟩, fun v H4 y => ?_⟩
      · rw [List.getElem?_map, List.getElem?_eq_getElem (by rw [← e.len_parts]; exact lt)]
        rfl
      · obtain ⟨TT, x', y', rfl, nT, rfl, f1, f2⟩ := y
        have g1 := f1 e.parts (SqT.of hp3)
        have g2 := f2 (e.sorts.map V.str) (sq _)
        rw [List.getElem?_map] at g2
        obtain ⟨srt, hsrt, rfl⟩ := Option.map_eq_some_iff.mp g2
        obtain ⟨prt, fit⟩ := fine.fit i x' srt g1 hsrt
        have s4 := @same_new _ _ (.tup [x', V.str srt]) nT
        have b4 : TB2 T1 T2 H (upd H3 TT (.tup [x', V.str srt])) := b3.tr (.same b3.2.1 b3.2.2 s4)
        refine ⟨TT, _, rfl, SqT.of upd_same, rfl, _, _, rfl, _, _, rfl, rfl, rfl, yesT ?_⟩
        refine ⟨_, rfl, _, rfl, x', srt, rfl, prt, e.sorts_in srt (List.mem_of_getElem? hsrt), b4.2.1, fun H5 tb5 => ?_⟩
        have b5 : TB2 T1 T2 H H5 := b4.tr (.one ne b4.2.2 tb5)
        have b45 : TB2 T1 T2 (upd H3 TT (.tup [x', V.str srt])) H5 := .one ne b4.2.2 tb5
        rw [fit]
        exact ⟨true, rfl, iteT ⟨_, by omega, rfl, lt, b45.keep b4.2.1 b4.2.2 (s4 _ _ hp3) (by intro ps z; cases z), b5⟩⟩
    · have ei : i = e.parts.length := by omega
      refine .inl ⟨⟨e.parts, e.sorts.map V.str, SqT.of hp3, sq _, .inl (by omega)⟩, ?_⟩
      refine ⟨true, rfl, iteF ?_⟩
      -- unlike places
      have ha3 : H3 a = some (.tup e.vals) := b3.keep t1 t2 ha (by intro ps z; cases z)
      refine ⟨_, rfl, a, e, rfl, ha3, fun tp H4 s4 ht => ?_⟩
      refine ⟨_, rfl, tp, e.places, rfl, SqT.of ht, Nat.le_trans (places_le e) (by decide), _, rfl, tp, _, rfl, .inr (SqT.of ht), rfl, ?_⟩
      rw [once_nodup fine.apart, List.length_map, decide_eq_true rfl]
      exact q H4 (b3.tr (.same b3.2.1 b3.2.2 s4))
end
/-! ### what is drawn is fine -/
theorem name_len {y : Str} (h : nameB y = true) : 1 ≤ y.length ∧ y.length ≤ 8 := by
  unfold nameB at h
  rw [Bool.and_eq_true, Bool.and_eq_true, decide_eq_true_eq, decide_eq_true_eq] at h
  exact h.1
theorem name_ne {y : Str} (h : nameB y = true) : y ≠ "" := fun z => by
  have := (name_len h).1
  rw [z] at this
  exact absurd this (by decide +kernel)
theorem kmn : ¬ ("moment" : Str) = "name" := by decide +kernel
theorem kme : ¬ ("moment" : Str) = "end" := by decide +kernel
theorem kyn : ¬ ("many" : Str) = "name" := by decide +kernel
theorem kye : ¬ ("many" : Str) = "end" := by decide +kernel
theorem kym : ¬ ("many" : Str) = "moment" := by decide +kernel
theorem kcn : ¬ ("counted" : Str) = "name" := by decide +kernel
theorem kce : ¬ ("counted" : Str) = "end" := by decide +kernel
theorem kcm : ¬ ("counted" : Str) = "moment" := by decide +kernel
theorem kcy : ¬ ("counted" : Str) = "many" := by decide +kernel
theorem kpn : ¬ ("price" : Str) = "name" := by decide +kernel
theorem kpe : ¬ ("price" : Str) = "end" := by decide +kernel
theorem kpm : ¬ ("price" : Str) = "moment" := by decide +kernel
theorem kpy : ¬ ("price" : Str) = "many" := by decide +kernel
theorem ken : ¬ ("end" : Str) = "name" := by decide +kernel
theorem fit_name {y : Str} (h : nameB y = true) : Part (.str y) ∧ fitB (.str y) "name" = true := by
  refine ⟨.inl ⟨y, rfl, by have := (name_len h).2; omega⟩, ?_⟩
  unfold fitB
  rw [if_pos rfl]
  exact h
theorem fit_end {y : Str} (h : y = "" ∨ nameB y = true) : Part (.str y) ∧ fitB (.str y) "end" = true := by
  have e : fitB (.str y) "end" = (decide (V.str y = .str "") || nameB y) := by
    unfold fitB
    rw [if_neg ken, if_pos rfl]
    rfl
  rcases h with rfl | h
  · exact ⟨.inl ⟨_, rfl, Nat.zero_le _⟩, by rw [e, decide_eq_true rfl]; rfl⟩
  · exact ⟨.inl ⟨y, rfl, by have := (name_len h).2; omega⟩, by rw [e, h, Bool.or_true]⟩
theorem fit_moment {m : Int} (h0 : 0 ≤ m) (h1 : m ≤ 9999) : Part (.int m) ∧ fitB (.int m) "moment" = true := by
  refine ⟨.inr ⟨m, rfl⟩, ?_⟩
  unfold fitB inB bnd
  rw [if_neg kmn, if_neg kme, if_pos rfl]
  simp [h0, h1]
theorem fit_many {m : Int} (h0 : 1 ≤ m) (h1 : m ≤ 1000000000) : Part (.int m) ∧ fitB (.int m) "many" = true := by
  refine ⟨.inr ⟨m, rfl⟩, ?_⟩
  unfold fitB inB bnd
  rw [if_neg kyn, if_neg kye, if_neg kym, if_pos rfl]
  simp [h0, h1]
theorem fit_counted {m : Int} (h0 : 0 ≤ m) (h1 : m ≤ 1000000000) : Part (.int m) ∧ fitB (.int m) "counted" = true := by
  refine ⟨.inr ⟨m, rfl⟩, ?_⟩
  unfold fitB inB bnd
  rw [if_neg kcn, if_neg kce, if_neg kcm, if_neg kcy]
  simp [h0, h1]
theorem fit_price {m : Int} (h0 : 0 ≤ m) (h1 : m ≤ 1000000000) : Part (.int m) ∧ fitB (.int m) "price" = true := by
  refine ⟨.inr ⟨m, rfl⟩, ?_⟩
  unfold fitB inB bnd
  rw [if_neg kpn, if_neg kpe, if_neg kpm, if_neg kpy]
  simp [h0, h1]
theorem nd1 (x : Str) : [x].Nodup := List.nodup_cons.mpr ⟨fun z => (nomatch z), List.nodup_nil⟩
theorem zip_at {α β : Type} {xs : List α} {ys : List β} {i : Nat} {x : α} {y : β} (h1 : xs[i]? = some x) (h2 : ys[i]? = some y) : (x, y) ∈ xs.zip ys :=
  List.mem_of_getElem? (List.getElem?_zip_eq_some.mpr ⟨h1, h2⟩)
theorem fine_of {PL GL HL : List Str} {e : Ent} (h : e.From PL GL HL) (nd : PL.Nodup) (np : ∀ y ∈ PL, nameB y = true) (ng : ∀ y ∈ GL, nameB y = true) (nh : ∀ y ∈ HL, nameB y = true) (nn : nameB e.name = true) (m0 : 0 ≤ e.moment) (m1 : e.moment ≤ 9999) :
    e.Fine ∧ ∀ y ∈ e.places, nameB y = true := by
  have two : ∀ {o t : Str}, o ≠ t → [o, t].Nodup := fun h => List.nodup_cons.mpr ⟨fun z => h (List.mem_singleton.mp z), nd1 _⟩
  cases e with
  | come n m g p k r =>
    obtain ⟨h1, h2, h3, h4, h5, h6⟩ := h
    refine ⟨⟨fun i v x hv hx => ?_, nd1 _⟩, fun y hy => by rw [List.mem_singleton.mp hy]; exact np p h2⟩
    have hz := zip_at hv hx
    simp only [Ent.parts, Ent.sorts, Ent.rest, List.zip_cons_cons, List.zip_nil_left, List.mem_cons, List.not_mem_nil, or_false, Prod.mk.injEq] at hz
    rcases hz with ⟨rfl, rfl⟩ | ⟨rfl, rfl⟩ | ⟨rfl, rfl⟩ | ⟨rfl, rfl⟩ | ⟨rfl, rfl⟩ | ⟨rfl, rfl⟩
    · exact fit_name nn
    · exact fit_moment m0 m1
    · exact fit_name (ng g h1)
    · exact fit_name (np p h2)
    · exact fit_many h3 h4
    · exact fit_price h5 h6
  | go n m g p k =>
    obtain ⟨h1, h2, h3, h4⟩ := h
    refine ⟨⟨fun i v x hv hx => ?_, nd1 _⟩, fun y hy => by rw [List.mem_singleton.mp hy]; exact np p h2⟩
    have hz := zip_at hv hx
    simp only [Ent.parts, Ent.sorts, Ent.rest, List.zip_cons_cons, List.zip_nil_left, List.mem_cons, List.not_mem_nil, or_false, Prod.mk.injEq] at hz
    rcases hz with ⟨rfl, rfl⟩ | ⟨rfl, rfl⟩ | ⟨rfl, rfl⟩ | ⟨rfl, rfl⟩ | ⟨rfl, rfl⟩
    · exact fit_name nn
    · exact fit_moment m0 m1
    · exact fit_name (ng g h1)
    · exact fit_name (np p h2)
    · exact fit_many h3 h4
  | move n m g o t k =>
    obtain ⟨h1, h2, h3, h4, h5, h6⟩ := h
    refine ⟨⟨fun i v x hv hx => ?_, two (h4 nd)⟩, fun y hy => ?_⟩
    · have hz := zip_at hv hx
      simp only [Ent.parts, Ent.sorts, Ent.rest, List.zip_cons_cons, List.zip_nil_left, List.mem_cons, List.not_mem_nil, or_false, Prod.mk.injEq] at hz
      rcases hz with ⟨rfl, rfl⟩ | ⟨rfl, rfl⟩ | ⟨rfl, rfl⟩ | ⟨rfl, rfl⟩ | ⟨rfl, rfl⟩ | ⟨rfl, rfl⟩
      · exact fit_name nn
      · exact fit_moment m0 m1
      · exact fit_name (ng g h1)
      · exact fit_name (np o h2)
      · exact fit_name (np t h3)
      · exact fit_many h5 h6
    · simp only [Ent.places, List.mem_cons, List.not_mem_nil, or_false] at hy
      rcases hy with rfl | rfl
      · exact np _ h2
      · exact np _ h3
  | some_ n m g o t =>
    obtain ⟨h1, h2, h3⟩ := h
    refine ⟨⟨fun i v x hv hx => ?_, ?_⟩, fun y hy => ?_⟩
    · have hz := zip_at hv hx
      simp only [Ent.parts, Ent.sorts, Ent.rest, List.zip_cons_cons, List.zip_nil_left, List.mem_cons, List.not_mem_nil, or_false, Prod.mk.injEq] at hz
      rcases hz with ⟨rfl, rfl⟩ | ⟨rfl, rfl⟩ | ⟨rfl, rfl⟩ | ⟨rfl, rfl⟩ | ⟨rfl, rfl⟩
      · exact fit_name nn
      · exact fit_moment m0 m1
      · exact fit_name (ng g h1)
      · exact fit_name (np o h2)
      · exact fit_end (h3.imp id fun z => np t z.1)
    · show (if t = "" then [o] else [o, t]).Nodup
      by_cases z : t = ""
      · rw [if_pos z]; exact nd1 _
      · rw [if_neg z]; exact two ((h3.resolve_left z).2 nd)
    · have hy' : y ∈ (if t = "" then [o] else [o, t]) := hy
      by_cases z : t = ""
      · rw [if_pos z] at hy'
        rw [List.mem_singleton.mp hy']
        exact np o h2
      · rw [if_neg z] at hy'
        simp only [List.mem_cons, List.not_mem_nil, or_false] at hy'
        rcases hy' with rfl | rfl
        · exact np _ h2
        · exact np _ (h3.resolve_left z).1
  | swap n m o t =>
    obtain ⟨h1, h2, h3⟩ := h
    refine ⟨⟨fun i v x hv hx => ?_, two (h3 nd)⟩, fun y hy => ?_⟩
    · have hz := zip_at hv hx
      simp only [Ent.parts, Ent.sorts, Ent.rest, List.zip_cons_cons, List.zip_nil_left, List.mem_cons, List.not_mem_nil, or_false, Prod.mk.injEq] at hz
      rcases hz with ⟨rfl, rfl⟩ | ⟨rfl, rfl⟩ | ⟨rfl, rfl⟩ | ⟨rfl, rfl⟩
      · exact fit_name nn
      · exact fit_moment m0 m1
      · exact fit_name (np o h1)
      · exact fit_name (np t h2)
    · simp only [Ent.places, List.mem_cons, List.not_mem_nil, or_false] at hy
      rcases hy with rfl | rfl
      · exact np _ h1
      · exact np _ h2
  | count n m g p k hd =>
    obtain ⟨h1, h2, h3, h4, h5⟩ := h
    refine ⟨⟨fun i v x hv hx => ?_, nd1 _⟩, fun y hy => by rw [List.mem_singleton.mp hy]; exact np p h2⟩
    have hz := zip_at hv hx
    simp only [Ent.parts, Ent.sorts, Ent.rest, List.zip_cons_cons, List.zip_nil_left, List.mem_cons, List.not_mem_nil, or_false, Prod.mk.injEq] at hz
    rcases hz with ⟨rfl, rfl⟩ | ⟨rfl, rfl⟩ | ⟨rfl, rfl⟩ | ⟨rfl, rfl⟩ | ⟨rfl, rfl⟩ | ⟨rfl, rfl⟩
    · exact fit_name nn
    · exact fit_moment m0 m1
    · exact fit_name (ng g h1)
    · exact fit_name (np p h2)
    · exact fit_counted h3 h4
    · exact fit_name (nh hd h5)
  | look n m g p =>
    obtain ⟨h1, h2⟩ := h
    refine ⟨⟨fun i v x hv hx => ?_, nd1 _⟩, fun y hy => by rw [List.mem_singleton.mp hy]; exact np p h2⟩
    have hz := zip_at hv hx
    simp only [Ent.parts, Ent.sorts, Ent.rest, List.zip_cons_cons, List.zip_nil_left, List.mem_cons, List.not_mem_nil, or_false, Prod.mk.injEq] at hz
    rcases hz with ⟨rfl, rfl⟩ | ⟨rfl, rfl⟩ | ⟨rfl, rfl⟩ | ⟨rfl, rfl⟩
    · exact fit_name nn
    · exact fit_moment m0 m1
    · exact fit_name (ng g h1)
    · exact fit_name (np p h2)
/-! ### the order of entries, by the law -/
def Ent.rank : Ent → Int
  | .swap .. => 0 | .come .. => 1 | .go .. => 1 | .move .. => 1 | .some_ .. => 1 | .count .. => 2 | .look .. => 2
def ordV (e : Ent) : List V := [.int e.moment, .int e.rank, .str e.name]
def ordD (e : Ent) : PyData := .tuple [.int e.moment, .int e.rank, .str e.name]
theorem ord_dp {K : PySem.W.Frag} {H : Hp} {tp : Addr} {e : Ent} (h : H tp = some (.tup (ordV e))) : Dp K H (.ref tp) (ordD e) := .tup (SqT.of h) (.cons (.int _) (.cons (.int _) (.cons (.str _) .nil)))
theorem ord_alike (e g : Ent) : PySem.W.alike (ordD e) (ordD g) = true := rfl
def spOrd : Sp := fun vs H Q _ => ∃ (a : Addr) (e : Ent), vs = [.ref a] ∧ H a = some (.tup e.vals) ∧ ∀ (tp : Addr) (H' : Hp), Same H H' → H' tp = some (.tup (ordV e)) → Q (.ref tp) H'
def rankW (x : Str) : Int := 1 - (if decide (V.str x = V.str "swap") = true then 1 else 0) + (if inV (V.str x) [V.str "count", V.str "look"] = true then 1 else 0)
theorem rank_own (e : Ent) : rankW e.word = e.rank := by
  have h1 : rankW "come" = 1 := by decide +kernel
  have h2 : rankW "go" = 1 := by decide +kernel
  have h3 : rankW "move" = 1 := by decide +kernel
  have h4 : rankW "some" = 1 := by decide +kernel
  have h5 : rankW "swap" = 0 := by decide +kernel
  have h6 : rankW "count" = 2 := by decide +kernel
  have h7 : rankW "look" = 2 := by decide +kernel
  cases e
  · exact h1
  · exact h2
  · exact h3
  · exact h4
  · exact h5
  · exact h6
  · exact h7
section
variable {P : Program} {w : World} {K : PySem.W.Frag} {mg : Str → Option Value} {base : Heap}
theorem scOwn : FnScope ["_law_entry_here", "_law_rank"] ["_law_entry_here"] (defScope sOwn) := ⟨rfl, rfl, rfl, by decide +kernel, rfl, by decide +kernel, by decide +kernel⟩
theorem at1 (e : Ent) : atI e.vals 1 = some (.str e.name) := atI_nat (j := 1) rfl
theorem ok_own {f : Addr} {fd : FuncData} (F : Fun K "_law_order" "_law_order" sOwn f fd) (mi : mg "int" = none) : FnOk P w K mg base CX0 1 f fd ["_law_entry_here"] spOrd := by
  refine F.ok scOwn (fun vs H Q E h => ?_) (fun cdv A outer s H vs Q E hr h => ?_)
  · obtain ⟨a, e, rfl, _⟩ := h
    rfl
  · obtain ⟨a, e, rfl, ha, q⟩ := h
    refine ⟨_, pss_cons (ps_set (i := 1) scOwn.nd rfl (Or.inl rfl) (pe_op op_add (pe_op op_sub pe_int (pe_callTy call_int1 (by rfl) mi (by decide +kernel) (pa_cons (pe_cmpR op_eq (pe_ix ix_tup (pv 0) pe_int (fun _ _ => rfl)) pe_str (nomark _)) pa_nil)))
        (pe_callTy call_int1 (by rfl) mi (by decide +kernel) (pa_cons (pe_cmpR op_in_seq (pe_ix ix_tup (pv 0) pe_int (fun _ _ => rfl)) (pe_tup (pa_cons pe_str (pa_cons pe_str pa_nil))) (by rfl)) pa_nil))))
      (pss_one (ps_ret (pe_tup (pa_cons (pe_ix ix_tup (pv 0) pe_int (fun _ _ => rfl)) (pa_cons (pv 1) (pa_cons (pe_ix ix_tup (pv 0) pe_int (fun _ _ => rfl)) pa_nil)))))), ?_⟩
    refine ⟨_, rfl, a, _, 0, _, rfl, rfl, SqT.of ha, at0 e, rfl, .inr ⟨_, rfl, 1, _, rfl, rfl, _, rfl, a, _, 0, _, rfl, rfl, SqT.of ha, at0 e, (by show 2 ≤ sizeLine; decide), fun t nt => ?_⟩⟩
    have s1 := @same_new _ _ (.tup [V.str "count", .str "look"]) nt
    refine ⟨t, _, rfl, .inr (SqT.of upd_same), rfl, ?_, .inr ⟨_, rfl, _, _, rfl, rfl, ?_⟩⟩
    · rfl
    · refine ⟨_, rfl, a, _, 2, _, rfl, rfl, SqT.of (s1 _ _ ha), at2 e, _, rfl, _, rfl, a, _, 1, _, rfl, rfl, SqT.of (s1 _ _ ha), at1 e, (by show 3 ≤ sizeLine; decide), fun tp ntp => ?_⟩
      refine q tp _ (s1.trans (same_new ntp)) ?_
      rw [upd_same]
      exact congrArg (fun k => some (HO.tup [V.int e.moment, V.int k, V.str e.name])) (rank_own e)
end
section
variable {P : Program} {w : World} {K : PySem.W.Frag} {mg : Str → Option Value} {base : Heap}
theorem scOrd : FnScope ["entry"] ["entry"] (defScope sOrd) := ⟨rfl, rfl, rfl, by decide +kernel, rfl, by decide +kernel, by decide +kernel⟩
theorem ok_ord {f aR : Addr} {fd : FuncData} (F : Fun K "order_of" "order_of" sOrd f fd) (mR : mg "RANKS" = some (.ref aR)) (hR : ∀ e : Ent, KDct K w aR e.word (.int e.rank)) : FnOk P w K mg base CX0 1 f fd ["entry"] spOrd := by
  refine F.ok scOrd (fun vs H Q E h => ?_) (fun cdv A outer s H vs Q E hr h => ?_)
  · obtain ⟨a, e, rfl, _⟩ := h
    rfl
  · obtain ⟨a, e, rfl, ha, q⟩ := h
    refine ⟨_, pss_one (ps_ret (pe_tup (pa_cons (pe_ix ix_tup (pv 0) pe_int (fun _ _ => rfl)) (pa_cons (pe_ix ix_kdict (pe_glob (v := .ref aR) rfl mR rfl) (pe_ix ix_tup (pv 0) pe_int (fun _ _ => rfl)) (fun _ _ => rfl)) (pa_cons (pe_ix ix_tup (pv 0) pe_int (fun _ _ => rfl)) pa_nil))))), ?_⟩
    refine ⟨_, rfl, a, _, 2, _, rfl, rfl, SqT.of ha, at2 e, _, rfl, a, _, 0, _, rfl, rfl, SqT.of ha, at0 e, aR, e.word, _, rfl, rfl, hR e, _, rfl, a, _, 1, _, rfl, rfl, SqT.of ha, at1 e, (by show 3 ≤ sizeLine; decide), fun tp ntp => ?_⟩
    exact q tp _ (same_new ntp) upd_same
end
/-! ### houses -/
def TK (H H' : Hp) : Prop := ∀ a xs, H a = some (.tup xs) → H' a = some (.tup xs)
theorem TK.of {H H' : Hp} (s : Same H H') : TK H H' := fun a xs e => s a _ e
theorem TK.tr {H H1 H2 : Hp} (a : TK H H1) (b : TK H1 H2) : TK H H2 := fun c xs e => b c xs (a c xs e)
theorem TK.but {H H' : Hp} {p c : Addr} {n : Nat} (pen : PenAt H p c n) (b : But p H H') : TK H H' := fun a xs e => by
  obtain ⟨kvs, ns', a', x', g1, _⟩ := pen.ex
  exact b a _ e (ne_of e g1 (by intro z; cases z))
theorem TK.upd {H : Hp} {l : Addr} {o : HO} (n : ∀ xs, H l ≠ some (.tup xs)) : TK H (upd H l o) := fun a xs e => by
  by_cases z : a = l
  · rw [z] at e
    exact absurd e (n xs)
  · exact (upd_ne z).trans e
/-- each address holds its entry -/
inductive EntsAt (H : Hp) : List Addr → List Ent → Prop
  | nil : EntsAt H [] []
  | cons {a : Addr} {e : Ent} {as : List Addr} {es : List Ent} : H a = some (.tup e.vals) → EntsAt H as es → EntsAt H (a :: as) (e :: es)
theorem EntsAt.on {H H' : Hp} (k : TK H H') {as : List Addr} {es : List Ent} (h : EntsAt H as es) : EntsAt H' as es := by
  induction h with
  | nil => exact .nil
  | cons a _ ih => exact .cons (k _ _ a) ih
theorem EntsAt.len {H : Hp} {as : List Addr} {es : List Ent} (h : EntsAt H as es) : as.length = es.length := by
  induction h with
  | nil => rfl
  | cons _ _ ih => simp [ih]
theorem EntsAt.snoc {H : Hp} {a : Addr} {e : Ent} {as : List Addr} {es : List Ent} (h : EntsAt H as es) (q : H a = some (.tup e.vals)) : EntsAt H (as ++ [a]) (es ++ [e]) := by
  induction h with
  | nil => exact .cons q .nil
  | cons a _ ih => exact .cons a ih
theorem EntsAt.get {H : Hp} {as : List Addr} {es : List Ent} (h : EntsAt H as es) : ∀ {i : Nat} {a : Addr}, as[i]? = some a → ∃ e, es[i]? = some e ∧ H a = some (.tup e.vals) := by
  induction h with
  | nil => intro i a q; cases q
  | @cons a0 e0 as es q _ ih =>
    intro i a z
    cases i with
    | zero => exact ⟨e0, rfl, by rw [← Option.some.inj z]; exact q⟩
    | succ n => exact ih (i := n) z
structure HouseAt (H : Hp) (h : Addr) (P G : List Str) (es : List Ent) : Prop where
  ex : ∃ (hp hg he : Addr) (tps : List Addr), H h = some (.tup [.ref hp, .ref hg, .ref he]) ∧ H hp = some (.tup (P.map V.str)) ∧ H hg = some (.tup (G.map V.str)) ∧ H he = some (.tup (tps.map V.ref)) ∧ EntsAt H tps es
theorem HouseAt.on {H H' : Hp} (k : TK H H') {h : Addr} {P G : List Str} {es : List Ent} (x : HouseAt H h P G es) : HouseAt H' h P G es := by
  obtain ⟨hp, hg, he, tps, h1, h2, h3, h4, h5⟩ := x.ex
  exact ⟨hp, hg, he, tps, k _ _ h1, k _ _ h2, k _ _ h3, k _ _ h4, h5.on k⟩
/-- what holds of a house that a law makes -/
structure Good (P G : List Str) (es : List Ent) (m : Nat) : Prop where
  nd : P.Nodup
  ne : P ≠ []
  le : P.length ≤ 6
  nm : ∀ y ∈ P, nameB y = true
  ge : G ≠ []
  gl : G.length ≤ 3
  gn : ∀ y ∈ G, nameB y = true
  gd : G.Nodup
  many : es.length = m
  ents : ∀ e ∈ es, nameB e.name = true ∧ 0 ≤ e.moment ∧ e.moment ≤ 9999 ∧ ∃ HL : List Str, (∀ y ∈ HL, nameB y = true) ∧ e.From P G HL
theorem From.perm {e : Ent} {P P' G G' HL : List Str} (h : e.From P G HL) (p : P'.Perm P) (g : G'.Perm G) : e.From P' G' HL := by
  have nd : P'.Nodup → P.Nodup := fun z => p.nodup_iff.mp z
  cases e with
  | come n m gg pl k r => exact ⟨g.mem_iff.mpr h.1, p.mem_iff.mpr h.2.1, h.2.2⟩
  | go n m gg pl k => exact ⟨g.mem_iff.mpr h.1, p.mem_iff.mpr h.2.1, h.2.2⟩
  | move n m gg o t k => exact ⟨g.mem_iff.mpr h.1, p.mem_iff.mpr h.2.1, p.mem_iff.mpr h.2.2.1, fun z => h.2.2.2.1 (nd z), h.2.2.2.2⟩
  | some_ n m gg o t => exact ⟨g.mem_iff.mpr h.1, p.mem_iff.mpr h.2.1, h.2.2.imp id fun z => ⟨p.mem_iff.mpr z.1, fun q => z.2 (nd q)⟩⟩
  | swap n m o t => exact ⟨p.mem_iff.mpr h.1, p.mem_iff.mpr h.2.1, fun z => h.2.2 (nd z)⟩
  | count n m gg pl k hd => exact ⟨g.mem_iff.mpr h.1, p.mem_iff.mpr h.2.1, h.2.2⟩
  | look n m gg pl => exact ⟨g.mem_iff.mpr h.1, p.mem_iff.mpr h.2⟩
/-! the house as data -/
def dV : V → PyData
  | .str x => .str x
  | .int i => .int i
  | _ => .none
def entD (e : Ent) : PyData := .tuple (e.vals.map dV)
def houseD (P G : List Str) (es : List Ent) : PyData := .tuple [.tuple (P.map .str), .tuple (G.map .str), .tuple (es.map entD)]
theorem dp_strs {K : PySem.W.Frag} {H : Hp} : ∀ ys : List Str, DpAll K H (ys.map V.str) (ys.map PyData.str)
  | [] => .nil
  | y :: r => .cons (.str y) (dp_strs r)
theorem dp_ent {K : PySem.W.Frag} {H : Hp} {a : Addr} {e : Ent} (h : H a = some (.tup e.vals)) : Dp K H (.ref a) (entD e) := by
  refine .tup (SqT.of h) ?_
  cases e <;> (repeat' (first | exact .nil | refine .cons (.str _) ?_ | refine .cons (.int _) ?_))
theorem dp_ents {K : PySem.W.Frag} {H : Hp} {as : List Addr} {es : List Ent} (h : EntsAt H as es) : DpAll K H (as.map V.ref) (es.map entD) := by
  induction h with
  | nil => exact .nil
  | cons a _ ih => exact .cons (dp_ent a) ih
theorem HouseAt.dp {K : PySem.W.Frag} {H : Hp} {h : Addr} {P G : List Str} {es : List Ent} (x : HouseAt H h P G es) : Dp K H (.ref h) (houseD P G es) := by
  obtain ⟨hp, hg, he, tps, h1, h2, h3, h4, h5⟩ := x.ex
  exact .tup (SqT.of h1) (.cons (.tup (SqT.of h2) (dp_strs P)) (.cons (.tup (SqT.of h3) (dp_strs G)) (.cons (.tup (SqT.of h4) (dp_ents h5)) .nil)))
/-! its text isn't long -/
structure Short (d : PyData) (n k : Nat) : Prop where
  sh : d.showable = true
  nd : d.hasDict = false
  ls : d.leavesShort 13 = true
  bk : d.bulk ≤ n
  dp : d.depth ≤ k
theorem short_str {y : Str} (h : nameB y = true ∨ y = "" ∨ y ∈ words7) : Short (.str y) 8 0 := by
  have lo : y.cps.toList.all (fun c => decide (c < 16 ^ 8)) = true ∧ y.cps.size ≤ 8 := by
    rcases h with h | rfl | h
    · unfold nameB at h
      rw [Bool.and_eq_true, Bool.and_eq_true] at h
      have l8 : y.length ≤ 8 := of_decide_eq_true h.1.2
      refine ⟨List.all_eq_true.mpr fun c hc => decide_eq_true ?_, l8⟩
      have q : ∀ c ∈ abc.cps.toList, c < 16 ^ 8 := by decide +kernel
      exact q c (of_decide_eq_true (List.all_eq_true.mp h.2 c hc))
    · exact ⟨rfl, Nat.zero_le _⟩
    · simp only [words7, List.mem_cons, List.not_mem_nil, or_false] at h
      rcases h with rfl | rfl | rfl | rfl | rfl | rfl | rfl <;> exact ⟨by decide +kernel, by decide +kernel⟩
  exact ⟨rfl, rfl, lo.1, lo.2, Nat.zero_le _⟩
theorem short_int {i : Int} (h0 : 0 ≤ i) (h1 : i ≤ 1000000000) : Short (.int i) 8 0 := by
  have e : (PyData.shown (.int i)).length ≤ 13 := Nat.le_trans (toString_length_le h0 (k := 10) (by decide) (by omega)) (by decide)
  refine ⟨?_, rfl, decide_eq_true e, Nat.zero_le _, Nat.zero_le _⟩
  show decide (i.natAbs.log2 < 1920) = true
  refine decide_eq_true ?_
  by_cases z : i.natAbs = 0
  · rw [z]
    decide
  · exact Nat.lt_trans ((Nat.log2_lt z).mpr (show i.natAbs < 2 ^ 30 by omega)) (by decide)
theorem short_all {n k : Nat} : ∀ {ds : List PyData}, (∀ d ∈ ds, Short d n k) → PyData.showableAll ds = true ∧ PyData.hasDictAll ds = false ∧ PyData.leavesShortAll 13 ds = true ∧ PyData.bulkAll ds ≤ ds.length * (n + 1) ∧ PyData.depthAll ds ≤ k
  | [], _ => ⟨rfl, rfl, rfl, Nat.le_of_eq (by simp [PyData.bulkAll]), Nat.zero_le _⟩
  | d :: ds, h => by
    have h1 := h d List.mem_cons_self
    obtain ⟨a1, a2, a3, a4, a5⟩ := short_all fun x hx => h x (List.mem_cons_of_mem _ hx)
    refine ⟨?_, ?_, ?_, ?_, ?_⟩
    · rw [PyData.showableAll, h1.sh, a1]
      rfl
    · rw [PyData.hasDictAll, h1.nd, a2]
      rfl
    · rw [PyData.leavesShortAll, h1.ls, a3]
      rfl
    · rw [PyData.bulkAll, List.length_cons, Nat.succ_mul]
      have := h1.bk
      omega
    · rw [PyData.depthAll]
      exact Nat.max_le.mpr ⟨h1.dp, a5⟩
theorem short_tup {n k m : Nat} {ds : List PyData} (h : ∀ d ∈ ds, Short d n k) (l : ds.length * (n + 1) ≤ m) : Short (.tuple ds) m (k + 1) := by
  obtain ⟨a1, a2, a3, a4, a5⟩ := short_all h
  refine ⟨?_, ?_, ?_, ?_, ?_⟩
  · rw [PyData.showable]; exact a1
  · rw [PyData.hasDict]; exact a2
  · rw [PyData.leavesShort]; exact a3
  · rw [PyData.bulk]; omega
  · rw [PyData.depth]; omega
theorem Short.mono {d : PyData} {n k n' k' : Nat} (h : Short d n k) (hn : n ≤ n') (hk : k ≤ k') : Short d n' k' := ⟨h.sh, h.nd, h.ls, Nat.le_trans h.bk hn, Nat.le_trans h.dp hk⟩
theorem Short.fits {d : PyData} {n k : Nat} (h : Short d n k) (hn : n ≤ 100000) : d.shown.length ≤ sizeLine := by
  have q := PyData.shown_le_bulk 13 (by decide) d h.ls
  have := h.bk
  rw [sizeLine_eq]
  omega
theorem short_names {ys : List Str} (h : ∀ y ∈ ys, nameB y = true) (l : ys.length ≤ 31) : Short (.tuple (ys.map .str)) 300 1 := by
  refine short_tup (n := 8) (k := 0) (fun d hd => ?_) (by rw [List.length_map]; omega)
  obtain ⟨y, hy, rfl⟩ := List.mem_map.mp hd
  exact short_str (.inl (h y hy))
theorem short_ent {e : Ent} {P G HL : List Str} (nn : nameB e.name = true) (m0 : 0 ≤ e.moment) (m1 : e.moment ≤ 9999) (hP : ∀ y ∈ P, nameB y = true) (hG : ∀ y ∈ G, nameB y = true) (hH : ∀ y ∈ HL, nameB y = true) (h : e.From P G HL) : Short (entD e) 70 1 := by
  have w : ∀ {x : Str}, x ∈ words7 → Short (.str x) 8 0 := fun hx => short_str (.inr (.inr hx))
  have n : ∀ {x : Str}, nameB x = true → Short (.str x) 8 0 := fun hx => short_str (.inl hx)
  have mo : Short (.int e.moment) 8 0 := short_int m0 (by omega)
  refine short_tup (n := 8) (k := 0) (fun d hd => ?_) (by rw [List.length_map]; cases e <;> simp [Ent.vals, Ent.rest])
  obtain ⟨v, hv, rfl⟩ := List.mem_map.mp hd
  cases e with
  | come nm m g pl k r =>
    obtain ⟨h1, h2, h3, h4, h5, h6⟩ := h
    simp only [Ent.vals, Ent.rest, List.mem_cons, List.not_mem_nil, or_false] at hv
    rcases hv with rfl | rfl | rfl | rfl | rfl | rfl | rfl
    · exact w (Ent.word_in _)
    · exact n nn
    · exact mo
    · exact n (hG _ h1)
    · exact n (hP _ h2)
    · exact short_int (by omega) h4
    · exact short_int h5 h6
  | go nm m g pl k =>
    obtain ⟨h1, h2, h3, h4⟩ := h
    simp only [Ent.vals, Ent.rest, List.mem_cons, List.not_mem_nil, or_false] at hv
    rcases hv with rfl | rfl | rfl | rfl | rfl | rfl
    · exact w (Ent.word_in _)
    · exact n nn
    · exact mo
    · exact n (hG _ h1)
    · exact n (hP _ h2)
    · exact short_int (by omega) h4
  | move nm m g o t k =>
    obtain ⟨h1, h2, h3, h4, h5, h6⟩ := h
    simp only [Ent.vals, Ent.rest, List.mem_cons, List.not_mem_nil, or_false] at hv
    rcases hv with rfl | rfl | rfl | rfl | rfl | rfl | rfl
    · exact w (Ent.word_in _)
    · exact n nn
    · exact mo
    · exact n (hG _ h1)
    · exact n (hP _ h2)
    · exact n (hP _ h3)
    · exact short_int (by omega) h6
  | some_ nm m g o t =>
    obtain ⟨h1, h2, h3⟩ := h
    simp only [Ent.vals, Ent.rest, List.mem_cons, List.not_mem_nil, or_false] at hv
    rcases hv with rfl | rfl | rfl | rfl | rfl | rfl
    · exact w (Ent.word_in _)
    · exact n nn
    · exact mo
    · exact n (hG _ h1)
    · exact n (hP _ h2)
    · rcases h3 with rfl | h3
      · exact short_str (.inr (.inl rfl))
      · exact n (hP _ h3.1)
  | swap nm m o t =>
    obtain ⟨h1, h2, h3⟩ := h
    simp only [Ent.vals, Ent.rest, List.mem_cons, List.not_mem_nil, or_false] at hv
    rcases hv with rfl | rfl | rfl | rfl | rfl
    · exact w (Ent.word_in _)
    · exact n nn
    · exact mo
    · exact n (hP _ h1)
    · exact n (hP _ h2)
  | count nm m g pl k hd =>
    obtain ⟨h1, h2, h3, h4, h5⟩ := h
    simp only [Ent.vals, Ent.rest, List.mem_cons, List.not_mem_nil, or_false] at hv
    rcases hv with rfl | rfl | rfl | rfl | rfl | rfl | rfl
    · exact w (Ent.word_in _)
    · exact n nn
    · exact mo
    · exact n (hG _ h1)
    · exact n (hP _ h2)
    · exact short_int h3 h4
    · exact n (hH _ h5)
  | look nm m g pl =>
    obtain ⟨h1, h2⟩ := h
    simp only [Ent.vals, Ent.rest, List.mem_cons, List.not_mem_nil, or_false] at hv
    rcases hv with rfl | rfl | rfl | rfl | rfl
    · exact w (Ent.word_in _)
    · exact n nn
    · exact mo
    · exact n (hG _ h1)
    · exact n (hP _ h2)
theorem Good.short {P G : List Str} {es : List Ent} {m : Nat} (g : Good P G es m) (hm : m ≤ 31) : Short (houseD P G es) 10000 3 := by
  refine short_tup (n := 3000) (k := 2) (fun d hd => ?_) (by show 3 * 3001 ≤ 10000; decide)
  simp only [List.mem_cons, List.not_mem_nil, or_false] at hd
  rcases hd with rfl | rfl | rfl
  · exact (short_names g.nm (Nat.le_trans g.le (by decide))).mono (by decide) (by decide)
  · exact (short_names g.gn (Nat.le_trans g.gl (by decide))).mono (by decide) (by decide)
  · refine short_tup (n := 70) (k := 1) (fun d hd => ?_) (by rw [List.length_map, g.many]; omega)
    obtain ⟨e, he, rfl⟩ := List.mem_map.mp hd
    obtain ⟨e1, e2, e3, HL, e4, e5⟩ := g.ents e he
    exact short_ent e1 e2 e3 g.nm g.gn e4 e5
/-! ### along_tracks -/
/-- nothing but the tables has changed -/
def TabsG (Ts : List Addr) (H : Hp) : Prop := ∀ T ∈ Ts, GxR.TabG H T
structure TB1 (Ts : List Addr) (H H' : Hp) : Prop where
  tg : TabsG Ts H'
  kp : ∀ a o, H a = some o → (∀ ps, o ≠ .tbl ps) → H' a = some o
  free : ∀ a, H' a = none → H a = none
theorem tabg_sm {H H' : Hp} {T : Addr} (sm : Same H H') (t : GxR.TabG H T) : GxR.TabG H' T := by
  obtain ⟨ps, e, ok⟩ := t
  exact ⟨ps, sm _ _ e, ok⟩
theorem tabs_sm {H H' : Hp} {Ts : List Addr} (sm : Same H H') (t : TabsG Ts H) : TabsG Ts H' := fun T hT => tabg_sm sm (t T hT)
theorem TB1.same {Ts : List Addr} {H H' : Hp} (t : TabsG Ts H) (sm : Same H H') : TB1 Ts H H' := ⟨tabs_sm sm t, fun a o e _ => sm a o e, fun a n => sm.free n⟩
theorem TB1.tr {Ts : List Addr} {H H1 H2 : Hp} (a : TB1 Ts H H1) (b : TB1 Ts H1 H2) : TB1 Ts H H2 := ⟨b.1, fun c o e n => b.2 c o (a.2 c o e n) n, fun c n => a.free c (b.free c n)⟩
theorem TB1.tab {Ts : List Addr} {T : Addr} {H H' : Hp} (t : GxR.Tabbed T H H') (g : TabsG Ts H) (hT : T ∈ Ts) : TB1 Ts H H' := by
  refine ⟨fun T' hT' => ?_, fun a o e n => ?_, fun a n => ?_⟩
  · by_cases z : T' = T
    · rw [z]
      exact t.1
    · obtain ⟨ps, e, ok⟩ := g T' hT'
      exact ⟨ps, (t.2 T' z).trans e, ok⟩
  · have na : a ≠ T := fun z => by
      obtain ⟨ps, e', _⟩ := g T hT
      rw [z, e'] at e
      exact n ps (Option.some.inj e).symm
    rw [t.2 a na]
    exact e
  · by_cases z : a = T
    · obtain ⟨ps, e, _⟩ := t.1
      rw [z, e] at n
      cases n
    · rw [← t.2 a z]
      exact n
theorem TB1.tk {Ts : List Addr} {H H' : Hp} (t : TB1 Ts H H') : TK H H' := fun a xs e => t.2 a _ e fun ps z => nomatch z
theorem TB1.lst {Ts : List Addr} {H H' : Hp} (t : TB1 Ts H H') {a : Addr} {xs : List V} (e : H a = some (.lst xs)) : H' a = some (.lst xs) := t.2 a _ e fun ps z => nomatch z
theorem TB1.dct {Ts : List Addr} {H H' : Hp} (t : TB1 Ts H H') {a : Addr} {kvs : List (Key × V)} (e : H a = some (.dK kvs)) : H' a = some (.dK kvs) := t.2 a _ e fun ps z => nomatch z
theorem tabs_upd {H : Hp} {Ts : List Addr} {l : Addr} {xs : List V} {o : HO} (t : TabsG Ts H) (e : H l = some (.lst xs)) : TabsG Ts (upd H l o) := fun T hT => by
  obtain ⟨ps, e1, ok⟩ := t T hT
  exact ⟨ps, (upd_ne (ne_of e1 e (by intro z; cases z))).trans e1, ok⟩
/-- a list that came since is written -/
theorem TB1.put {Ts : List Addr} {H H' : Hp} {l : Addr} {xs : List V} {o : HO} (t : TB1 Ts H H') (n : H l = none) (e : H' l = some (.lst xs)) : TB1 Ts H (upd H' l o) :=
  ⟨tabs_upd t.1 e, fun a u eu na => (upd_ne (ne_of_none eu n)).trans (t.2 a u eu na), fun a na => by
    by_cases z : a = l
    · rw [z]
      exact n
    · rw [upd_ne z] at na
      exact t.free a na⟩
/-! ### sorted(..) of what gives texts -/
def leS (a b : Str) : Prop := a.cps.toList ≤ b.cps.toList
theorem leS_of {a b : Str} (h : ltCps b.cps.toList a.cps.toList = false) : leS a b := by
  rw [ltCps_eq] at h
  exact List.not_lt.mp (of_decide_eq_false h)
theorem str_ext {a b : Str} (h : a.cps.toList = b.cps.toList) : a = b := by
  cases a with
  | mk x => cases b with
    | mk y =>
      have : x = y := Array.toList_inj.mp h
      rw [this]
theorem leS_trans {a b c : Str} (h1 : leS a b) (h2 : leS b c) : leS a c := List.le_trans h1 h2
theorem leS_anti {a b : Str} (h1 : leS a b) (h2 : leS b a) : a = b := str_ext (List.le_antisymm h1 h2)
theorem rising_pw : ∀ (p : Str) (l : List Str), risingS p l = true → (p :: l).Pairwise leS
  | p, [], _ => List.pairwise_singleton _ _
  | p, x :: r, h => by
    have h' : (!ltCps x.cps.toList p.cps.toList && risingS x r) = true := h
    rw [Bool.and_eq_true] at h'
    have le : leS p x := leS_of (by simpa using h'.1)
    have ih := rising_pw x r h'.2
    refine List.pairwise_cons.mpr ⟨fun y hy => ?_, ih⟩
    rcases List.mem_cons.mp hy with rfl | hy
    · exact le
    · exact leS_trans le (List.rel_of_pairwise_cons ih hy)
theorem sorted_pw {l : List Str} (h : sortedS l = true) : l.Pairwise leS := by
  cases l with
  | nil => exact .nil
  | cons x r => exact rising_pw x r h
/-- two sorted lists of the same texts are one -/
theorem sorted_one {l r : List Str} (p : l.Perm r) (h1 : sortedS l = true) (h2 : sortedS r = true) : l = r :=
  List.Perm.eq_of_pairwise (fun a b _ _ x y => leS_anti x y) (sorted_pw h1) (sorted_pw h2) p
theorem sorted_by {prog : Program} {w : World} {A : Around} {E : Value → Shared → Prop} {s : Shared} {x : Value} {Q : Value → Shared → Prop}
    (h : wpAny (model prog w) A.in1 (collect x) (fun vs s1 => ∃ ss, StrsAre vs ss ∧ vs.length < 64 ∧ ∀ (out : Array Value) (ss' : List Str) (h' : Heap) (ep : Nat), StrsAre out.toList ss' → ss'.Perm ss → sortedS ss' = true →
      (∀ b o, s1.heap.get? b = some o → h'.get? b = some o) → h'.get? s1.heap.objs.size = some (seqObj "list" out ep) → Q (.ref s1.heap.objs.size) { s1 with heap := h' }) E s) :
    wpAny (model prog w) A (call (.builtin "sorted") [x]) Q E s := by
  refine Calls.call_function_entry kind_sorted plain_sorted entry_sorted (args_sorted1 _) ?_
  unfold Builtin.«sorted»
  refine wpAny_bind (m := checkCount "sorted" 1 1 _) (wpAny_pure (wpAny_bind (wpAny_mono h (fun vs s1 ⟨ss, hS, h64, hq⟩ => ?_) fun _ _ e => e)))
  have hoL : (s1.heap.push (seqObj "list" vs.toArray 0)).get? s1.heap.objs.size = some (seqObj "list" vs.toArray 0) := Heap.get?_push_size _ rfl
  refine wpAny_bind (wpAny_newList (wpAny_bind (wpAny_holding (wpAny_call_entry slot_list_sort ⟨_, hoL, rfl⟩ entry_list_sort (list_sort_treeK strKind_oneLt hoL hS.keysOf (fun v1 v2 rest e => keyKind_strs (by rw [← e]; exact hS)) h64 fun st' hp hs => ⟨_, rfl, ?_⟩) (args_list_sort _)))))
  obtain ⟨ss', h1, h2, h3⟩ := sorted_out_str hS hp hs
  obtain ⟨ep, he⟩ := sortedHeap_at (out := (arrOf st').map (·.2)) hoL
  refine wpAny_pure ⟨_, rfl, hq _ ss' _ ep h1 h2 h3 (fun b o e => ?_) he⟩
  have lt := Heap.lt_size e
  rw [sortedHeap_old (Nat.ne_of_lt lt) (by rw [Heap.size_push]; exact Nat.lt_succ_of_lt lt)]
  exact Heap.get?_push_of_some _ e
/-- of a tuple of texts -/
theorem cr_sortedTS {X : Cx} : CallR X (.builtin "sorted") (fun vs H Q => ∃ (a : Addr) (xs : List Str), vs = [.ref a] ∧ SqT X.K H a (xs.map V.str) ∧ xs.length < 64 ∧
    ∀ (ys : List Str) (p : Addr), ys.Perm xs → sortedS ys = true → H p = none → Q (.ref p) (upd H p (.lst (ys.map V.str)))) := by
  rintro pins s σ H vs us Q I r ⟨a, xs, rfl, hs, h64, q⟩
  rw [Vals.ref1 r]
  obtain ⟨its, rv, ⟨o, e1, e2, n, e3⟩, hz⟩ := I.tuple hs
  have l0 := rv.length
  rw [List.length_map] at l0
  refine sorted_by (wpAny_collect_seq a (.inr rfl) e1 e2 e3 (fun h1 k1 => ⟨xs, ?_, ?_, fun out ys h' ep g1 g2 g3 k2 g4 => ?_⟩) (by rw [List.size_toArray, ← rv.length]; exact hz))
  · exact rv.strs
  · show its.length < 64
    rw [← l0]
    exact h64
  · have I1 := I.kept (t' := s.toks) k1
    have hlen : (ys.map V.str).length ≤ sizeLine := by rw [List.length_map, g2.length_eq]; exact small64 h64
    exact ⟨.ref h1.objs.size, upd H h1.objs.size (.lst (ys.map V.str)), I1.laid (t' := s.toks) k2 (Nat.le_refl _) ⟨hlen, out.toList, ep, vals_of_strs g1, by rw [g4]⟩, rfl, q ys _ g2 g3 (I1.hok.fresh (Nat.le_refl _))⟩
/-! ### sorted(set(xs)) of texts: a set that tells its table -/
structure SetTx (P : Program) (w : World) (h : Heap) (a : Addr) (l : List Str) : Prop where
  ex : ∃ D : PySem.Froz.SD, h.get? a = some (PySem.Froz.sObj "set" D) ∧ PySem.Froz.TxOk P w D l ∧ L2.Ris D.2.2.place.toList ∧ (w.params.followText "set-order" = true ∨ D.2.2.led = true)
theorem perm_of_sub : ∀ {l ks : List Str}, l.Nodup → (∀ x ∈ l, x ∈ ks) → ks.length ≤ l.length → ks.Perm l
  | [], ks, _, _, h => by
    have : ks = [] := List.eq_nil_of_length_eq_zero (Nat.le_zero.mp h)
    rw [this]
  | x :: r, ks, nd, h, le => by
    obtain ⟨n1, n2⟩ := List.nodup_cons.mp nd
    have hx := h x List.mem_cons_self
    have p := List.perm_cons_erase hx
    refine p.trans (.cons x (perm_of_sub n2 (fun y hy => ?_) ?_))
    · have ne : y ≠ x := fun z => n1 (by rw [← z]; exact hy)
      exact (List.mem_erase_of_ne ne).mpr (h y (List.mem_cons_of_mem _ hy))
    · have := p.length_eq
      simp only [List.length_cons] at this le
      omega
section
variable {P : Program} {w : World} {A : Around} {E : Value → Shared → Prop} {s : Shared}
theorem tail_ris {ep : Nat} {es1 : Array (Int × Value)} {t2 : SetTable} {b : Bool} (h : L2.Ris t2.place.toList) : L2.Ris (PySem.Froz.tailTx ep es1 t2 b).2.2.place.toList ∧ (PySem.Froz.tailTx ep es1 t2 b).2.2.led = t2.led := by
  unfold PySem.Froz.tailTx
  split
  · exact ⟨L2.relayAll_ris _ _ _, L2.relayAll_led _ _ _⟩
  · exact ⟨h, rfl⟩
theorem addTx_ris {D : PySem.Froz.SD} {h : Int} {v : Value} (r : L2.Ris D.2.2.place.toList) : L2.Ris (PySem.Froz.addTx h v D).2.2.place.toList ∧ (PySem.Froz.addTx h v D).2.2.led = D.2.2.led := by
  have r1 := L2.layNew_ris D.2.2 D.1 h v r
  have l1 := L2.layNew_led D.2.2 D.1 h v
  unfold PySem.Froz.addTx
  split
  · obtain ⟨a1, a2⟩ := tail_ris (ep := D.2.1) (es1 := (layNew D.2.2 D.1 h v).1) (b := (layNew D.2.2 D.1 h v).2.2.1) (t2 := { (layNew D.2.2 D.1 h v).2.1 with plain := false }) r1
    exact ⟨a1, a2.trans l1⟩
  · obtain ⟨a1, a2⟩ := tail_ris (ep := D.2.1) (es1 := (layNew D.2.2 D.1 h v).1) (b := (layNew D.2.2 D.1 h v).2.2.1) r1
    exact ⟨a1, a2.trans l1⟩
/-- one that is there is put in again -/
theorem add_old {a : Addr} {T : String} {D : PySem.Froz.SD} {l : List Str} {k : Str} {u : Tok} {Q : Bool → Shared → Prop} (ho : s.heap.get? a = some (PySem.Froz.sObj T D)) (F : PySem.Froz.TxOk P w D l) (hk : k ∈ l) (hb : l.length < scanBound) (h : Q false s) :
    wpAny (model P w) A (setAddHashed a (.str k u) (hashStr w k)) Q E s := by
  obtain ⟨es, ep, t⟩ := D
  have hsz : es.size = l.length := F.sz
  have hel : ElemsOf (PySem.strKind P w) es.toList := F.el
  unfold setAddHashed setAddHashedIn
  refine wpAny_holding (wpAny_bind (wpAny_setState_of ho rfl F.fit ?_))
  dsimp only
  rw [byScan_of rfl (by omega) hel]
  simp only [↓reduceIte]
  unfold setAddByScan
  refine wpAny_bind (wpAny_bind (wpAny_rule (wpAny_bind (wpAny_setScan_of (knd := PySem.strKind P w) (k := k) (PySem.Froz.is_str k u) ho rfl F.fit hel ?_))))
  cases hr : List.findIdx? (fun e => (PySem.strKind P w).is k e.2) es.toList with
  | some j => exact wpAny_pure (wpAny_pure h)
  | none =>
    obtain ⟨e, he, q⟩ := (F.mem k).mp hk
    have c := List.findIdx?_eq_none_iff.mp hr e he
    rw [q] at c
    cases c
/-- x into the set -/
theorem setTx_add {a : Addr} {l : List Str} {k : Str} {u : Tok} {Q : Bool → Shared → Prop} (R : SetTx P w s.heap a l) (hb : l.length + 1 < scanBound)
    (h : ∀ h' b, Heap.SameBut a s.heap h' → SetTx P w h' a (if k ∈ l then l else k :: l) → Q b { s with heap := h' }) : wpAny (model P w) A (setAddHashed a (.str k u) (hashStr w k)) Q E s := by
  obtain ⟨D, ho, F, r, ld⟩ := R.ex
  by_cases hk : k ∈ l
  · rw [if_pos hk] at h
    exact add_old ho F hk (by omega) (h s.heap false (Heap.SameBut.refl _ _) R)
  · rw [if_neg hk] at h
    refine PySem.Froz.add_x ho F hk hb (h _ true (Heap.SameBut.update _ _ _) ⟨_, PySem.Froz.get_upd _ ho rfl, PySem.Froz.add_ok u F, (addTx_ris r).1, ?_⟩)
    rw [(addTx_ris r).2]
    exact ld
end
def onceR (xs : List Str) : List Str := xs.foldl (fun l x => if x ∈ l then l else x :: l) []
theorem onceR_snoc (xs : List Str) (x : Str) : onceR (xs ++ [x]) = if x ∈ onceR xs then onceR xs else x :: onceR xs := by
  unfold onceR
  rw [List.foldl_append]
  rfl
theorem onceR_ok : ∀ (xs l : List Str), l.Nodup → (xs.foldl (fun l x => if x ∈ l then l else x :: l) l).Nodup ∧ (∀ y, y ∈ xs.foldl (fun l x => if x ∈ l then l else x :: l) l ↔ y ∈ l ∨ y ∈ xs) ∧ (xs.foldl (fun l x => if x ∈ l then l else x :: l) l).length ≤ l.length + xs.length
  | [], l, h => ⟨h, fun y => by simp, Nat.le_refl _⟩
  | x :: r, l, h => by
    rw [List.foldl_cons]
    by_cases z : x ∈ l
    · rw [if_pos z]
      obtain ⟨a, b, c⟩ := onceR_ok r l h
      refine ⟨a, fun y => (b y).trans ?_, by rw [List.length_cons]; omega⟩
      rw [List.mem_cons]
      constructor
      · rintro (q | q)
        · exact .inl q
        · exact .inr (.inr q)
      · rintro (q | q | q)
        · exact .inl q
        · exact .inl (by rw [q]; exact z)
        · exact .inr q
    · rw [if_neg z]
      obtain ⟨a, b, c⟩ := onceR_ok r (x :: l) (List.nodup_cons.mpr ⟨z, h⟩)
      refine ⟨a, fun y => (b y).trans ?_, by rw [List.length_cons] at c ⊢; omega⟩
      rw [List.mem_cons, List.mem_cons, or_assoc, or_left_comm]
theorem onceR_nodup (xs : List Str) : (onceR xs).Nodup := (onceR_ok xs [] .nil).1
theorem onceR_mem (xs : List Str) (y : Str) : y ∈ onceR xs ↔ y ∈ xs := ((onceR_ok xs [] .nil).2.1 y).trans (by simp)
theorem onceR_len (xs : List Str) : (onceR xs).length ≤ xs.length := Nat.le_trans (onceR_ok xs [] .nil).2.2 (by simp)
section
variable {prog : Program} {w : World} {A : Around}
theorem setTx_loop {R : Result → Shared → Prop} {it : Addr} {fp wr : List Addr} {G : Array GenState → Array GenState → Prop} {n : Nat} {P : Nat → Value → Prop} {St : Nat → Shared → Prop} (W : WalksS prog w A.in1 it fp wr G n P St) (S : Addr) (nS : S ∉ fp) (xs : List Str)
    (len : xs.length = n) (big : n + 1 < scanBound) (val : ∀ i v, P i v → ∃ t, v = .str (xs.getD i Str.empty) t) :
    ∀ (k i : Nat) (s : Shared), n - i = k → i ≤ n → St i s → SetTx prog w s.heap S (onceR (xs.take i)) →
      (∀ s', Moved (S :: wr) G s s' → SetTx prog w s'.heap S (onceR xs) → R (.ok (.ret .none)) s') →
      codeAny (model prog w) A (.builtin "set.update.loop" ⟨[.ref S, .ref it], []⟩) R s := by
  have nW : S ∉ wr := fun h => nS (W.sub _ h)
  have up : ∀ b ∈ wr, b ∈ S :: wr := fun b hb => List.mem_cons_of_mem _ hb
  have stay : ∀ {s s' : Shared} {l : List Str}, Moved wr G s s' → SetTx prog w s.heap S l → SetTx prog w s'.heap S l := fun mv ⟨D, ho, r⟩ => ⟨D, mv.heap S _ nW ho, r⟩
  intro k
  induction k with
  | zero =>
    intro i s hk hi st hS hR
    obtain rfl : i = n := by omega
    refine codeAny_builtin PyProof.Rows.F.entry_set_update_loop ?_
    rw [Around.under_plainId PyProof.Rows.F.plain_set_update_loop _]
    show wpAny _ A.in1 (pyNext (.ref it) >>= _) _ _ s
    refine wpAny_bind (W.done s _ _ st fun s' mv => ?_)
    rw [List.take_of_length_le (Nat.le_of_eq len)] at hS
    exact wpAny_pure (hR s' (mv.mono up) (stay mv hS))
  | succ k ih =>
    intro i s hk hi st hS hR
    have lt : i < n := by omega
    refine codeAny_builtin PyProof.Rows.F.entry_set_update_loop ?_
    rw [Around.under_plainId PyProof.Rows.F.plain_set_update_loop _]
    show wpAny _ A.in1 (pyNext (.ref it) >>= _) _ _ s
    refine wpAny_bind (W.item i s _ _ lt st fun v s' hP st' mv => ?_)
    obtain ⟨t, rfl⟩ := val i v hP
    show wpAny _ A.in1 (holding [Value.str (xs.getD i Str.empty) t] (setAdd S (.str (xs.getD i Str.empty) t)) >>= _) _ _ s'
    refine wpAny_bind (wpAny_holding ?_)
    unfold setAdd
    refine wpAny_holding (wpAny_bind ((PySem.strKind prog w).pyHash (k := xs.getD i Str.empty) (strKind_is _ _ _ _) ?_))
    have small : (onceR (xs.take i)).length + 1 < scanBound := by
      have h := onceR_len (xs.take i)
      rw [List.length_take] at h
      omega
    refine setTx_add (s := { s' with toks := s'.toks + 1 }) (show SetTx prog w s'.heap S _ from stay mv hS) small fun h' b sb hS2 => ?_
    have hx : xs.take (i + 1) = xs.take i ++ [xs.getD i Str.empty] := by
      have hl : i < xs.length := by omega
      rw [List.take_add_one, List.getElem?_eq_getElem hl, List.getD_eq_getElem?_getD, List.getElem?_eq_getElem hl]
      rfl
    rw [← onceR_snoc, ← hx] at hS2
    refine wpAny_pure ⟨plainId_quiet PyProof.Rows.F.plain_set_update_loop _, ih (i + 1) _ (by omega) lt (W.frame _ s' _ _ st' (Nat.le_succ _) fun b hb o e => ?_) hS2 fun s'' mv'' hS'' => ?_⟩
    · rw [sb.2 b (fun z : b = S => nS (by rw [← z]; exact hb))]
      exact e
    · refine hR s'' (Moved.trans W.gtrans ((mv.mono up).then_heap (Nat.le_succ _) fun b o hb e => ?_) mv'') hS''
      rw [sb.2 b (fun z : b = S => hb (by rw [z]; exact List.mem_cons_self))]
      exact e
theorem code_set_led1 {E : Value → Shared → Prop} {s : Shared} (a : Value) {Q₁ : Value → Shared → Prop}
    (h : Q₁ (.ref s.heap.objs.size) { s with heap := s.heap.push (PySem.Froz.sObj "set" (#[], 0, .fresh 0 0 (!w.params.followText "set-order"))) }) :
    codeAny (model prog w) A (.call (.builtin "set.__new__") ⟨[.type "set", a], []⟩) (wants Q₁ E) s := by
  refine codeAny_of_tree ?_
  show wpAny _ A.in1 (do checkBuiltinCall "set.__new__" ⟨[.type "set", a], []⟩; again (.builtin "set.__new__" ⟨[.type "set", a], []⟩)) _ _ s
  refine wpAny_bind (wpAny_of_eq (PySem.F.newCall_set_1 a) (wpAny_pure ⟨plainId_quiet PySem.F.plain_set_new _, codeAny_builtin PySem.F.entry_set_new ?_⟩))
  rw [Around.under_plainId PySem.F.plain_set_new _]
  unfold Builtin.«set.__new__» Builtin.Frozenset.newClass
  have hsub := sub_set_self
  obtain ⟨hp, g, d, tk, os⟩ := s
  dsimp only
  wp_walk
  refine wpAny_askSetting (wpAny_pure ?_)
  dsimp only
  simp only [newObj]
  refine wpAny_bind (wpAny_alloc (wpAny_pure ?_))
  exact wpAny_pure h
abbrev setL (w : World) : Obj := PySem.Froz.sObj "set" (#[], 0, .fresh 0 0 (!w.params.followText "set-order"))
theorem setTx_fresh {h : Heap} : SetTx prog w (h.push (setL w)) h.objs.size (onceR []) :=
  ⟨_, Heap.get?_push_size _ rfl, PySem.Froz.TxOk.nil rfl, List.Pairwise.nil, by
    show _ ∨ (!w.params.followText "set-order") = true
    cases w.params.followText "set-order"
    · exact .inr rfl
    · exact .inl rfl⟩
set_option maxHeartbeats 3200000 in
theorem setTx_of_tuple {E : Value → Shared → Prop} {s : Shared} {l : Addr} {items : Array Value} {xs : List Str} {Q : Value → Shared → Prop} (hh : A.handled = none) (hl : s.heap.IsTuple l items) (hi : PyProof.Rows.StrsAre items.toList xs) (big : xs.length + 1 < scanBound)
    (h : ∀ (h' : Heap) (tk : Nat), SetTx prog w h' s.heap.objs.size (onceR xs) →
      (∀ b o, b < s.heap.objs.size → s.heap.get? b = some o → h'.get? b = some o) → Q (.ref s.heap.objs.size) { s with heap := h', toks := tk }) :
    wpAny (model prog w) A (call (.type "set") [.ref l]) Q E s := by
  obtain ⟨c, tl, hmro⟩ := PySem.F.called_set.mro
  have hmade := PySem.F.called_set.made
  have hsub := PySem.F.called_set.sub
  refine wpAny_call (codeAny_of_tree ?_)
  show wpAny _ _ (callAny (.type "set") _) _ _ _
  refine wpAny_pure ⟨Code.quiet_builtin _ (by decide +kernel), codeAny_builtin PySem.F.entry_type_call ?_⟩
  rw [Around.under_plain (weight_type_call_type "set" [.ref l] []) rfl]
  have h1 := PySem.F.called_set.notType
  have h2 := PySem.F.called_set.canCreate
  have hct := PySem.F.typeCall_set_1 (.ref l)
  repeat (any_goals (first | assumption | wp_step))
  refine codeAny_mono (code_set_led1 (.ref l) (E := E) (Q₁ := fun obj s₁ => obj = .ref s.heap.objs.size ∧ s₁ = { s with heap := s.heap.push (setL w) }) ⟨rfl, rfl⟩) fun r s₁ hr => ?_
  cases r with
  | error e => exact hr
  | ok fl =>
    cases fl with
    | ret obj =>
      obtain ⟨rfl, rfl⟩ := hr
      have hS : (s.heap.push (setL w)).get? s.heap.objs.size = some (setL w) := Heap.get?_push_size _ rfl
      have hT : Shared.TypeIs { s with heap := s.heap.push (setL w) } (.ref s.heap.objs.size) "set" := ⟨_, hS, rfl⟩
      have hli := PySem.F.called_set.init.lookup
      have hbi := PySem.F.called_set.init.bind (.ref s.heap.objs.size)
      repeat (any_goals (first | assumption | wp_step))
      refine codeAny_mono (codeAny_call_builtin (R := wants (fun r s₂ => r = .none ∧ ∃ h' tk, s₂ = { s with heap := h', toks := tk } ∧
          SetTx prog w h' s.heap.objs.size (onceR xs) ∧
          (∀ b o, b < s.heap.objs.size → s.heap.get? b = some o → h'.get? b = some o)) E) PySem.F.called_set.init.plain PySem.F.entry_set_init (check_set_init_1 hT ?_)) fun r₂ s₂ hr₂ => ?_
      · obtain ⟨⟨ocls, odict, odata, oslots⟩, hol, hcl, nl, hdl⟩ := hl
        simp only at hcl hdl
        subst hcl; subst hdl
        have hol' : (s.heap.push (setL w)).get? l = some { cls := .type "tuple", dict := odict, data := .seq items nl, slots := oslots } := Heap.get?_push_of_some _ hol
        have hsls := PySem.F.sub_tuple_set
        have hslf := PySem.F.sub_tuple_frozenset
        have hne : (Value.type "tuple" == Value.type "dict") = false := by decide
        have hl1 : (s.heap.push (setL w)).IsTuple l items := ⟨_, hol', rfl, nl, rfl⟩
        unfold Builtin.«set.__init__» noKeywords Builtin.Frozenset.updateFrom
        generalize hPI : pyIter = PI
        wp_walk
        subst hPI
        refine wpAny_pyIter_tuple hl1 ?_
        refine wpAny_bind (wpAny_runValue ?_)
        have ltl : l < s.heap.objs.size := Heap.lt_size hol
        have szP : (s.heap.push (setL w)).objs.size = s.heap.objs.size + 1 := Heap.size_push ..
        have hh3 : A.in1.in1.in1.handled = none := hh
        have neI : l ≠ (s.heap.push (setL w)).objs.size := by rw [szP]; exact Nat.ne_of_lt (Nat.lt_succ_of_lt ltl)
        have len : xs.length = items.size := by rw [← StrsAre.len_eq hi, Array.length_toList]
        refine setTx_loop ((Walks.tuple hh3 _ l neI items).toS) s.heap.objs.size ?n xs len (by rw [← len]; exact big)
          (fun i v hv => SS.strs_at hi i v (by rw [Array.getElem?_toList]; exact hv)) (items.size - 0) 0 _ (by omega) (Nat.zero_le _) ⟨⟨_, Heap.get?_push_size _ rfl, rfl, rfl⟩, (hl1.push _)⟩ ?z ?r
        case n =>
          rw [szP]
          simp only [List.mem_cons, List.not_mem_nil, or_false, not_or]
          exact ⟨Nat.ne_of_lt (Nat.lt_succ_self _), Nat.ne_of_gt ltl⟩
        case z =>
          obtain ⟨D, q1, q2⟩ := (setTx_fresh (prog := prog) (w := w) (h := s.heap)).ex
          exact ⟨D, Heap.get?_push_of_some _ q1, q2⟩
        case r =>
          intro s' mv hS'
          obtain ⟨h', g', d', tk', os'⟩ := s'
          obtain rfl : g' = s.gens := mv.gens
          obtain rfl : d' = s.drawn := mv.drawn
          obtain rfl : os' = s.os := mv.os
          refine wpAny_pure ?_
          show wpAny _ _ (ret Value.none) _ _ _
          refine wpAny_pure ⟨rfl, h', tk', rfl, hS', fun b o hb e => mv.heap b o ?_ (Heap.get?_push_of_some _ (Heap.get?_push_of_some _ e))⟩
          rw [szP]
          simp only [List.mem_cons, List.not_mem_nil, or_false, not_or]
          exact ⟨Nat.ne_of_lt hb, Nat.ne_of_lt (Nat.lt_succ_of_lt hb)⟩
      · cases r₂ with
        | error e => exact hr₂
        | ok fl₂ =>
          cases fl₂ with
          | ret r =>
            obtain ⟨rfl, h', tk, rfl, hS', hk'⟩ := hr₂
            repeat (any_goals (first | assumption | wp_step))
            exact h _ _ hS' hk'
          | _ => exact hr₂.elim
    | _ => exact hr.elim
set_option maxHeartbeats 3200000 in
theorem setTx_of_list {E : Value → Shared → Prop} {s : Shared} {l : Addr} {items : Array Value} {xs : List Str} {Q : Value → Shared → Prop} (hh : A.handled = none) (hl : s.heap.IsList l items) (hi : PyProof.Rows.StrsAre items.toList xs) (big : xs.length + 1 < scanBound)
    (h : ∀ (h' : Heap) (tk : Nat), SetTx prog w h' s.heap.objs.size (onceR xs) →
      (∀ b o, b < s.heap.objs.size → s.heap.get? b = some o → h'.get? b = some o) → Q (.ref s.heap.objs.size) { s with heap := h', toks := tk }) :
    wpAny (model prog w) A (call (.type "set") [.ref l]) Q E s := by
  obtain ⟨c, tl, hmro⟩ := PySem.F.called_set.mro
  have hmade := PySem.F.called_set.made
  have hsub := PySem.F.called_set.sub
  refine wpAny_call (codeAny_of_tree ?_)
  show wpAny _ _ (callAny (.type "set") _) _ _ _
  refine wpAny_pure ⟨Code.quiet_builtin _ (by decide +kernel), codeAny_builtin PySem.F.entry_type_call ?_⟩
  rw [Around.under_plain (weight_type_call_type "set" [.ref l] []) rfl]
  have h1 := PySem.F.called_set.notType
  have h2 := PySem.F.called_set.canCreate
  have hct := PySem.F.typeCall_set_1 (.ref l)
  repeat (any_goals (first | assumption | wp_step))
  refine codeAny_mono (code_set_led1 (.ref l) (E := E) (Q₁ := fun obj s₁ => obj = .ref s.heap.objs.size ∧ s₁ = { s with heap := s.heap.push (setL w) }) ⟨rfl, rfl⟩) fun r s₁ hr => ?_
  cases r with
  | error e => exact hr
  | ok fl =>
    cases fl with
    | ret obj =>
      obtain ⟨rfl, rfl⟩ := hr
      have hS : (s.heap.push (setL w)).get? s.heap.objs.size = some (setL w) := Heap.get?_push_size _ rfl
      have hT : Shared.TypeIs { s with heap := s.heap.push (setL w) } (.ref s.heap.objs.size) "set" := ⟨_, hS, rfl⟩
      have hli := PySem.F.called_set.init.lookup
      have hbi := PySem.F.called_set.init.bind (.ref s.heap.objs.size)
      repeat (any_goals (first | assumption | wp_step))
      refine codeAny_mono (codeAny_call_builtin (R := wants (fun r s₂ => r = .none ∧ ∃ h' tk, s₂ = { s with heap := h', toks := tk } ∧
          SetTx prog w h' s.heap.objs.size (onceR xs) ∧
          (∀ b o, b < s.heap.objs.size → s.heap.get? b = some o → h'.get? b = some o)) E) PySem.F.called_set.init.plain PySem.F.entry_set_init (check_set_init_1 hT ?_)) fun r₂ s₂ hr₂ => ?_
      · obtain ⟨⟨ocls, odict, odata, oslots⟩, hol, hcl, nl, hdl⟩ := hl
        simp only at hcl hdl
        subst hcl; subst hdl
        have hol' : (s.heap.push (setL w)).get? l = some { cls := .type "list", dict := odict, data := .seq items nl, slots := oslots } := Heap.get?_push_of_some _ hol
        have hsls := PySem.F.sub_list_set
        have hslf := PySem.F.sub_list_frozenset
        have hne : (Value.type "list" == Value.type "dict") = false := by decide
        have hl1 : (s.heap.push (setL w)).IsList l items := ⟨_, hol', rfl, nl, rfl⟩
        unfold Builtin.«set.__init__» noKeywords Builtin.Frozenset.updateFrom
        generalize hPI : pyIter = PI
        wp_walk
        subst hPI
        refine wpAny_pyIter_list hl1 ?_
        refine wpAny_bind (wpAny_runValue ?_)
        have ltl : l < s.heap.objs.size := Heap.lt_size hol
        have szP : (s.heap.push (setL w)).objs.size = s.heap.objs.size + 1 := Heap.size_push ..
        have hh3 : A.in1.in1.in1.handled = none := hh
        have neI : l ≠ (s.heap.push (setL w)).objs.size := by rw [szP]; exact Nat.ne_of_lt (Nat.lt_succ_of_lt ltl)
        have len : xs.length = items.size := by rw [← StrsAre.len_eq hi, Array.length_toList]
        refine setTx_loop ((Walks.list hh3 _ l neI items).toS) s.heap.objs.size ?n xs len (by rw [← len]; exact big)
          (fun i v hv => SS.strs_at hi i v (by rw [Array.getElem?_toList]; exact hv)) (items.size - 0) 0 _ (by omega) (Nat.zero_le _) ⟨⟨_, Heap.get?_push_size _ rfl, rfl, rfl⟩, (hl1.push _)⟩ ?z ?r
        case n =>
          rw [szP]
          simp only [List.mem_cons, List.not_mem_nil, or_false, not_or]
          exact ⟨Nat.ne_of_lt (Nat.lt_succ_self _), Nat.ne_of_gt ltl⟩
        case z =>
          obtain ⟨D, q1, q2⟩ := (setTx_fresh (prog := prog) (w := w) (h := s.heap)).ex
          exact ⟨D, Heap.get?_push_of_some _ q1, q2⟩
        case r =>
          intro s' mv hS'
          obtain ⟨h', g', d', tk', os'⟩ := s'
          obtain rfl : g' = s.gens := mv.gens
          obtain rfl : d' = s.drawn := mv.drawn
          obtain rfl : os' = s.os := mv.os
          refine wpAny_pure ?_
          show wpAny _ _ (ret Value.none) _ _ _
          refine wpAny_pure ⟨rfl, h', tk', rfl, hS', fun b o hb e => mv.heap b o ?_ (Heap.get?_push_of_some _ (Heap.get?_push_of_some _ e))⟩
          rw [szP]
          simp only [List.mem_cons, List.not_mem_nil, or_false, not_or]
          exact ⟨Nat.ne_of_lt hb, Nat.ne_of_lt (Nat.lt_succ_of_lt hb)⟩
      · cases r₂ with
        | error e => exact hr₂
        | ok fl₂ =>
          cases fl₂ with
          | ret r =>
            obtain ⟨rfl, h', tk, rfl, hS', hk'⟩ := hr₂
            repeat (any_goals (first | assumption | wp_step))
            exact h _ _ hS' hk'
          | _ => exact hr₂.elim
    | _ => exact hr.elim
end
def strV : Value → Str
  | .str k _ => k
  | _ => Str.empty
theorem strs_are : ∀ vs : List Value, (∀ v ∈ vs, ∃ k tk, v = Value.str k tk) → StrsAre vs (vs.map strV)
  | [], _ => .nil
  | v :: r, h => by
    obtain ⟨k, tk, rfl⟩ := h v List.mem_cons_self
    exact .cons k tk (strs_are r fun u hu => h u (List.mem_cons_of_mem _ hu))
theorem isStr_shape {P : Program} {w : World} {k : Str} {v : Value} (h : (PySem.strKind P w).is k v = true) : ∃ tk, v = .str k tk := Value.isStrOf_shape h
/-- sorted(s) of a set of texts -/
theorem sorted_setTx {P : Program} {w : World} {A : Around} {E : Value → Shared → Prop} {s : Shared} {a : Addr} {l : List Str} {Q : Value → Shared → Prop} (R : SetTx P w s.heap a l) (nd : l.Nodup) (hh : A.handled = none) (h64 : l.length < 64)
    (hQ : ∀ s' p (out : Array Value) (c : Nat) (ys : List Str), (∀ b o, s.heap.get? b = some o → s'.heap.get? b = some o) → s'.gens = s.gens → s'.os = s.os → s.heap.objs.size ≤ p →
      s'.heap.get? p = some (seqObj "list" out c) → StrsAre out.toList ys → ys.Perm l → sortedS ys = true → Q (.ref p) s') :
    wpAny (model P w) A (call (.builtin "sorted") [.ref a]) Q E s := by
  obtain ⟨D, ho, F, r, ld⟩ := R.ex
  obtain ⟨es, ep, t⟩ := D
  have hsz : es.size = l.length := F.sz
  refine sorted_by (L2.collect_set (A := A.in1) (es := es) (ep := ep) (t := t) hh ⟨_, ho, rfl, rfl⟩ F.fit (by unfold scanBound; omega) r ld fun s1 vs k1 hz g1 o1 pm => ?_)
  have sh : ∀ v ∈ vs, ∃ k tk, v = Value.str k tk := fun v hv => by
    obtain ⟨e, he, q⟩ := List.mem_map.mp (pm.mem_iff.mp hv)
    obtain ⟨⟨k, hk, _⟩, _⟩ := F.el e he
    obtain ⟨tk, z⟩ := isStr_shape hk
    exact ⟨k, tk, by rw [← q, z]⟩
  have len : vs.length = l.length := by rw [pm.length_eq, List.length_map, Array.length_toList]; exact hsz
  have pl : (vs.map strV).Perm l := perm_of_sub nd (fun x hx => by
    obtain ⟨e, he, q⟩ := (F.mem x).mp hx
    obtain ⟨tk, z⟩ := isStr_shape q
    exact List.mem_map.mpr ⟨.str x tk, pm.mem_iff.mpr (List.mem_map.mpr ⟨e, he, z⟩), rfl⟩) (by rw [List.length_map, len]; exact Nat.le_refl _)
  refine ⟨vs.map strV, strs_are vs sh, by rw [len]; exact h64, fun out ys h' c q1 q2 q3 q4 q5 => ?_⟩
  exact hQ _ _ out c ys (fun b o e => q4 b o (k1 b o e)) g1 o1 hz q5 q1 (q2.trans pl) q3
def tSortSet (K : PySem.W.Frag) (ta : TE) : TE := fun σ H Q => ta σ H fun x H1 => ∃ l, ∃ xs : List Str, x = .ref l ∧ (SqT K H1 l (xs.map V.str) ∨ SqL K H1 l (xs.map V.str)) ∧ (onceR xs).length < 64 ∧ xs.length ≤ 1000 ∧
  ∀ (ys : List Str) (p : Addr), ys.Perm (onceR xs) → sortedS ys = true → H1 p = none → Q (.ref p) (upd H1 p (.lst (ys.map V.str)))
theorem pe_sortSet {X : Cx} {a : Expr} {ta : TE} {p p2 q pos : Pos} (hc : X.calm = true) (hg : Gl X "sorted") (hm : X.mg "sorted" = none) (hg2 : Gl X "set") (hm2 : X.mg "set" = none) (ha : PE X a ta)
    (na : starEach [a] X.env = (false, eval a X.env) :: starEach [] X.env := by rfl) : PE X (.Call (.Name "sorted" p) [.Call (.Name "set" p2) [a] [] q] [] pos) (tSortSet X.K ta) := by
  refine ⟨fun pins s σ H Q I h => Call_ (ld_blt I hg hm boot_sorted (PyProof.Rows.callWith_builtin1 (PyProof.Rows.args_cons ?_ rfl) rfl rfl))⟩
  refine Call_ (ld_blt I hg2 hm2 boot_set (PyProof.Rows.callWith_type1 (PyProof.Rows.args_cons (thn (ha.run pins s σ H _ I h) fun v s1 ⟨x, H1, I1, r1, q1⟩ => PyProof.Rows.args_nil ?_) na) na rfl))
  obtain ⟨l, xs, rfl, hq, l64, le, q1⟩ := q1
  cases r1
  have fin : ∀ (h' : Heap) (tk : Nat), SetTx X.prog X.w h' s1.heap.objs.size (onceR xs) → (∀ b o, b < s1.heap.objs.size → s1.heap.get? b = some o → h'.get? b = some o) →
      wpAny (model X.prog X.w) X.A (call (.builtin "sorted") [.ref s1.heap.objs.size]) (fun v s' => ∃ x H2, Inv X pins σ H2 s' ∧ RelV x v ∧ Q x H2) X.xe { s1 with heap := h', toks := tk } := fun h' tk hS hk => by
    have I2 : Inv X pins σ H1 { s1 with heap := h', toks := tk } := I1.kept fun b o e => hk b o (Heap.lt_size e) e
    refine sorted_setTx hS (onceR_nodup xs) (I1.ok.hd hc) l64 fun s' p out c ys k g o hp hgp hi pm hs => ?_
    have hlen : (ys.map V.str).length ≤ sizeLine := by rw [List.length_map, pm.length_eq]; exact small64 l64
    have hn : H1 p = none := I2.hok.fresh hp
    have J : Inv X pins σ (upd H1 p (.lst (ys.map V.str))) { ({ s1 with heap := h', toks := tk } : Shared) with heap := s'.heap, gens := s'.gens, drawn := s'.drawn, toks := s'.toks } :=
      I2.call (ch := []) (Un.laid k hp hn) (I2.hok.laid k hp ⟨hlen, out.toList, c, vals_of_strs hi, hgp⟩) (by rw [g]; exact I2.bare) (fun _ z => nomatch z)
    have e : s' = { ({ s1 with heap := h', toks := tk } : Shared) with heap := s'.heap, gens := s'.gens, drawn := s'.drawn, toks := s'.toks } := by
      cases s'
      cases s1
      cases o
      rfl
    rw [e]
    exact ⟨.ref p, _, J, rfl, q1 ys p pm hs hn⟩
  rcases hq with hq | hq
  · obtain ⟨its, r, pl, hz⟩ := I1.tuple hq
    exact setTx_of_tuple (I1.ok.hd hc) pl (by simpa using strsAre_of r) (by unfold scanBound; omega) fun h' tk hS hk => PyProof.Rows.args_nil (fin h' tk hS hk)
  · obtain ⟨its, r, pl, hz⟩ := I1.list hq
    exact setTx_of_list (I1.ok.hd hc) pl.isList (by simpa using strsAre_of r) (by unfold scanBound; omega) fun h' tk hS hk => PyProof.Rows.args_nil (fin h' tk hS hk)
/-! ### x in d.values(), texts -/
section
variable {prog : Program} {w : World} {A : Around} {E : Value → Shared → Prop} {s : Shared}
theorem plain_ci : plainId "proto.contains_iter" = true := by decide +kernel
theorem entry_ci : entryFor table "proto.contains_iter" = some Builtin.«proto.contains_iter» := entryFor_of_tree (by kernel_rfl)
theorem nocont_vals : typeLookup (.type "dict_values") "__contains__" = pure none := by rw [typeLookup_type, builtinLookup_eq_fast]; kernel_rfl
theorem ci_loop {it d : Addr} {ep : Nat} {vs : List (Key × Value)} {ys : List Str} {z : Str} {t : Tok} (hA : A.handled = none) (hv : ∀ (i : Nat) (p : Key × Value), vs[i]? = some p → ∃ y u, ys[i]? = some y ∧ p.2 = .str y u) (hl : ys.length = vs.length) (hdi : d ≠ it) {R : Result → Shared → Prop} :
    ∀ (n i : Nat) (s : Shared), i + n = vs.length → s.heap.IsValIter it d i vs.length ep → s.heap.DictAt (mixKind prog w) d vs ep → (∀ h', Heap.ExtBut it s.heap h' → R (.ok (.ret (.bool (decide (z ∈ ys.drop i))))) { s with heap := h' }) →
      codeAny (model prog w) A (.builtin "proto.contains_iter" ⟨[.ref it, .str z t], []⟩) R s
  | 0, i, s, hn, hit, hd, hR => by
    refine codeAny_builtin entry_ci ?_
    rw [Around.under_plainId plain_ci]
    unfold Builtin.«proto.contains_iter»
    refine wpAny_bind (wpAny_pyNext_values_end hA hit hd (List.getElem?_eq_none (by omega)) fun h' eb => ?_)
    refine wpAny_bind (wpAny_rule (wpAny_pure ?_))
    have e : ys.drop i = [] := List.drop_eq_nil_of_le (by omega)
    have q := hR h' eb
    rw [e] at q
    exact q
  | n + 1, i, s, hn, hit, hd, hR => by
    refine codeAny_builtin entry_ci ?_
    rw [Around.under_plainId plain_ci]
    unfold Builtin.«proto.contains_iter»
    obtain ⟨p, hp⟩ : ∃ p, vs[i]? = some p := ⟨_, List.getElem?_eq_getElem (by omega)⟩
    obtain ⟨y, u, hy, ev⟩ := hv i p hp
    have ed : ys.drop i = y :: ys.drop (i + 1) := by
      rw [List.drop_eq_getElem_cons (by omega)]
      rw [List.getElem?_eq_getElem (by omega)] at hy
      rw [Option.some.inj hy]
    refine wpAny_bind (wpAny_pyNext_values_item hit hd (k := p.1) (v := p.2) hp fun h' hit' sb => ?_)
    rw [ev]
    refine wpAny_bind ((mixKind prog w).eqBool (a := Sum.inr y) (b := Sum.inr z) (kV_is (k := Sum.inr y) ⟨u, rfl⟩) (kV_is (k := Sum.inr z) ⟨t, rfl⟩) ?_)
    by_cases e : y = z
    · rw [if_pos (by simp [e])]
      refine wpAny_bind (wpAny_rule (wpAny_pure ?_))
      have q := hR h' fun b o hb eo => (sb.2 b hb).trans eo
      rw [ed, decide_eq_true (by rw [e]; exact List.mem_cons_self)] at q
      exact q
    · rw [if_neg (by simp [e])]
      refine wpAny_pure ⟨plainId_quiet plain_ci _, ci_loop hA hv hl hdi n (i + 1) { s with heap := h' } (by omega) hit' (let ⟨o, es, ho, r⟩ := hd; ⟨o, es, (sb.2 d hdi).trans ho, r⟩) fun h2 eb2 => ?_⟩
      have q := hR h2 (fun b o hb eo => eb2 b o hb ((sb.2 b hb).trans eo))
      rw [ed] at q
      have e2 : decide (z ∈ y :: ys.drop (i + 1)) = decide (z ∈ ys.drop (i + 1)) := by
        have : ¬ z = y := fun h => e h.symm
        simp [this]
      rw [e2] at q
      exact q
end
def valsO (v d : Addr) : HO := .ext fun h => h.get? v = some { cls := .type "dict_values", data := .fields #[.ref d] }
/-- d.values(), as a value -/
def tVals (td : TE) : TE := fun σ H Q => td σ H fun x H1 => ∃ (d : Addr) (kvs : List (Key × V)), x = .ref d ∧ H1 d = some (.dK kvs) ∧ ∀ v, H1 v = none → Q (.ref v) (upd H1 v (valsO v d))
theorem pe_vals {X : Cx} {e : Expr} {td : TE} {apos cpos : Pos} (he : PE X e td) (hbase : attributeBase e "values" X.env (eval e X.env) = eval e X.env := by rfl) (hline : (apos.endLine == cpos.line) = true := by rfl) :
    PE X (.Call (.Attribute e "values" apos) [] [] cpos) (tVals td) := by
  refine ⟨fun pins s σ H Q I h => ?_⟩
  refine wpAny_Call_method (T := "dict") (id := "dict.values") hbase rfl hline F.plainAttrs_dict F.slot_dict_values F.type_dict_values (thn (he.run pins s σ H _ I h) ?_)
  rintro u s1 ⟨x, H1, I1, rx, d, kvs, rfl, hd, q⟩
  obtain rfl : u = Value.ref d := rx
  obtain ⟨_, dS, vs, rel, dd⟩ := dk_of I1.hok hd
  refine ⟨dd.typeIs, dd.mapOf.noDict, ?_⟩
  show wpAny _ _ (callWith cpos (.builtin "dict.values") [.ref d] [] []) _ X.xe s1
  refine method_meetsIn F.slot_dict_values F.entry_dict_values rfl (PySem.evalArgs_none ⟨rfl, dd.typeIs, F.args_dict_values_1 _, _, meets_dict_values (mixKind X.prog X.w) d dS, ⟨vs, dd⟩, ?_⟩)
  refine ⟨.ref s1.heap.objs.size, _, I1.laid (t' := s1.toks) (a := s1.heap.objs.size) (o := valsO s1.heap.objs.size d) (fun b ob q => Heap.get?_push_of_some _ q) (Nat.le_refl _) ?_, rfl, q _ (I1.hok.fresh (Nat.le_refl _))⟩
  have e : (s1.heap.push { cls := .type "dict_values", data := .fields #[.ref d] }).get? s1.heap.objs.size = some { cls := .type "dict_values", data := .fields #[.ref d] } := Heap.get?_push_size _ rfl
  exact ⟨e, ⟨_, e⟩, fun h1 h2 p k => k _ p⟩
def rInVals : R2 := fun x y H Q => ∃ (z : Str) (v d : Addr) (kvs : List (Key × V)) (ys : List Str), x = .str z ∧ y = .ref v ∧ H v = some (valsO v d) ∧ H d = some (.dK kvs) ∧ kvs.map (·.2) = ys.map V.str ∧ Q (.bl (decide (z ∈ ys))) H
theorem op_inVals {X : Cx} (hc : X.calm = true) : OpR X (compareOp .In) rInVals := by
  rintro pins s σ H x y vx vy Q I rx ry ⟨z, v, d, kvs, ys, rfl, rfl, hv, hd, hy, q⟩
  obtain ⟨t, rfl⟩ : ∃ t, vx = Value.str z t := rx
  obtain rfl : vy = Value.ref v := ry
  obtain ⟨ev, _, _⟩ := I.hok v _ hv
  obtain ⟨_, dS, vs, rel, o, es, ep, dd⟩ := dk_of I.hok hd
  have dA : s.heap.DictAt (mixKind X.prog X.w) d vs ep := ⟨o, es, dd⟩
  have tv : s.TypeIs (.ref v) "dict_values" := ⟨_, ev, rfl⟩
  have lv : kvs.length = vs.length := Paired.length rel
  have ly : ys.length = vs.length := by
    have := congrArg List.length hy
    rw [List.length_map, List.length_map] at this
    omega
  show wpAny _ _ (contains (.ref v) (.str z t) >>= fun b => pure (Value.bool b)) _ _ s
  refine wpAny_bind ?_
  unfold contains
  refine wpAny_holding ?_
  show wpAny _ _ (specialOf (.ref v) "__contains__" >>= _) _ _ s
  refine wpAny_bind (wpAny_specialOf tv nocont_vals ?_)
  show wpAny _ _ (if ((none : Option Value) == some Value.none) = true then _ else _) _ _ s
  rw [if_neg (by decide)]
  refine wpAny_bind (wpAny_callSpecialUnlessNone?_none tv nocont_vals ?_)
  refine wpAny_bind (wpAny_rule ?_)
  refine wpAny_bind (wpAny_tryCatch (wpAny_pyIter_values (d := d) (knd := mixKind X.prog X.w) ⟨_, ev, rfl, rfl⟩ dA ?_))
  have nvi : d ≠ s.heap.objs.size := Nat.ne_of_lt (Heap.lt_size dd.1)
  refine wpAny_bind (wpAny_runValue (ci_loop (ys := ys) (I.ok.hd hc) ?_ ly nvi vs.length 0 _ (by omega) ⟨_, Heap.get?_push_size _ rfl, rfl, rfl⟩ ?_ fun h' eb => ?_))
  · intro i p hp
    have hi : i < vs.length := (List.getElem?_eq_some_iff.mp hp).1
    obtain ⟨⟨k, v'⟩, hk⟩ : ∃ e, kvs[i]? = some e := ⟨_, List.getElem?_eq_getElem (by omega)⟩
    obtain ⟨u, hu, ru⟩ := kv_get rel hk
    obtain ⟨y, hy'⟩ : ∃ y, ys[i]? = some y := ⟨_, List.getElem?_eq_getElem (by omega)⟩
    have e1 : (kvs.map (·.2))[i]? = some v' := by rw [List.getElem?_map, hk]; rfl
    rw [hy, List.getElem?_map, hy'] at e1
    obtain rfl : V.str y = v' := Option.some.inj e1
    obtain ⟨t2, rfl⟩ := ru
    rw [hp] at hu
    exact ⟨y, t2, hy', by rw [Option.some.inj hu]⟩
  · exact ⟨o, es, Heap.get?_push_of_some _ dd.1, dd.2⟩
  · refine wpAny_pure (wpAny_pure ⟨.bl _, H, I.kept (t' := s.toks) (fun b ob e => eb b ob (Nat.ne_of_lt (Heap.lt_size e)) (Heap.get?_push_of_some _ e)), rfl, ?_⟩)
    rw [List.drop_zero]
    exact q
/-! ### d.setdefault, list(d.values()), walks over lists and tuples -/
namespace Sdf
section
variable {prog : Program} {w : World} {K : Type} [DecidableEq K] {knd : KeyKind prog w K} {A : Around} {E : Value → Shared → Prop} {s : Shared}
theorem sdf_pairs {d : Addr} {kvs : List (K × Value)} {k : K} {key dflt : Value} {Q : Value → Shared → Prop} (hkey : knd.is k key = true) (hm : s.heap.DictOf knd d kvs) (hsz : kvs.length ≤ sizeLine)
    (hthere : ∀ v, valueAt kvs k = some v → Q v { s with toks := s.toks + 1 })
    (hnew : valueAt kvs k = none → ∀ h', h'.DictOf knd d (stored kvs k dflt) → Heap.SameBut d s.heap h' → Q dflt { s with heap := h', toks := s.toks + 1 }) :
    wpAny (model prog w) A (dictSetDefault d key dflt) Q E s := by
  have hm0 := hm.mapOf
  obtain ⟨o, es, ep, ho, hc, hd, hk, hp, hn⟩ := hm
  have hes : es.size ≤ sizeLine := by
    have e1 := hp.length
    have e2 : es.toList.length = es.size := by simp
    omega
  have hf : ∀ x, findBy knd.is es x = valueAt kvs x := fun x => by
    rw [← hp.find x]
    obtain ⟨l⟩ := es
    simp [findBy]
  unfold dictSetDefault
  try with_reducible refine wpAny_holding ?_
  refine wpAny_bind (knd.pyHash hkey ?_)
  refine wpAny_bind (wpAny_dictFind_of (s := { s with toks := s.toks + 1 }) hkey ho hd hk ?_)
  have hidx : (es.findIdx? fun e => knd.is k e.key) = kvs.findIdx? fun kv => decide (kv.1 = k) := by
    rw [← hp.findIdx k]; obtain ⟨l⟩ := es; simp
  cases hi : es.findIdx? fun e => knd.is k e.key with
  | some i =>
    have hfk : valueAt kvs k = (es[i]?).map (·.val) := by rw [← hf k, findBy_of_findIdx?, hi]
    refine wpAny_bind (wpAny_dictEntries (s := { s with toks := s.toks + 1 }) ho hd ?_)
    cases he : es[i]? with
    | none =>
      exfalso
      have := Array.findIdx?_eq_some_iff_findIdx_eq.mp hi
      have hlt : i < es.size := this.1
      rw [Array.getElem?_eq_getElem hlt] at he
      exact nomatch he
    | some e =>
      rw [he] at hfk
      exact wpAny_bind (wpAny_rule (wpAny_pure (hthere e.val hfk)))
  | none =>
    have hfk : valueAt kvs k = none := by rw [← hf k, findBy_of_findIdx?, hi]
    have hnot : k ∉ kvs.map (·.1) := not_mem_of_findIdx_none (hidx ▸ hi)
    have hany : ¬ (kvs.any fun kv => decide (kv.1 = k)) = true := by
      rw [List.any_eq_true]; rintro ⟨kv, hkv, he⟩
      exact hnot (List.mem_map.mpr ⟨kv, hkv, of_decide_eq_true he⟩)
    refine wpAny_bind (wpAny_rule (wpAny_bind (wpAny_updateDictKeys (hz := hes) (s := { s with toks := s.toks + 1 }) ho hd (wpAny_pure (hnew hfk _ ⟨_, _, ep + 1, Heap.get?_update_self _ ho (Obj.isFreed_of_dict (Obj.data_mapDictKeys hd _)),
      hc.mapDictKeys _, Obj.data_mapDictKeys hd _, hk.push hkey _, ?_, ?_⟩ (Heap.SameBut.update ..))))))
    · rw [stored, if_neg hany]
      have := hp.append hkey (knd.hash k) dflt
      obtain ⟨l⟩ := es
      simpa using this
    · rw [stored, if_neg hany, List.map_append, List.nodup_append]
      refine ⟨hn, by simp, ?_⟩
      intro a ha b hb
      simp only [List.map_cons, List.map_nil, List.mem_singleton] at hb
      subst hb
      exact fun e => hnot (e ▸ ha)
theorem meets_sdf (knd : KeyKind prog w K) {k : K} {key : Value} (d : Addr) (hkey : knd.is k key = true) (hd : (d == sysModules) = false) (dflt : Value) :
    MeetsIn prog w (Builtin.«dict.setdefault» ⟨[.ref d, key, dflt], []⟩) (fun _ R s => ∃ kvs, s.heap.DictOf knd d kvs ∧ kvs.length ≤ sizeLine ∧
      (∀ v, valueAt kvs k = some v → R (.ok (.ret v)) { s with toks := s.toks + 1 }) ∧
      (valueAt kvs k = none → ∀ h', h'.DictOf knd d (stored kvs k dflt) → Heap.SameBut d s.heap h' → R (.ok (.ret dflt)) { s with heap := h', toks := s.toks + 1 })) :=
  .of_wp fun A R s ⟨kvs, hm, hz, h1, h2⟩ => by
    unfold Builtin.«dict.setdefault»
    refine wpAny_bind ?_
    unfold Builtin.Dict.keyAndDefault
    refine wpAny_bind (wpAny_notOrdered_dict hm.typeIs ?_)
    show wpAny _ _ (pure (d, key, some dflt)) _ _ s
    refine wpAny_pure ?_
    show wpAny _ _ (if (d == sysModules) = true then _ else (dictSetDefault d key dflt >>= _)) _ _ s
    rw [if_neg (by rw [hd]; exact Bool.false_ne_true)]
    exact wpAny_bind (sdf_pairs hkey hm hz (fun v hv => wpAny_pure ⟨v, rfl, h1 v hv⟩) fun hn h' hm' hs' => wpAny_pure ⟨dflt, rfl, h2 hn h' hm' hs'⟩)
end
section
variable {X : Cx} {pins : List (Addr × Obj)} {σ : L2.St} {H : Hp} {s : Shared} {a : Addr} {A : Around} {E : Value → Shared → Prop}
theorem d_sdf {kvs : List (Key × V)} {k : Key} {z : V} {u r : Value} {Q : Value → Shared → Prop} (I : Inv X pins σ H s) (e : H a = some (.dK kvs)) (lt : kvs.length < sizeLine) (ry : RelV (kV k) u) (rz : RelV z r)
    (h1 : ∀ v w' s', valV kvs k = some v → Inv X pins σ H s' → RelV v w' → Q w' s') (h2 : ∀ s', valV kvs k = none → Inv X pins σ (upd H a (.dK (putK kvs k z))) s' → Q r s') :
    wpAny (model X.prog X.w) A (call (.builtin "dict.setdefault") [.ref a, u, r]) Q E s := by
  obtain ⟨zz, hd, vs, rel, dd⟩ := dk_of I.hok e
  have hz : vs.length ≤ sizeLine := by rw [← rel.length]; exact zz
  refine call_meetsIn PySem.F.slot_dict_setdefault dd.typeIs PySem.F.entry_dict_setdefault (PySem.F.args_dict_setdefault_3 _ _ _) (meets_sdf (mixKind X.prog X.w) a (kV_is ry) hd r) ⟨vs, dd, hz, fun w' hw => ?_, fun hn h' dd' hs => ?_⟩
  · have q := rel.val k
    rw [hw] at q
    cases ev : valV kvs k with
    | none =>
      rw [ev] at q
      exact absurd q (fun z => by cases z)
    | some v =>
      rw [ev] at q
      exact h1 v w' _ ev (I.tok _) q
  · have ev : valV kvs k = none := by
      have q := rel.val k
      rw [hn] at q
      cases ev : valV kvs k with
      | none => rfl
      | some v =>
        rw [ev] at q
        exact absurd q (fun z => by cases z)
    have he : ∃ q, h'.get? a = some q := let ⟨q, _, _, hq, _⟩ := dd'; ⟨q, hq⟩
    have hl : (putK kvs k z).length ≤ sizeLine := by have := length_putK kvs k z; omega
    exact h2 _ ev (d_write I (by rw [e]; exact True.intro) hs he (dk_new hl hd (rel.put k rz) dd'))
end
end Sdf
/-- d.setdefault(k, x) -/
def tSdf (td ty tx : TE) : TE := fun σ H Q => td σ H fun x H1 => ∃ a, x = .ref a ∧ IsD H1 a ∧ ty σ H1 fun y H2 => tx σ H2 fun z H3 => ∃ kvs k, H3 a = some (.dK kvs) ∧ y = kV k ∧ kvs.length < sizeLine ∧
  (∀ v, valV kvs k = some v → Q v H3) ∧ (valV kvs k = none → Q z (upd H3 a (.dK (putK kvs k z))))
theorem pe_sdf {X : Cx} {o e f : Expr} {apos cpos : Pos} {td ty tx : TE} (ho : PE X o td) (he : PE X e ty) (hf : PE X f tx) (m : M2 X o "setdefault" apos e f cpos) : PE X (.Call (.Attribute o "setdefault" apos) [e, f] [] cpos) (tSdf td ty tx) := by
  refine ⟨fun pins s σ H Q I h => ?_⟩
  refine wpAny_Call_method m.base m.few m.line PySem.F.plainAttrs_dict PySem.F.slot_dict_setdefault PySem.F.type_dict_setdefault (thn (ho.run pins s σ H _ I h) fun u s1 ⟨x, H1, I1, rx, a, ex, d, q1⟩ => ?_)
  subst ex
  obtain rfl : u = Value.ref a := rx
  obtain ⟨t1, t2, _⟩ := isD_at I1 d
  refine ⟨t1, t2, ?_⟩
  rw [m.trees]
  refine Calls.callWith_builtin rfl (Calls.evalArgs_plain (Calls.spliced_cons (thn (he.run pins s1 σ H1 _ I1 q1) fun iv s2 ⟨y, H2, I2, ry, q2⟩ =>
    Calls.spliced_cons (thn (hf.run pins s2 σ H2 _ I2 q2) fun fv s3 ⟨z, H3, I3, rz, kvs, k, hd, ey, lt, qa, qb⟩ => Calls.spliced_nil ?_))))
  subst ey
  exact Sdf.d_sdf I3 hd lt ry rz (fun v w' s4 ev I4 rw' => ⟨_, H3, I4, rw', qa v ev⟩) fun s4 ev I4 => ⟨_, _, I4, rz, qb ev⟩
/-- list(d.values()) -/
theorem call_listVals {X : Cx} (hc : X.calm = true) : CallR X (.type "list") (fun xs H Q => ∃ (v d : Addr) (kvs : List (Key × V)), xs = [.ref v] ∧ H v = some (valsO v d) ∧ H d = some (.dK kvs) ∧ ∀ q, H q = none → Q (.ref q) (upd H q (.lst (kvs.map (·.2))))) := by
  rintro pins s σ H xs us Q I r ⟨v, d, kvs, rfl, hv, hd, q⟩
  obtain ⟨u, eu, rx⟩ := vals1 r
  subst eu
  obtain rfl : u = Value.ref v := rx
  obtain ⟨ev, _, _⟩ := I.hok v _ hv
  obtain ⟨z, lo, vs, rk, hdd⟩ := (show ObjOk X.prog X.w H s.heap d (.dK kvs) from I.hok d _ hd)
  obtain ⟨ep, hat⟩ := hdd.dictAt
  have hl : kvs.length = vs.length := Paired.length rk
  refine PySem.W.kdl_call (PySem.W.kdl_values (knd := mixKind X.prog X.w) (kvs := vs) (ep := ep)) (I.ok.hd hc) ⟨⟨_, ev, rfl, rfl⟩, hat⟩ (by rw [← hl]; exact z) fun h' tk acc' c' hkeep hS hacc => ?_
  refine ⟨.ref s.heap.objs.size, upd H s.heap.objs.size (.lst (kvs.map (·.2))), I.laid hkeep (Nat.le_refl _) (show ObjOk X.prog X.w _ _ _ (.lst (kvs.map (·.2))) from ⟨?_, acc'.toList, c', ?_, ?_⟩), rfl, q _ (I.hok.fresh (Nat.le_refl _))⟩
  · rw [List.length_map]; exact z
  · have el : acc'.toList.length = acc'.size := by simp
    refine vals_of_at (by rw [List.length_map, el, hacc.1, hl]) fun j x w h1 h2 => ?_
    obtain ⟨k, hky⟩ := hacc.2 j w (by rw [← Array.getElem?_toList]; exact h2)
    obtain ⟨y, hy, ry⟩ := KV.at' rk hky
    rw [List.getElem?_map, hy] at h1
    rw [← Option.some.inj h1]
    exact ry
  · rw [Array.toArray_toList]; exact hS
/-! a list or a tuple -/
def LT (H : Hp) (a : Addr) (xs : List V) : Prop := H a = some (.lst xs) ∨ H a = some (.tup xs)
theorem LT.by {H H' : Hp} {a : Addr} {xs : List V} (h : LT H a xs) (k : ∀ o, H a = some o → (∀ ps, o ≠ .tbl ps) → H' a = some o) : LT H' a xs := h.imp (fun e => k _ e fun _ z => nomatch z) fun e => k _ e fun _ z => nomatch z
theorem LT.on {H H' : Hp} {a : Addr} {xs : List V} (h : LT H a xs) (s : Same H H') : LT H' a xs := h.imp (fun e => s _ _ e) fun e => s _ _ e
abbrev iSeq (K : PySem.W.Frag) (tl : TE) : TI := fun σ H R => iList K tl σ H R ∨ iTup K tl σ H R
theorem pi_seq {X : Cx} {tg l : Expr} {tl : TE} (hl : PE X l tl) : PI X tg l (iSeq X.K tl) := ⟨fun pins s σ H R I h => h.elim ((pi_list hl).run pins s σ H R I) ((pi_tup hl).run pins s σ H R I)⟩
structure Over (J : It) (xs : List V) (At : Hp → Prop) : Prop where
  go : ∀ i H x, At H → xs[i]? = some x → J.go i H
  yld : ∀ i H y H', At H → J.yld i H y H' → H' = H ∧ xs[i]? = some y
  stop : ∀ i H, At H → xs.length ≤ i → J.stop i H
theorem over_l {K : PySem.W.Frag} {a : Addr} {xs : List V} : Over (Itl K a) xs (fun H => SqL K H a xs) :=
  ⟨fun i H x h e => ⟨xs, x, h, e⟩, fun i H y H' h z => ⟨z.1, z.2 xs h⟩, fun i H h e => ⟨xs, h, e⟩⟩
theorem over_t {K : PySem.W.Frag} {a : Addr} {xs : List V} : Over (Itt K a) xs (fun H => SqT K H a xs) :=
  ⟨fun i H x h e => ⟨xs, x, h, e⟩, fun i H y H' h z => ⟨z.1, z.2 xs h⟩, fun i H h e => ⟨xs, h, e⟩⟩
/-- all(.. for x in xs), its iterator being there -/
theorem all_over {J : It} {At : Hp → Prop} {T : Addr} {xs : List V} {g : TG} {tt : TT} {te : TE} {vs : List Nat} {σ : L2.St} {H : Hp} {Q : VK} (o : Over J xs At) (W : Nat → Hp → Prop) (tg : GxR.TabG H T) (h0 : ∀ H2, GxR.Tabbed T H H2 → W 0 H2) (hl : ∀ i H', i ≤ xs.length → W i H' → At H')
    (step : ∀ i x H' (Go : Hp → Prop), xs[i]? = some x → W i H' → (∀ H4, W (i + 1) H4 → Go H4) → g x (wipe σ vs) H' fun σ2 H2 => wipe σ2 vs = wipe σ vs ∧ tt σ2 H2 fun b H3 => if b = true then te σ2 H3 fun y H4 => ∃ k, y = .bl k ∧ (if k = true then Go H4 else Q (.bl false) H4) else Go H3)
    (done : ∀ H', W xs.length H' → Q (.bl true) H') :
    GxR.TabG H T ∧ ∀ H2, GxR.Tabbed T H H2 → ∃ W : Nat → Nat → Hp → Prop, (∃ m, W 0 m H2) ∧
      GTurns J g tt te vs σ W (fun i m y H' => ∃ k, y = .bl k ∧ (if k = true then ∃ m', m' < m ∧ W (i + 1) m' H' else Q (.bl false) H')) (fun H' => Q (.bl true) H') := by
  refine ⟨tg, fun H2 tb => ⟨fun i m H' => m = xs.length - i ∧ i ≤ xs.length ∧ W i H', ⟨_, rfl, Nat.zero_le _, h0 H2 tb⟩, ?_⟩⟩
  rintro i m H3 ⟨rfl, hi, w3⟩
  by_cases lt : i < xs.length
  · refine .inr ⟨o.go i H3 xs[i] (hl i H3 hi w3) (List.getElem?_eq_getElem lt), fun x H' y => ?_⟩
    obtain ⟨rfl, hx⟩ := o.yld i H3 x H' (hl i H3 hi w3) y
    exact step i x _ (fun H' => ∃ m', m' < xs.length - i ∧ m' = xs.length - (i + 1) ∧ i + 1 ≤ xs.length ∧ W (i + 1) H') hx w3 fun H4 w4 => ⟨_, by omega, rfl, lt, w4⟩
  · have ei : i = xs.length := by omega
    exact .inl ⟨o.stop i H3 (hl i H3 hi w3) (by omega), done H3 (ei ▸ w3)⟩
theorem all_seq {K : PySem.W.Frag} {T l : Addr} {xs : List V} {g : TG} {tt : TT} {te : TE} {vs : List Nat} {σ : L2.St} {H : Hp} {Q : VK} {k : Nat} (h : LT H l xs) (hv : σ[k]? = some (some (.ref l))) (W : Nat → Hp → Prop) (tg : GxR.TabG H T) (h0 : ∀ H2, GxR.Tabbed T H H2 → W 0 H2) (hl : ∀ i H', i ≤ xs.length → W i H' → ∀ o, H l = some o → (∀ ps, o ≠ .tbl ps) → H' l = some o)
    (step : ∀ i x H' (Go : Hp → Prop), xs[i]? = some x → W i H' → (∀ H4, W (i + 1) H4 → Go H4) → g x (wipe σ vs) H' fun σ2 H2 => wipe σ2 vs = wipe σ vs ∧ tt σ2 H2 fun b H3 => if b = true then te σ2 H3 fun y H4 => ∃ k, y = .bl k ∧ (if k = true then Go H4 else Q (.bl false) H4) else Go H3)
    (done : ∀ H', W xs.length H' → Q (.bl true) H') : tAllG T (iSeq K (tVar k)) g tt te vs σ H Q := by
  rcases h with h | h
  · exact .inl ⟨_, hv, l, rfl, ⟨_, SqL.of h⟩, all_over over_l W tg h0 (fun i H' hi w => SqL.of (hl i H' hi w _ h fun _ z => nomatch z)) step done⟩
  · exact .inr ⟨_, hv, l, rfl, ⟨_, SqT.of h⟩, all_over over_t W tg h0 (fun i H' hi w => SqT.of (hl i H' hi w _ h fun _ z => nomatch z)) step done⟩
theorem for_seq {K : PySem.W.Frag} {l : Addr} {xs : List V} {g : TG} {tb : TS} {D : Ends} {σ : L2.St} {H : Hp} {k : Nat} (h : LT H l xs) (hv : σ[k]? = some (some (.ref l))) (Pv : Nat → L2.St → Hp → Prop) (h0 : Pv 0 σ H) (hl : ∀ i σ H', i ≤ xs.length → Pv i σ H' → ∀ o, H l = some o → (∀ ps, o ≠ .tbl ps) → H' l = some o)
    (hs : ∀ i x σ H, xs[i]? = some x → Pv i σ H → g x σ H fun σ2 H2 => tb { D with nx := Pv (i + 1), ct := Pv (i + 1), bk := D.nx } σ2 H2) (hd : ∀ σ H, Pv xs.length σ H → D.nx σ H) : tFor (iSeq K (tVar k)) g tb D σ H := by
  rcases h with h | h
  · exact .inl ⟨_, hv, l, rfl, ⟨_, SqL.of h⟩, for_list Pv h0 (fun i σ' H' hi w => SqL.of (hl i σ' H' hi w _ h fun _ z => nomatch z)) hs hd⟩
  · exact .inr ⟨_, hv, l, rfl, ⟨_, SqT.of h⟩, for_tup Pv h0 (fun i σ' H' hi w => SqT.of (hl i σ' H' hi w _ h fun _ z => nomatch z)) hs hd⟩
/-! ### sorted(..) of a list of data -/
theorem each_unmap {R : Value → PyData → Prop} {f : V × PyData → PyData} : ∀ {es : List (V × PyData)} {us : List Value}, PySem.W.EachIs R us (es.map f) → PySem.W.EachIs (fun v e => R v (f e)) us es
  | [], _, .nil => .nil
  | _ :: _, _, .cons a t => .cons a (each_unmap t)
theorem cr_sortD {X : Cx} (hu : X.A.units + 64 < cLine) : CallR X (.builtin "sorted") (fun vs H Q => ∃ (l : Addr) (es : List (V × PyData)), vs = [.ref l] ∧ SqL X.K H l (es.map (·.1)) ∧ DpAll X.K H (es.map (·.1)) (es.map (·.2)) ∧ PySem.W.AllAlike (es.map (·.2)) ∧ PySem.W.Sortable (es.map (·.2)) ∧
    (∀ e ∈ es, e.2.depth ≤ 60) ∧ ∀ p, H p = none → Q (.ref p) (upd H p (.lst ((keyed es).map (·.1))))) := by
  rintro pins s σ H vs us Q I r ⟨l, es, rfl, hs, dp, al, so, de, q⟩
  obtain rfl := Vals.ref1 r
  obtain ⟨its, rv, hl, hz⟩ := I.list hs
  have hlen : its.length = es.length := by rw [← rv.length, List.length_map]
  have hL : es.length ≤ sizeLine := by rw [← hlen, ← rv.length]; exact hz
  refine PySem.W.sorted_data (R := fun v (e : V × PyData) => RelV e.1 v) (enc := fun e : V × PyData => e.2) hl.isList (each_pairs rv) (each_unmap (each_dp I dp rv)) al so hL (fun b hb => ?_) fun out lo eo => ?_
  · have := de b hb
    omega
  · obtain ⟨c, hc⟩ := sortedAll_at s.heap its out.toArray
    have l2 : ((keyed es).map (·.1)).length ≤ sizeLine := by
      rw [List.length_map, List.length_mergeSort]
      exact hL
    exact ⟨.ref (s.heap.objs.size + 1), upd H (s.heap.objs.size + 1) (.lst ((keyed es).map (·.1))), I.laid (t' := s.toks) (fun b o => sortedAll_old) (Nat.le_succ _) ⟨l2, out, c, pairs_each eo, hc⟩, rfl, q _ (I.hok.fresh (Nat.le_succ _))⟩
/-! their text isn't long -/
theorem toString_neg (i : Int) (h : i < 0) : (toString i).length ≤ (toString (-i)).length + 1 := by
  obtain ⟨n, rfl⟩ : ∃ n : Nat, i = -((n + 1 : Nat) : Int) := ⟨(-i).toNat - 1, by omega⟩
  rw [Int.neg_neg]
  show ("-" ++ toString (n + 1)).length ≤ (toString (n + 1)).length + 1
  rw [String.length_append]
  have : ("-" : String).length = 1 := rfl
  omega
theorem short_big {i : Int} (h0 : -100000000000 < i) (h1 : i < 100000000000) : Short (.int i) 8 0 := by
  have e : (PyData.shown (.int i)).length ≤ 13 := by
    by_cases z : 0 ≤ i
    · exact Nat.le_trans (toString_length_le z (k := 11) (by decide) (by omega)) (by decide)
    · show (Str.ofString (toString i)).length ≤ 13
      have h := toString_length_le (v := -i) (by omega) (k := 11) (by decide) (by omega)
      rw [PySem.ofString_length] at h ⊢
      have := toString_neg i (by omega)
      omega
  refine ⟨?_, rfl, decide_eq_true e, Nat.zero_le _, Nat.zero_le _⟩
  show decide (i.natAbs.log2 < 1920) = true
  refine decide_eq_true ?_
  by_cases z : i.natAbs = 0
  · rw [z]
    decide
  · exact Nat.lt_trans ((Nat.log2_lt z).mpr (show i.natAbs < 2 ^ 40 by omega)) (by decide)
theorem short_lst {n k m : Nat} {ds : List PyData} (h : ∀ d ∈ ds, Short d n k) (l : ds.length * (n + 1) ≤ m) : Short (.list ds) m (k + 1) := by
  obtain ⟨a1, a2, a3, a4, a5⟩ := short_all h
  refine ⟨?_, ?_, ?_, ?_, ?_⟩
  · rw [PyData.showable]; exact a1
  · rw [PyData.hasDict]; exact a2
  · rw [PyData.leavesShort]; exact a3
  · rw [PyData.bulk]; omega
  · rw [PyData.depth]; omega
theorem Short.fits2 {d : PyData} {n k : Nat} (h : Short d n k) (hn : n ≤ 400000) : d.shown.length ≤ sizeLine := by
  have q := PyData.shown_le_bulk 13 (by decide) d h.ls
  have := h.bk
  rw [sizeLine_eq]
  omega
/-! ### rising_names -/
theorem seq_l {K : PySem.W.Frag} : PySem.W.kitAny K (.type "list") [.type "list", .type "tuple"] = some true := by
  simp only [PySem.W.kitAny, kit_ty (show kitB "list" "list" = some true by decide +kernel)]
theorem seq_t {K : PySem.W.Frag} : PySem.W.kitAny K (.type "tuple") [.type "list", .type "tuple"] = some true := by
  simp only [PySem.W.kitAny, kit_ty (show kitB "tuple" "list" = some false by decide +kernel), kit_ty (show kitB "tuple" "tuple" = some true by decide +kernel)]
theorem is_lt {K : PySem.W.Frag} {H : Hp} {a : Addr} {xs : List V} (h : LT H a xs) : ∃ t, TyX K H (.ref a) t ∧ PySem.W.kitAny K t [.type "list", .type "tuple"] = some true := by
  rcases h with h | h
  · exact ⟨_, .base (.lst h), seq_l⟩
  · exact ⟨_, .base (.tup h), seq_t⟩
abbrev clsLT : Paired ClsV [V.ty "list", V.ty "tuple"] [.type "list", .type "tuple"] := .cons (.ty "list") (.cons (.ty "tuple") .nil)
def spRising (Ts : List Addr) : Sp := fun vs H Q _ => ∃ (l : Addr) (xs : List Str) (most : Int), vs = [.ref l, .int most] ∧ LT H l (xs.map V.str) ∧ (∀ y ∈ xs, nameB y = true) ∧ xs.length ≤ 1000 ∧ 1 ≤ (onceR xs).length ∧ ((onceR xs).length : Int) ≤ most ∧ most ≤ 60 ∧ TabsG Ts H ∧
  ∀ (tp : Addr) (ys : List Str) (H' : Hp), ys.Perm (onceR xs) → sortedS ys = true → TB1 Ts H H' → H' tp = some (.tup (ys.map V.str)) → Q (.ref tp) H'
section
variable {P : Program} {w : World} {K : PySem.W.Frag} {mg : Str → Option Value} {base : Heap}
abbrev sRisingN : List Str := ["things", "most", "names", "thing"]
theorem sc_sRising : FnScope sRisingN ["things", "most"] (defScope sRising) := ⟨rfl, rfl, rfl, by decide +kernel, rfl, by decide +kernel, by decide +kernel⟩
theorem ok_rising {f cR T1 T3 fN : Addr} {Ts : List Addr} {dN : FuncData} {oc kV doc pm ct : Value} {od an : Option Addr} {osl : Array (Option Value)}
    (lk : K.lookup f = some ⟨oc, od, .func (PySem.W.fnOf "rising_names" "rising_names" (defArgs sRising) (defBody sRising) (defScope sRising) .none kV doc pm an (.ref cR) ct), osl⟩) (cdI : PySem.W.codeIn K (.ref cR) "rising_names" = true)
    (TB : GxR.TabB base mg cR T3) (i1 : T1 ∈ Ts) (i3 : T3 ∈ Ts) (NM : DefT P w K mg base "is_name" 1 fN dN ["thing"] (spName K T1))
    (mis : mg "isinstance" = none) (mT_list : mg "list" = none) (mT_tuple : mg "tuple" = none) (ml : mg "len" = none) (mal : mg "all" = none) (ms : mg "sorted" = none) (mse : mg "set" = none) :
    FnOk P w K mg base CX0 3 f (PySem.W.fnOf "rising_names" "rising_names" (defArgs sRising) (defBody sRising) (defScope sRising) .none kV doc pm an (.ref cR) ct) ["things", "most"] (spRising Ts) := by
  refine fn_of lk cdI sc_sRising (fun vs H Q E h => ?_) (fun A outer s H vs Q E hr h => ?_)
  · obtain ⟨l, xs, most, rfl, _⟩ := h
    rfl
  · obtain ⟨l, xs, most, rfl, hl, nm, lx, o1, o2, o3, tg, q⟩ := h
    have nd := sc_sRising.nd
    refine ⟨_, pss_cons (ps_if (pt_not (pt_val (pe_callB call_isiT (by rfl) mis (by decide +kernel) (pa_cons (pv 0) (pa_cons (pe_tup (pa_cons (pe_bltn (v := .ty "list") (u := .type "list") (by rfl) mT_list (by decide +kernel) rfl) (pa_cons (pe_bltn (v := .ty "tuple") (u := .type "tuple") (by rfl) mT_tuple (by decide +kernel) rfl) pa_nil))) pa_nil))))) (pss_one ps_never) pss_nil)
      (pss_cons (ps_if (pt_not (pt_val (pe_allG (T := T3) (c := cR) (k := 1) (own := [("thing", 3)]) (g := gName 3) (tt := tYes) (te := tCall (spName K T1) [] E0 (tCons (tVar 3) tNil))
          hr (by rfl) mal rfl nd TB rfl ⟨blkOk_by (N := sRisingN) (sc := defScope sRising) (by decide +kernel), rfl, by decide +kernel, rfl⟩
          (pi_seq (pv 0)) (fun _ _ _ _ _ _ => pg_name (i := 3) nd rfl (Or.inl rfl)) (fun _ _ _ _ _ _ _ => pts_nil) (fun _ _ _ _ _ _ hr' => pe_call NM.ok hr' (by rfl) NM.g NM.kp NM.b .nil pass0 (pa_cons (pv 3) pa_nil))))) (pss_one ps_never) pss_nil)
      (pss_cons (ps_set (i := 2) nd rfl (Or.inl rfl) (pe_callTy call_tuple_of (by rfl) mT_tuple (by decide +kernel) (pa_cons (pe_sortSet rfl (by rfl) ms (by rfl) mse (pv 0)) pa_nil)))
      (pss_cons (ps_if (pt_not (pt_chain op_le op_le pe_int (pe_callB call_len_seq (by rfl) ml PySem.boot_len (pa_cons (pv 2) pa_nil)) (pv 1))) (pss_one ps_never) pss_nil)
      (pss_one (ps_ret (pv 2)))))), ?_⟩
    refine ⟨_, rfl, (by show 2 ≤ sizeLine; decide), fun tq ntq => ?_⟩
    have s0 := @same_new _ _ (.tup [V.ty "list", V.ty "tuple"]) ntq
    have hl0 := hl.on s0
    have tg0 := tabs_sm s0 tg
    have b0 : TB1 Ts H (upd H tq (.tup [V.ty "list", V.ty "tuple"])) := .same tg s0
    obtain ⟨t, ty, kt⟩ := is_lt (K := K) hl0
    refine ⟨_, tq, _, t, _, true, rfl, upd_same, clsLT, ty, kt, _, rfl, iteF ?_⟩
    generalize upd H tq (.tup [V.ty "list", V.ty "tuple"]) = H1 at hl0 tg0 b0
    clear ty kt
    -- all are names
    dsimp only [tNext, tSeq, tIfS, tNot, tB]
    refine all_seq (k := 0) hl0 rfl (fun _ H' => TB1 Ts H1 H') (tg0 T3 i3) (fun H2 tb => TB1.tab tb tg0 i3) (fun i H' _ b o e n => b.2 _ _ e n) ?_ ?_
    · intro i x H' Go hx b go
      rw [List.getElem?_map] at hx
      obtain ⟨y, hy, rfl⟩ := Option.map_eq_some_iff.mp hx
      have ny := nm y (List.mem_of_getElem? hy)
      refine ⟨rfl, yesT ⟨_, rfl, _, rfl, b.1 T1 i1, .inl ⟨y, rfl, small_sz (by have := name_len ny; omega), fun H3 tb => ?_⟩⟩⟩
      rw [ny]
      exact ⟨true, rfl, iteT (go _ (b.tr (.tab tb b.1 i1)))⟩
    · intro H2 b2
      refine ⟨true, rfl, iteF ?_⟩
      have hl2 : LT H2 l (xs.map V.str) := hl0.by fun o e n => b2.2 _ _ e n
      refine ⟨_, rfl, l, xs, rfl, hl2.symm.imp (fun h => SqT.of h) (fun h => SqL.of h), by omega, lx, fun ys p pm so np => ?_⟩
      refine ⟨p, _, rfl, .inl ⟨SqL.of upd_same, fun tp ntp => ?_⟩⟩
      have s3 := (@same_new _ _ (.lst (ys.map V.str)) np).trans (@same_new _ _ (.tup (ys.map V.str)) ntp)
      have ly : ys.length = (onceR xs).length := pm.length_eq
      have z1 : decide ((1 : Int) ≤ ((ys.map V.str).length : Int)) = true := decide_eq_true (by rw [List.length_map, ly]; omega)
      have z2 : decide (((ys.map V.str).length : Int) ≤ most) = true := decide_eq_true (by rw [List.length_map, ly]; omega)
      refine ⟨_, rfl, tp, _, rfl, .inr (SqT.of upd_same), 1, _, rfl, rfl, _, rfl, ?_⟩
      rw [z1]
      refine iteT ⟨_, rfl, _, most, rfl, rfl, _, rfl, ?_⟩
      rw [z2]
      exact iteF ⟨_, rfl, q tp ys _ pm so (b0.tr (b2.tr (.same b2.1 s3))) upd_same⟩
end
theorem inV_iff {x : Str} {ys : List Str} : inV (.str x) (ys.map V.str) = decide (x ∈ ys) := by
  unfold inV
  rw [List.any_map]
  by_cases h : x ∈ ys
  · rw [decide_eq_true h]
    exact List.any_eq_true.mpr ⟨x, h, by show (x == x) = true; simp⟩
  · rw [decide_eq_false h, List.any_eq_false]
    intro y hy z
    have z' : (y == x) = true := z
    exact h (eq_of_beq z' ▸ hy)
theorem all_flat (ys : List Str) : (ys.map V.str).all flatV = true := by
  rw [List.all_map]
  exact List.all_eq_true.mpr fun y _ => rfl
theorem scal_good (e : Ent) (g : Str) : scal e.goodV (.str g) = true := by cases e <;> rfl
/-! ### is_entry_of -/
theorem TB1.of2 {Ts : List Addr} {T1 T2 : Addr} {H H' : Hp} (g : TabsG Ts H) (i1 : T1 ∈ Ts) (i2 : T2 ∈ Ts) (b : TB2 T1 T2 H H') : TB1 Ts H H' := by
  have n1 : ∀ {a o}, H a = some o → (∀ ps, o ≠ .tbl ps) → a ≠ T1 ∧ a ≠ T2 := fun {a o} e n => by
    obtain ⟨p1, e1, _⟩ := g T1 i1
    obtain ⟨p2, e2, _⟩ := g T2 i2
    exact ⟨ne_of e e1 (n p1), ne_of e e2 (n p2)⟩
  refine ⟨fun T hT => ?_, fun a o e n => b.1 a o e (n1 e n).1 (n1 e n).2, fun a n => ?_⟩
  · by_cases z1 : T = T1
    · rw [z1]; exact b.2.1
    · by_cases z2 : T = T2
      · rw [z2]; exact b.2.2
      · obtain ⟨ps, e, ok⟩ := g T hT
        exact ⟨ps, b.1 T _ e z1 z2, ok⟩
  · cases e : H a with
    | none => rfl
    | some o =>
      by_cases z1 : a = T1
      · obtain ⟨ps, e1, _⟩ := b.2.1
        rw [z1, e1] at n
        cases n
      · by_cases z2 : a = T2
        · obtain ⟨ps, e1, _⟩ := b.2.2
          rw [z2, e1] at n
          cases n
        · rw [b.1 a o e z1 z2] at n
          cases n
theorem take_sn {α : Type} {l : List α} {i : Nat} {x : α} (h : l[i]? = some x) : l.take (i + 1) = l.take i ++ [x] := by
  rw [List.take_add_one, h]
  rfl
def goodOk (e : Ent) (G : List Str) : Bool := match e.goodV with | .str g => decide (g ∈ G) | _ => true
def ofB (e : Ent) (P G : List Str) : Bool := goodOk e G && e.places.all fun y => decide (y ∈ P)
def spIsEntryOf (Ts : List Addr) : Sp := fun vs H Q _ => ∃ (a pl gl : Addr) (e : Ent) (P G : List Str), vs = [.ref a, .ref pl, .ref gl] ∧ H a = some (.tup e.vals) ∧ e.Fine ∧ H pl = some (.tup (P.map V.str)) ∧ H gl = some (.tup (G.map V.str)) ∧ TabsG Ts H ∧
  ∀ H', TB1 Ts H H' → Q (.bl (ofB e P G)) H'
theorem goodV_cases (e : Ent) : e.goodV = .non ∨ ∃ g, e.goodV = .str g := by cases e <;> first | exact .inl rfl | exact .inr ⟨_, rfl⟩
section
variable {P : Program} {w : World} {K : PySem.W.Frag} {mg : Str → Option Value} {base : Heap}
abbrev sIsEntryOfN : List Str := ["thing", "places", "goods", "good", "place"]
theorem sc_sIsEntryOf : FnScope sIsEntryOfN ["thing", "places", "goods"] (defScope sIsEntryOf) := ⟨rfl, rfl, rfl, by decide +kernel, rfl, by decide +kernel, by decide +kernel⟩
theorem ok_isEntryOf {f cR T1 T2 T4 fI fG fP : Addr} {Ts : List Addr} {dI dG dP : FuncData} {oc kV doc pm ct : Value} {od an : Option Addr} {osl : Array (Option Value)}
    (lk : K.lookup f = some ⟨oc, od, .func (PySem.W.fnOf "is_entry_of" "is_entry_of" (defArgs sIsEntryOf) (defBody sIsEntryOf) (defScope sIsEntryOf) .none kV doc pm an (.ref cR) ct), osl⟩) (cdI : PySem.W.codeIn K (.ref cR) "is_entry_of" = true)
    (TB : GxR.TabB base mg cR T4) (i1 : T1 ∈ Ts) (i2 : T2 ∈ Ts) (i4 : T4 ∈ Ts) (IE : DefT P w K mg base "is_entry" 4 fI dI ["thing"] (spIsEntry T1 T2)) (GO : DefT P w K mg base "good_of" 1 fG dG ["entry"] spGood) (PO : DefT P w K mg base "places_of" 1 fP dP ["entry"] spPlaces)
    (mal : mg "all" = none) :
    FnOk P w K mg base CX0 5 f (PySem.W.fnOf "is_entry_of" "is_entry_of" (defArgs sIsEntryOf) (defBody sIsEntryOf) (defScope sIsEntryOf) .none kV doc pm an (.ref cR) ct) ["thing", "places", "goods"] (spIsEntryOf Ts) := by
  refine fn_of lk cdI sc_sIsEntryOf (fun vs H Q E h => ?_) (fun A outer s H vs Q E hr h => ?_)
  · obtain ⟨a, pl, gl, e, Ps, G, rfl, _⟩ := h
    rfl
  · obtain ⟨a, pl, gl, e, Ps, G, rfl, ha, fi, hp, hg, tg, q⟩ := h
    have nd := sc_sIsEntryOf.nd
    have hr1 : Room 1 _ := hr.mono (by decide)
    refine ⟨_, pss_cons (ps_if (pt_not (pt_val (pe_call IE.ok hr (by rfl) IE.g IE.kp IE.b .nil pass0 (pa_cons (pv 0) pa_nil)))) (pss_one (ps_ret pe_bl)) pss_nil)
      (pss_cons (ps_set (i := 3) nd rfl (Or.inl rfl) (pe_call GO.ok hr1 (by rfl) GO.g GO.kp GO.b .nil pass0 (pa_cons (pv 0) pa_nil)))
      (pss_cons (ps_if (PW.pt (pw_and (pt_cmpR op_notN (pv 3) pe_non (by rfl)) (pw_and1 (pt_cmpR op_notIn_seq (pv 3) (pv 2) (by rfl))))) (pss_one (ps_ret pe_bl)) pss_nil)
      (pss_one (ps_ret (pe_allG (T := T4) (c := cR) (k := 1) (own := [("place", 4)]) (g := gName 4) (tt := tYes) (te := tOp (rIn K false) (tVar 4) (tVar 1))
          (hr.mono (by decide)) (by rfl) mal rfl nd TB rfl ⟨blkOk_by (N := sIsEntryOfN) (sc := defScope sIsEntryOf) (by decide +kernel), rfl, by decide +kernel, rfl⟩
          (pi_tup (pe_call PO.ok hr1 (by rfl) PO.g PO.kp PO.b .nil pass0 (pa_cons (pv 0) pa_nil))) (fun _ _ _ _ _ _ => pg_name (i := 4) nd rfl (Or.inl rfl)) (fun _ _ _ _ _ _ _ => pts_nil) (fun _ _ _ _ _ _ _ => pe_cmpR op_in_seq (pv 4) (pv 1) (by rfl))))))), ?_⟩
    refine ⟨_, rfl, a, e, rfl, ha, fi, tg T1 i1, tg T2 i2, fun H1 b => ?_⟩
    have b1 := TB1.of2 tg i1 i2 b
    have ha1 := b1.tk _ _ ha
    have hp1 := b1.tk _ _ hp
    have hg1 := b1.tk _ _ hg
    refine ⟨true, rfl, iteF ⟨_, rfl, a, e, rfl, ha1, ?_⟩⟩
    -- the places
    have last : goodOk e G = true → tRet (tAllG T4 (iTup K (tCall spPlaces [] E0 (tCons (tVar 0) tNil))) (gName 4) tYes (tOp (rIn K false) (tVar 4) (tVar 1)) [4]) { nx := fun x H' => Q V.non H', rt := Q } [some (.ref a), some (.ref pl), some (.ref gl), some e.goodV, none] H1 := fun go => by
      refine ⟨_, rfl, a, e, rfl, ha1, fun tp H4 s4 ht => ⟨tp, rfl, ⟨_, SqT.of ht⟩, ?_⟩⟩
      have b4 := b1.tr (.same b1.1 s4)
      refine all_over (over_t (K := K) (a := tp) (xs := e.places.map V.str)) (fun i H' => TB1 Ts H4 H' ∧ (e.places.take i).all (fun y => decide (y ∈ Ps)) = true) (b4.1 T4 i4) (fun H2 tb => ⟨.tab tb b4.1 i4, rfl⟩) (fun i H' _ b => SqT.of (b.1.tk _ _ ht)) ?_ ?_
      · intro i x H' Go hx b go'
        rw [List.getElem?_map] at hx
        obtain ⟨y, hy, rfl⟩ := Option.map_eq_some_iff.mp hx
        refine ⟨rfl, yesT ⟨_, rfl, _, rfl, pl, Ps.map V.str, rfl, .inr (SqT.of (b.1.tk _ _ (s4 _ _ hp1))), rfl, all_flat _, _, rfl, ?_⟩⟩
        rw [inV_iff]
        by_cases z : y ∈ Ps
        · rw [decide_eq_true z]
          refine iteT (go' _ ⟨b.1, ?_⟩)
          rw [take_sn hy, List.all_append, b.2]
          simp [z]
        · rw [decide_eq_false z]
          refine iteF ?_
          have := q H' (b4.tr b.1)
          rw [show ofB e Ps G = false by
            unfold ofB
            rw [go, Bool.true_and, List.all_eq_false]
            exact ⟨y, List.mem_of_getElem? hy, by simp [z]⟩] at this
          exact this
      · intro H' b
        have := q H' (b4.tr b.1)
        rw [show ofB e Ps G = true by
          unfold ofB
          rw [go, Bool.true_and, ← b.2, List.length_map, List.take_length]] at this
        exact this
    rcases goodV_cases e with eg | ⟨g, eg⟩
    · have go : goodOk e G = true := by unfold goodOk; rw [eg]
      refine ⟨_, rfl, rfl, ?_⟩
      have := last go
      rw [eg] at this ⊢
      exact ⟨_, rfl, iteF this⟩
    · have go : goodOk e G = decide (g ∈ G) := by unfold goodOk; rw [eg]
      refine ⟨_, rfl, rfl, ?_⟩
      rw [eg] at last ⊢
      refine ⟨_, rfl, iteT ⟨_, rfl, _, rfl, gl, G.map V.str, rfl, .inr (SqT.of hg1), rfl, all_flat _, _, rfl, ?_⟩⟩
      rw [inV_iff]
      by_cases z : g ∈ G
      · rw [decide_eq_true z]
        exact iteF (last (by rw [go, decide_eq_true z]))
      · rw [decide_eq_false z]
        refine iteT ?_
        have := q H1 b1
        rw [show ofB e Ps G = false by unfold ofB; rw [go, decide_eq_false z]; rfl] at this
        exact this
end
/-! ### own_entries, in_order, house_of -/
theorem ents_pairs {H : Hp} : ∀ {pr : List (Addr × Ent)}, (∀ x ∈ pr, H x.1 = some (.tup x.2.vals)) → EntsAt H (pr.map (·.1)) (pr.map (·.2))
  | [], _ => .nil
  | x :: r, h => .cons (h x List.mem_cons_self) (ents_pairs fun y hy => h y (List.mem_cons_of_mem _ hy))
def prV (x : Addr × Ent) : V × PyData := (.ref x.1, ordD x.2)
/-- entries in their order -/
def ordLe (a b : Addr × Ent) : Bool := PySem.W.dataLe false id (ordD a.2) (ordD b.2)
def sortE (pr : List (Addr × Ent)) : List (Addr × Ent) := pr.mergeSort ordLe
theorem keyed_prV (pr : List (Addr × Ent)) : keyed (pr.map prV) = (sortE pr).map prV := (List.map_mergeSort (f := prV) (s := PySem.W.dataLe false fun e : V × PyData => e.2) (r := ordLe) (l := pr) fun a _ b _ => rfl).symm
theorem sortE_p (pr : List (Addr × Ent)) : (sortE pr).Perm pr := List.mergeSort_perm _ _
theorem ord_inj {e g : Ent} (h : PySem.W.keyToks (ordD e) = PySem.W.keyToks (ordD g)) : e.name = g.name := by
  have h' : ([.inl 1, .inl e.moment, .inl 1, .inl e.rank, .inl 1, .inr e.name.cps.toList, .inl 0] : List (Int ⊕ List Nat)) = [.inl 1, .inl g.moment, .inl 1, .inl g.rank, .inl 1, .inr g.name.cps.toList, .inl 0] := by
    simpa [ordD, PySem.W.keyToks, PySem.W.keyToksAll] using h
  simp only [List.cons.injEq, Sum.inr.injEq, Sum.inl.injEq, true_and, and_true] at h'
  exact str_ext h'.2.2
theorem dle_iff (a b : PyData) : PySem.W.dataLe false id a b = !PySem.W.dataLt b a := rfl
theorem dlt_asym {a b : PyData} (h : PySem.W.dataLt a b = true) : PySem.W.dataLt b a = false := by
  cases e : PySem.W.dataLt b a with
  | false => rfl
  | true =>
    have := PyProof.Rows.lex_trans (O := PyProof.Rows.itemOrd) _ _ _ h e
    rw [PyProof.Rows.lex_irrefl] at this
    cases this
theorem dle_tr (a b c : PyData) (h1 : PySem.W.dataLe false id a b = true) (h2 : PySem.W.dataLe false id b c = true) : PySem.W.dataLe false id a c = true := by
  rw [dle_iff] at *
  have g1 : PySem.W.dataLt b a = false := by simpa using h1
  have g2 : PySem.W.dataLt c b = false := by simpa using h2
  cases e : PySem.W.dataLt c a with
  | false => rfl
  | true =>
    rcases PyProof.Rows.lex_negTrans (O := PyProof.Rows.itemOrd) _ (PySem.W.keyToks b) _ e with z | z
    · exact absurd (g2.symm.trans z) (by decide)
    · exact absurd (g1.symm.trans z) (by decide)
theorem dle_tot (a b : PyData) : (PySem.W.dataLe false id a b || PySem.W.dataLe false id b a) = true := by
  rw [dle_iff, dle_iff]
  cases e : PySem.W.dataLt b a with
  | false => rfl
  | true => rw [dlt_asym e]; rfl
theorem ordLe_tr (a b c : Addr × Ent) (h1 : ordLe a b = true) (h2 : ordLe b c = true) : ordLe a c = true := dle_tr _ _ _ h1 h2
theorem ordLe_tot (a b : Addr × Ent) : (ordLe a b || ordLe b a) = true := dle_tot _ _
theorem sortE_perm {a b : List (Addr × Ent)} (p : a.Perm b) (inj : ∀ x ∈ a, ∀ y ∈ a, x.2.name = y.2.name → x = y) : sortE a = sortE b := by
  have pa := sortE_p a
  have pb := sortE_p b
  refine List.Perm.eq_of_pairwise (le := fun x y => ordLe x y = true) (fun x y hx hy h1 h2 => ?_) (List.pairwise_mergeSort ordLe_tr ordLe_tot a) (List.pairwise_mergeSort ordLe_tr ordLe_tot b) (pa.trans (p.trans pb.symm))
  unfold ordLe at h1 h2
  rw [dle_iff] at h1 h2
  have g1 : PySem.W.dataLt (ordD y.2) (ordD x.2) = false := by simpa using h1
  have g2 : PySem.W.dataLt (ordD x.2) (ordD y.2) = false := by simpa using h2
  exact inj x (pa.mem_iff.mp hx) y (p.mem_iff.mpr (pb.mem_iff.mp hy)) (ord_inj (PyProof.Rows.lex_total (O := PyProof.Rows.itemOrd) _ _ g2 g1))
def spInOrder : Sp := fun vs H Q _ => ∃ (l : Addr) (pr : List (Addr × Ent)), vs = [.ref l] ∧ H l = some (.lst (pr.map fun x => V.ref x.1)) ∧ (∀ x ∈ pr, H x.1 = some (.tup x.2.vals)) ∧
  ∀ (tp : Addr) (H' : Hp), H tp = none → Same H H' → H' tp = some (.tup ((sortE pr).map fun x => V.ref x.1)) → Q (.ref tp) H'
section
variable {P : Program} {w : World} {K : PySem.W.Frag} {mg : Str → Option Value} {base : Heap}
abbrev sInOrderN : List Str := ["entries"]
theorem sc_sInOrder : FnScope sInOrderN ["entries"] (defScope sInOrder) := ⟨rfl, rfl, rfl, by decide +kernel, rfl, by decide +kernel, by decide +kernel⟩
theorem ok_inOrder {f fO : Addr} {fd dO : FuncData} (F : Fun K "in_order" "in_order" sInOrder f fd) (O : DefT P w K mg base "order_of" 1 fO dO ["entry"] spOrd) (ms : mg "sorted" = none) (mt : mg "tuple" = none) : FnOk P w K mg base CX0 4 f fd ["entries"] spInOrder := by
  refine F.ok sc_sInOrder (fun vs H Q E h => ?_) (fun cdv A outer s H vs Q E hr h => ?_)
  · obtain ⟨l, pr, rfl, _⟩ := h
    rfl
  · obtain ⟨l, pr, rfl, hl, hE, q⟩ := h
    have nd := sc_sInOrder.nd
    have hr3 : Room 3 _ := hr
    have nd := sc_sInOrder.nd
    have hr3 : Room 3 _ := hr.mono (by decide)
    refine ⟨_, pss_one (ps_ret (pe_callTy call_tuple_of (by rfl) mt (by decide +kernel) (pa_cons (pe_callBK (cr_sortK O.ok hr3 O.b) (by rfl) ms (by decide +kernel) (pa_cons (pv 0) pa_nil) (pk_cons (pe_glob (v := .ref fO) (by rfl) O.g rfl) pk_nil)) pa_nil))), ?_⟩
    refine ⟨_, rfl, l, pr.map prV, rfl, rfl, SqL.of (by rw [hl, List.map_map]; rfl), ?_, .inl ?_, ?_, ?_, fun a3 H10 na3 s3 h3 => ⟨a3, _, rfl, .inl ⟨SqL.of h3, fun t3 nt3 => ?_⟩⟩⟩
    · intro d hd d' hd'
      rw [List.map_map] at hd hd'
      obtain ⟨x, _, rfl⟩ := List.mem_map.mp hd
      obtain ⟨y, _, rfl⟩ := List.mem_map.mp hd'
      exact ord_alike x.2 y.2
    · intro d hd
      rw [List.map_map] at hd
      obtain ⟨x, _, rfl⟩ := List.mem_map.mp hd
      exact ⟨_, _, rfl⟩
    · intro e he
      obtain ⟨x, _, rfl⟩ := List.mem_map.mp he
      show 1 ≤ 60
      decide
    · intro e he H1 sm Q1 hq
      obtain ⟨x, hx, rfl⟩ := List.mem_map.mp he
      exact ⟨x.1, x.2, rfl, sm _ _ (hE x hx), fun tp H2 sm2 h2 => hq _ _ sm2 (ord_dp h2)⟩
    · rw [keyed_prV]
      refine q t3 _ ?_ (s3.trans (same_new nt3)) ?_
      · cases e : H t3 with
        | none => rfl
        | some o => exact absurd (s3 _ _ e) (by rw [nt3]; intro z; cases z)
      · rw [upd_same, List.map_map]
        rfl
end
/-! ### own_entries -/
theorem snocInd {α : Type} {p : List α → Prop} (h0 : p []) (h1 : ∀ r y, p r → p (r ++ [y])) (l : List α) : p l := by
  have : ∀ m : List α, p m.reverse := fun m => by
    induction m with
    | nil => exact h0
    | cons y r ih => rw [List.reverse_cons]; exact h1 _ _ ih
  have := this l.reverse
  rwa [List.reverse_reverse] at this
theorem nodup_of_map {α β : Type} {f : α → β} {l : List α} (h : (l.map f).Nodup) : l.Nodup := (List.pairwise_map.mp h).imp fun h z => h (congrArg f z)
theorem perm_of_in {α : Type} {l ks : List α} (n1 : l.Nodup) (n2 : ks.Nodup) (h : ∀ x, x ∈ l ↔ x ∈ ks) : l.Perm ks := by
  classical
  induction l generalizing ks with
  | nil =>
    cases ks with
    | nil => exact .nil
    | cons y r => exact nomatch (h y).mpr List.mem_cons_self
  | cons x r ih =>
    have hx : x ∈ ks := (h x).mp List.mem_cons_self
    have p := List.perm_cons_erase hx
    refine (List.Perm.cons x (ih (List.nodup_cons.mp n1).2 (n2.erase x) fun y => ?_)).trans p.symm
    rw [n2.mem_erase_iff]
    constructor
    · intro hy
      exact ⟨fun z => (List.nodup_cons.mp n1).1 (z ▸ hy), (h y).mp (List.mem_cons_of_mem _ hy)⟩
    · intro ⟨ne, hy⟩
      exact (List.mem_cons.mp ((h y).mpr hy)).resolve_left ne
def hasN (l : List (Addr × Ent)) (n : Str) : Bool := l.any fun y => decide (y.2.name = n)
def onceN (ts : List (Addr × Ent)) : List (Addr × Ent) := ts.foldl (fun acc x => if hasN acc x.2.name = true then acc else acc ++ [x]) []
theorem onceN_snoc (ts : List (Addr × Ent)) (x : Addr × Ent) : onceN (ts ++ [x]) = if hasN (onceN ts) x.2.name = true then onceN ts else onceN ts ++ [x] := by
  unfold onceN
  rw [List.foldl_append]
  rfl
def kvN (l : List (Addr × Ent)) : List (Key × V) := l.map fun x => ((Sum.inr x.2.name : Key), V.ref x.1)
theorem hasN_iff {l : List (Addr × Ent)} {n : Str} : hasN l n = true ↔ ∃ y ∈ l, y.2.name = n := by
  unfold hasN
  rw [List.any_eq_true]
  exact ⟨fun ⟨y, hy, e⟩ => ⟨y, hy, of_decide_eq_true e⟩, fun ⟨y, hy, e⟩ => ⟨y, hy, decide_eq_true e⟩⟩
theorem onceN_sub (ts : List (Addr × Ent)) : ∀ x ∈ onceN ts, x ∈ ts := by
  induction ts using snocInd with
  | h0 => intro x hx; exact nomatch hx
  | h1 r y ih =>
    intro x hx
    rw [onceN_snoc] at hx
    by_cases h : hasN (onceN r) y.2.name = true
    · rw [if_pos h] at hx
      exact List.mem_append.mpr (.inl (ih x hx))
    · rw [if_neg h] at hx
      rcases List.mem_append.mp hx with hx | hx
      · exact List.mem_append.mpr (.inl (ih x hx))
      · exact List.mem_append.mpr (.inr hx)
theorem onceN_has (ts : List (Addr × Ent)) : ∀ x ∈ ts, hasN (onceN ts) x.2.name = true := by
  induction ts using snocInd with
  | h0 => intro x hx; exact nomatch hx
  | h1 r y ih =>
    intro x hx
    rw [onceN_snoc]
    by_cases h : hasN (onceN r) y.2.name = true
    · rw [if_pos h]
      rcases List.mem_append.mp hx with hx | hx
      · exact ih x hx
      · rw [List.mem_singleton.mp hx]; exact h
    · rw [if_neg h]
      rcases List.mem_append.mp hx with hx | hx
      · obtain ⟨z, hz, e⟩ := hasN_iff.mp (ih x hx)
        exact hasN_iff.mpr ⟨z, List.mem_append.mpr (.inl hz), e⟩
      · exact hasN_iff.mpr ⟨x, List.mem_append.mpr (.inr hx), rfl⟩
theorem onceN_nodup (ts : List (Addr × Ent)) : ((onceN ts).map fun x => x.2.name).Nodup := by
  induction ts using snocInd with
  | h0 => exact .nil
  | h1 r y ih =>
    rw [onceN_snoc]
    by_cases h : hasN (onceN r) y.2.name = true
    · rw [if_pos h]; exact ih
    · rw [if_neg h, List.map_append, List.nodup_append]
      refine ⟨ih, List.nodup_cons.mpr ⟨fun z => (nomatch z), .nil⟩, fun a ha b hb z => h ?_⟩
      obtain ⟨u, hu, rfl⟩ := List.mem_map.mp ha
      rw [List.mem_singleton.mp hb] at z
      exact hasN_iff.mpr ⟨u, hu, z⟩
theorem onceN_len (ts : List (Addr × Ent)) : (onceN ts).length ≤ ts.length := by
  induction ts using snocInd with
  | h0 => exact Nat.le_refl _
  | h1 r y ih =>
    rw [onceN_snoc, List.length_append]
    by_cases h : hasN (onceN r) y.2.name = true
    · rw [if_pos h]; omega
    · rw [if_neg h, List.length_append]; simp only [List.length_cons, List.length_nil]; omega
/-- whatever the order: where a name tells the entry, what is left is the set -/
theorem onceN_perm {ts pr : List (Addr × Ent)} (nd : (pr.map fun x => x.2.name).Nodup) (h1 : ∀ x ∈ ts, x ∈ pr) (h2 : ∀ x ∈ pr, x ∈ ts) : (onceN ts).Perm pr := by
  have n1 : (onceN ts).Nodup := nodup_of_map (onceN_nodup ts)
  have n2 : pr.Nodup := nodup_of_map nd
  refine perm_of_in n1 n2 fun x => ⟨fun h => h1 x (onceN_sub ts x h), fun h => ?_⟩
  obtain ⟨z, hz, e⟩ := hasN_iff.mp (onceN_has ts x (h2 x h))
  have hz' := h1 z (onceN_sub ts z hz)
  have : z = x := by
    obtain ⟨i, hi⟩ := List.mem_iff_getElem?.mp hz'
    obtain ⟨j, hj⟩ := List.mem_iff_getElem?.mp h
    have : i = j := (List.getElem?_inj (by rw [List.length_map]; exact (List.getElem?_eq_some_iff.mp hi).1) nd).mp (by rw [List.getElem?_map, List.getElem?_map, hi, hj]; exact congrArg some e)
    rw [this, hj] at hi
    exact (Option.some.inj hi).symm
  rw [← this]
  exact hz
theorem val_kvN {l : List (Addr × Ent)} {n : Str} : (hasN l n = false → valV (kvN l) (Sum.inr n) = none) ∧ (∀ v, valV (kvN l) (Sum.inr n) = some v → ∃ y ∈ l, y.2.name = n ∧ v = .ref y.1) ∧ (hasN l n = true → (valV (kvN l) (Sum.inr n)).isSome = true) := by
  induction l with
  | nil => exact ⟨fun _ => rfl, fun v h => (nomatch h), fun h => (nomatch h)⟩
  | cons x r ih =>
    have e0 : kvN (x :: r) = ((Sum.inr x.2.name : Key), V.ref x.1) :: kvN r := rfl
    have e1 : hasN (x :: r) n = (decide (x.2.name = n) || hasN r n) := rfl
    by_cases z : x.2.name = n
    · have e2 : valV (kvN (x :: r)) (Sum.inr n) = some (.ref x.1) := by rw [e0]; exact valV_pos (congrArg Sum.inr z)
      rw [e1, decide_eq_true z, e2]
      exact ⟨fun h => (nomatch h), fun v h => ⟨x, List.mem_cons_self, z, (Option.some.inj h).symm⟩, fun _ => rfl⟩
    · have e2 : valV (kvN (x :: r)) (Sum.inr n) = valV (kvN r) (Sum.inr n) := by rw [e0]; exact valV_neg fun q => z (Sum.inr.inj q)
      rw [e1, decide_eq_false z, e2, Bool.false_or]
      exact ⟨ih.1, fun v h => let ⟨y, hy, r⟩ := ih.2.1 v h; ⟨y, List.mem_cons_of_mem _ hy, r⟩, ih.2.2⟩
def spOwnEnts (Ts : List Addr) : Sp := fun vs H Q _ => ∃ (l pl gl : Addr) (ts : List (Addr × Ent)) (P G : List Str), vs = [.ref l, .ref pl, .ref gl] ∧ LT H l (ts.map fun x => V.ref x.1) ∧ (∀ x ∈ ts, H x.1 = some (.tup x.2.vals) ∧ x.2.Fine ∧ SeqAt.shaped (entD x.2) = true ∧ ofB x.2 P G = true) ∧
  (∀ x ∈ ts, ∀ y ∈ ts, x.2.name = y.2.name → x = y) ∧ ts.length ≤ 1000 ∧ (onceN ts).length ≤ 30 ∧ H pl = some (.tup (P.map V.str)) ∧ H gl = some (.tup (G.map V.str)) ∧ TabsG Ts H ∧
  ∀ (tp : Addr) (H' : Hp), TB1 Ts H H' → H' tp = some (.tup ((sortE (onceN ts)).map fun x => V.ref x.1)) → Q (.ref tp) H'
theorem ent_dp {K : PySem.W.Frag} {H : Hp} {a : Addr} {e : Ent} (h : H a = some (.tup e.vals)) : Dp K H (.ref a) (entD e) := dp_ent h
theorem tabs_updD {H : Hp} {Ts : List Addr} {l : Addr} {kvs : List (Key × V)} {o : HO} (t : TabsG Ts H) (e : H l = some (.dK kvs)) : TabsG Ts (upd H l o) := fun T hT => by
  obtain ⟨ps, e1, ok⟩ := t T hT
  exact ⟨ps, (upd_ne (ne_of e1 e (by intro z; cases z))).trans e1, ok⟩
theorem TB1.putD {Ts : List Addr} {H H' : Hp} {l : Addr} {kvs : List (Key × V)} {o : HO} (t : TB1 Ts H H') (n : H l = none) (e : H' l = some (.dK kvs)) : TB1 Ts H (upd H' l o) :=
  ⟨tabs_updD t.1 e, fun a u eu na => (upd_ne (ne_of_none eu n)).trans (t.2 a u eu na), fun a na => by
    by_cases z : a = l
    · rw [z]
      exact n
    · rw [upd_ne z] at na
      exact t.free a na⟩
section
variable {P : Program} {w : World} {K : PySem.W.Frag} {mg : Str → Option Value} {base : Heap}
abbrev sOwnEntsN : List Str := ["things", "places", "goods", "called", "thing"]
theorem sc_sOwnEnts : FnScope sOwnEntsN ["things", "places", "goods"] (defScope sOwnEnts) := ⟨rfl, rfl, rfl, by decide +kernel, rfl, by decide +kernel, by decide +kernel⟩
set_option maxHeartbeats 1000000 in
theorem ok_ownEnts {f fI fO : Addr} {fd dI dO : FuncData} {Ts : List Addr} (F : Fun K "own_entries" "own_entries" sOwnEnts f fd) (IO : DefT P w K mg base "is_entry_of" 5 fI dI ["thing", "places", "goods"] (spIsEntryOf Ts)) (IN : DefT P w K mg base "in_order" 4 fO dO ["entries"] spInOrder)
    (mis : mg "isinstance" = none) (mT_list : mg "list" = none) (mT_tuple : mg "tuple" = none) (ml : mg "len" = none) (mME : ∃ t, mg "MOST_ENTRIES" = some (.int 30 t)) : FnOk P w K mg base CX0 6 f fd ["things", "places", "goods"] (spOwnEnts Ts) := by
  obtain ⟨tME, mME⟩ := mME
  refine F.ok sc_sOwnEnts (fun vs H Q E h => ?_) (fun cdv A outer s H vs Q E hr h => ?_)
  · obtain ⟨l, pl, gl, ts, Ps, G, rfl, _⟩ := h
    rfl
  · obtain ⟨l, pl, gl, ts, Ps, G, rfl, hl, hE, inj, lt, l30, hp, hg, tg, q⟩ := h
    have nd := sc_sOwnEnts.nd
    have hr4 : Room 4 _ := hr.mono (by decide)
    have nd := sc_sOwnEnts.nd
    have hr4 : Room 4 _ := hr.mono (by decide)
    refine ⟨_, pss_cons (ps_if (pt_not (pt_val (pe_callB call_isiT (by rfl) mis (by decide +kernel) (pa_cons (pv 0) (pa_cons (pe_tup (pa_cons (pe_bltn (v := .ty "list") (u := .type "list") (by rfl) mT_list (by decide +kernel) rfl) (pa_cons (pe_bltn (v := .ty "tuple") (u := .type "tuple") (by rfl) mT_tuple (by decide +kernel) rfl) pa_nil))) pa_nil))))) (pss_one ps_never) pss_nil)
      (pss_cons (ps_set (i := 3) nd rfl (Or.inl rfl) pe_dnewK)
      (pss_cons (ps_for PassesOwn.never rfl (pi_seq (pv 0)) (pg_name (i := 4) nd rfl (Or.inl rfl))
        (pss_cons (ps_if (pt_not (pt_val (pe_call IO.ok hr (by rfl) IO.g IO.kp IO.b .nil pass0 (pa_cons (pv 4) (pa_cons (pv 1) (pa_cons (pv 2) pa_nil)))))) (pss_one ps_never) pss_nil)
        (pss_one (ps_if (pt_cmpR (op_neD hr.units) (pe_sdf (pv 3) (pe_ix ix_tup (pv 4) pe_int (fun _ _ => rfl)) (pv 4) ⟨rfl, rfl, rfl, rfl⟩) (pv 4) (nomark _)) (pss_one ps_never) pss_nil))))
      (pss_cons (ps_if (pt_cmpR op_gt (pe_callB call_lenD (by rfl) ml PySem.boot_len (pa_cons (pv 3) pa_nil)) (pe_glob (v := .int 30) rfl mME ⟨_, rfl⟩) (nomark _)) (pss_one ps_never) pss_nil)
      (pss_one (ps_ret (pe_call IN.ok hr4 (by rfl) IN.g IN.kp IN.b .nil pass0 (pa_cons (pe_callTy (call_listVals rfl) (by rfl) mT_list (by decide +kernel) (pa_cons (pe_vals (pv 3)) pa_nil)) pa_nil))))))), ?_⟩
    refine ⟨_, rfl, (by show 2 ≤ sizeLine; decide), fun tq ntq => ?_⟩
    have s0 := @same_new _ _ (.tup [V.ty "list", V.ty "tuple"]) ntq
    obtain ⟨t, ty, kt⟩ := is_lt (K := K) (hl.on s0)
    refine ⟨_, tq, _, t, _, true, rfl, upd_same, clsLT, ty, kt, _, rfl, iteF fun D nD => ?_⟩
    clear ty kt
    have sD := s0.trans (@same_new _ _ (.dK []) nD)
    have hDn : H D = none := s0.free nD
    have hD : (upd (upd H tq (.tup [V.ty "list", V.ty "tuple"])) D (.dK [])) D = some (.dK []) := upd_same
    generalize upd (upd H tq (.tup [V.ty "list", V.ty "tuple"])) D (.dK []) = H1 at sD hD
    dsimp only [tNext, tSeq]
    refine for_seq (k := 0) (hl.on sD) rfl (fun i σ H' => ∃ y4, σ = [some (.ref l), some (.ref pl), some (.ref gl), some (.ref D), y4] ∧ TB1 Ts H H' ∧ H' D = some (.dK (kvN (onceN (ts.take i))))) ⟨_, rfl, .same tg sD, hD⟩ ?_ ?_ ?_
    · rintro i σ H' hi ⟨y4, rfl, b, _⟩ o e n
      rcases hl with h | h
      · rw [sD _ _ h] at e
        exact (b.2 _ _ h fun _ z => nomatch z).trans e
      · rw [sD _ _ h] at e
        exact (b.2 _ _ h fun _ z => nomatch z).trans e
    · rintro i x σ H2 hx ⟨y4, rfl, b2, hD2⟩
      rw [List.getElem?_map] at hx
      obtain ⟨y, hy, rfl⟩ := Option.map_eq_some_iff.mp hx
      have my := List.mem_of_getElem? hy
      obtain ⟨e1, e2, e3, e4⟩ := hE y my
      refine ⟨_, rfl, _, rfl, _, rfl, y.1, pl, gl, y.2, Ps, G, rfl, b2.tk _ _ e1, e2, b2.tk _ _ hp, b2.tk _ _ hg, b2.1, fun H3 b3 => ?_⟩
      rw [e4]
      have b23 := b2.tr b3
      have hD3 := b3.dct hD2
      have hy3 := b23.tk _ _ e1
      refine ⟨true, rfl, iteF ⟨_, rfl, D, rfl, .inl ⟨_, .inl hD3⟩, _, rfl, y.1, _, 1, _, rfl, rfl, SqT.of hy3, at1 y.2, _, rfl, _, Sum.inr y.2.name, hD3, rfl, ?_, fun v hv => ?_, fun hv => ?_⟩⟩
      · have : (kvN (onceN (ts.take i))).length ≤ 1000 := by
          show (List.map _ _).length ≤ _
          rw [List.length_map]
          refine Nat.le_trans (onceN_len _) ?_
          rw [List.length_take]
          omega
        exact small1000 (by omega)
      · obtain ⟨z, hz, ez, rfl⟩ := val_kvN.2.1 v hv
        have mz : z ∈ ts := List.mem_of_mem_take (onceN_sub _ z hz)
        obtain rfl := inj z mz y my ez
        refine ⟨_, rfl, _, _, ent_dp hy3, ent_dp hy3, e3, e3, _, rfl, ?_⟩
        rw [SeqAt.eqv_refl _ (SeqAt.canLay_of_shaped e3)]
        refine iteF ⟨_, rfl, b23, ?_⟩
        rw [hD3, take_sn hy, onceN_snoc, if_pos (hasN_iff.mpr ⟨z, hz, rfl⟩)]
      · refine ⟨_, rfl, _, _, ent_dp ((upd_ne (ne_of hy3 hD3 (by intro z; cases z))).trans hy3), ent_dp ((upd_ne (ne_of hy3 hD3 (by intro z; cases z))).trans hy3), e3, e3, _, rfl, ?_⟩
        rw [SeqAt.eqv_refl _ (SeqAt.canLay_of_shaped e3)]
        refine iteF ⟨_, rfl, b23.putD hDn hD3, ?_⟩
        have hn : ¬ hasN (onceN (ts.take i)) y.2.name = true := fun z => by
          have := val_kvN.2.2 z
          rw [hv] at this
          cases this
        rw [upd_same, putK_new _ hv, take_sn hy, onceN_snoc, if_neg hn]
        show _ = some (HO.dK (List.map _ (_ ++ [y])))
        rw [List.map_append]
        rfl
    · rintro σ H2 ⟨y4, rfl, b2, hD2⟩
      rw [List.length_map, List.take_length] at hD2
      refine ⟨_, rfl, D, _, rfl, hD2, (kvN (onceN ts)).length, 30, rfl, rfl, _, rfl, ?_⟩
      have z30 : (kvN (onceN ts)).length = (onceN ts).length := List.length_map _
      rw [decide_eq_false (show ¬ ((30 : Int) < ((kvN (onceN ts)).length : Int)) by rw [z30]; omega)]
      refine iteF ⟨_, rfl, D, _, rfl, hD2, fun v nv => ?_⟩
      have nvD : D ≠ v := ne_of_none hD2 nv
      refine ⟨v, D, _, rfl, upd_same, (upd_ne nvD).trans hD2, fun a na => ?_⟩
      have s3 := (@same_new _ _ (valsO v D) nv).trans (@same_new _ _ (.lst ((kvN (onceN ts)).map (·.2))) na)
      have b3 := b2.tr (.same b2.1 s3)
      refine ⟨a, onceN ts, rfl, ?_, fun x hx => b3.tk _ _ (hE x (onceN_sub ts x hx)).1, fun tp H5 ntp s5 h5 => q tp H5 (b3.tr (.same b3.1 s5)) h5⟩
      rw [upd_same]
      show some (HO.lst (List.map _ (List.map _ _))) = _
      rw [List.map_map]
      rfl
end
def spHouseOf (Ts : List Addr) : Sp := fun vs H Q _ => ∃ (l1 l2 l3 : Addr) (xs ys : List Str) (ts : List (Addr × Ent)), vs = [.ref l1, .ref l2, .ref l3] ∧ LT H l1 (xs.map V.str) ∧ LT H l2 (ys.map V.str) ∧ LT H l3 (ts.map fun x => V.ref x.1) ∧
  (∀ y ∈ xs, nameB y = true) ∧ xs.length ≤ 1000 ∧ 1 ≤ (onceR xs).length ∧ (onceR xs).length ≤ 6 ∧ (∀ y ∈ ys, nameB y = true) ∧ ys.length ≤ 1000 ∧ 1 ≤ (onceR ys).length ∧ (onceR ys).length ≤ 3 ∧
  (∀ x ∈ ts, H x.1 = some (.tup x.2.vals) ∧ x.2.Fine ∧ SeqAt.shaped (entD x.2) = true ∧ ofB x.2 xs ys = true) ∧ (∀ x ∈ ts, ∀ y ∈ ts, x.2.name = y.2.name → x = y) ∧ ts.length ≤ 1000 ∧ (onceN ts).length ≤ 30 ∧ TabsG Ts H ∧
  ∀ (h : Addr) (P G : List Str) (H' : Hp), P.Perm (onceR xs) → sortedS P = true → G.Perm (onceR ys) → sortedS G = true → TB1 Ts H H' → (∃ hp hg he, H' h = some (.tup [.ref hp, .ref hg, .ref he]) ∧ H' hp = some (.tup (P.map V.str)) ∧ H' hg = some (.tup (G.map V.str)) ∧ H' he = some (.tup ((sortE (onceN ts)).map fun x => V.ref x.1))) → Q (.ref h) H'
theorem ofB_congr {e : Ent} {P P' G G' : List Str} (h1 : ∀ y, y ∈ P ↔ y ∈ P') (h2 : ∀ y, y ∈ G ↔ y ∈ G') : ofB e P G = ofB e P' G' := by
  have e1 : (fun y => decide (y ∈ P)) = fun y => decide (y ∈ P') := funext fun y => decide_eq_decide.mpr (h1 y)
  have e2 : goodOk e G = goodOk e G' := by
    unfold goodOk
    cases e.goodV with
    | str g => exact decide_eq_decide.mpr (h2 g)
    | _ => rfl
  unfold ofB
  rw [e1, e2]
section
variable {P : Program} {w : World} {K : PySem.W.Frag} {mg : Str → Option Value} {base : Heap}
abbrev sHouseOfN : List Str := ["places", "goods", "entries", "own_places", "own_goods"]
theorem sc_sHouseOf : FnScope sHouseOfN ["places", "goods", "entries"] (defScope sHouseOf) := ⟨rfl, rfl, rfl, by decide +kernel, rfl, by decide +kernel, by decide +kernel⟩
theorem ok_houseOf {f fR fO : Addr} {fd dR dO : FuncData} {Ts : List Addr} (F : Fun K "house_of" "house_of" sHouseOf f fd) (RN : DefT P w K mg base "rising_names" 3 fR dR ["things", "most"] (spRising Ts)) (OE : DefT P w K mg base "own_entries" 6 fO dO ["things", "places", "goods"] (spOwnEnts Ts))
    (mP : ∃ t, mg "MOST_PLACES" = some (.int 6 t)) (mG : ∃ t, mg "MOST_GOODS" = some (.int 3 t)) : FnOk P w K mg base CX0 7 f fd ["places", "goods", "entries"] (spHouseOf Ts) := by
  obtain ⟨tP, mP⟩ := mP
  obtain ⟨tG, mG⟩ := mG
  refine F.ok sc_sHouseOf (fun vs H Q E h => ?_) (fun cdv A outer s H vs Q E hr h => ?_)
  · obtain ⟨l1, l2, l3, xs, ys, ts, rfl, _⟩ := h
    rfl
  · obtain ⟨l1, l2, l3, xs, ys, ts, rfl, h1, h2, h3, n1, lx, a1, a2, n2, ly, g1, g2, hE, inj, lt, l30, tg, q⟩ := h
    have nd := sc_sHouseOf.nd
    have hr3 : Room 3 _ := hr.mono (by decide)
    have nd := sc_sHouseOf.nd
    have hr3 : Room 3 _ := hr.mono (by decide)
    refine ⟨_, pss_cons (ps_set (i := 3) nd rfl (Or.inl rfl) (pe_call RN.ok hr3 (by rfl) RN.g RN.kp RN.b .nil pass0 (pa_cons (pv 0) (pa_cons (pe_glob (v := .int 6) rfl mP ⟨_, rfl⟩) pa_nil))))
      (pss_cons (ps_set (i := 4) nd rfl (Or.inl rfl) (pe_call RN.ok hr3 (by rfl) RN.g RN.kp RN.b .nil pass0 (pa_cons (pv 1) (pa_cons (pe_glob (v := .int 3) rfl mG ⟨_, rfl⟩) pa_nil))))
      (pss_one (ps_ret (pe_tup (pa_cons (pv 3) (pa_cons (pv 4) (pa_cons (pe_call OE.ok hr (by rfl) OE.g OE.kp OE.b .nil pass0 (pa_cons (pv 2) (pa_cons (pv 3) (pa_cons (pv 4) pa_nil)))) pa_nil))))))), ?_⟩
    refine ⟨_, rfl, l1, xs, 6, rfl, h1, n1, lx, a1, by omega, by decide, tg, fun t1 Ps H1 pm1 so1 b1 k1 => ?_⟩
    refine ⟨_, rfl, l2, ys, 3, rfl, h2.by fun o e n => b1.2 _ _ e n, n2, ly, g1, by omega, by decide, b1.1, fun t2 G H2 pm2 so2 b2 k2 => ?_⟩
    have b12 := b1.tr b2
    have m1 : ∀ y, y ∈ xs ↔ y ∈ Ps := fun y => ⟨fun h => pm1.mem_iff.mpr ((onceR_mem xs y).mpr h), fun h => (onceR_mem xs y).mp (pm1.mem_iff.mp h)⟩
    have m2 : ∀ y, y ∈ ys ↔ y ∈ G := fun y => ⟨fun h => pm2.mem_iff.mpr ((onceR_mem ys y).mpr h), fun h => (onceR_mem ys y).mp (pm2.mem_iff.mp h)⟩
    refine ⟨_, rfl, _, rfl, _, rfl, _, rfl, _, rfl, l3, t1, t2, ts, Ps, G, rfl, h3.by fun o e n => b12.2 _ _ e n, fun x hx => ?_, inj, lt, l30, b2.tk _ _ k1, k2, b12.1, fun t3 H3 b3 k3 => ?_⟩
    · obtain ⟨e1, e2, e3, e4⟩ := hE x hx
      exact ⟨b12.tk _ _ e1, e2, e3, (ofB_congr m1 m2) ▸ e4⟩
    · have b123 := b12.tr b3
      refine ⟨(by show 3 ≤ sizeLine; decide), fun h nh => ?_⟩
      have s4 := @same_new _ _ (.tup [V.ref t1, .ref t2, .ref t3]) nh
      exact q h Ps G _ pm1 so1 pm2 so2 (b123.tr (.same b123.1 s4)) ⟨t1, t2, t3, upd_same, s4 _ _ (b3.tk _ _ (b2.tk _ _ k1)), s4 _ _ (b3.tk _ _ k2), s4 _ _ k3⟩
end
/-! ### things in a drawn order -/
def pick (xs : List V) (js : List Nat) : List V := js.map fun j => xs.getD j .non
theorem pick_range (xs : List V) : pick xs (List.range xs.length) = xs := by
  refine List.ext_getElem? fun i => ?_
  unfold pick
  rw [List.getElem?_map]
  by_cases h : i < xs.length
  · rw [List.getElem?_range h, List.getElem?_eq_getElem h]
    show some (xs.getD i .non) = _
    rw [List.getD_eq_getElem?_getD, List.getElem?_eq_getElem h]
    rfl
  · rw [List.getElem?_eq_none (by rw [List.length_range]; omega), List.getElem?_eq_none (by omega)]
    rfl
theorem pick_of {α : Type} {f : α → V} {zs : List α} {js : List Nat} (h : ∀ j ∈ js, j < zs.length) : pick (zs.map f) js = (js.filterMap fun j => zs[j]?).map f ∧ (js.filterMap fun j => zs[j]?).length = js.length := by
  induction js with
  | nil => exact ⟨rfl, rfl⟩
  | cons j r ih =>
    obtain ⟨e1, e2⟩ := ih fun i hi => h i (List.mem_cons_of_mem _ hi)
    have lt := h j List.mem_cons_self
    have e3 : ((j :: r).filterMap fun j => zs[j]?) = zs[j] :: (r.filterMap fun j => zs[j]?) := by rw [List.filterMap_cons, List.getElem?_eq_getElem lt]
    rw [e3]
    refine ⟨?_, by rw [List.length_cons, e2, List.length_cons]⟩
    show (zs.map f).getD j .non :: pick (zs.map f) r = f zs[j] :: _
    rw [e1, List.getD_eq_getElem?_getD, List.getElem?_map, List.getElem?_eq_getElem lt]
    rfl
theorem pick_mem {α : Type} {zs : List α} {js : List Nat} : (∀ x ∈ (js.filterMap fun j => zs[j]?), x ∈ zs) ∧ ((∀ j < zs.length, j ∈ js) → ∀ x ∈ zs, x ∈ (js.filterMap fun j => zs[j]?)) := by
  refine ⟨fun x hx => ?_, fun h x hx => ?_⟩
  · obtain ⟨j, _, e⟩ := List.mem_filterMap.mp hx
    exact List.mem_of_getElem? e
  · obtain ⟨i, hi⟩ := List.mem_iff_getElem?.mp hx
    exact List.mem_filterMap.mpr ⟨i, h i (List.getElem?_eq_some_iff.mp hi).1, hi⟩
/-- all of these, in whatever order, some perhaps twice -/
def Mixed (n : Nat) (js : List Nat) : Prop := (∀ j ∈ js, j < n) ∧ (∀ j < n, j ∈ js) ∧ js.length ≤ 2 * n
def spMixed : Sp := fun vs H Q _ => ∃ (p c : Addr) (n : Nat) (l : Addr) (xs : List V), vs = [.ref p, .ref l] ∧ PenAt H p c n ∧ n ≤ 50000 ∧ H l = some (.lst xs) ∧ xs.length ≤ 40 ∧
  ∀ (r : Addr) (js : List Nat) (H' : Hp), H r = none → Mixed xs.length js → LT H' r (pick xs js) → PenAt H' p c (n + 200) → But p H H' → Q (.ref r) H'
theorem seqIx {r : Int} {n : Nat} (h0 : 0 ≤ r) (h1 : r < n) : seqIndex? r n = some r.toNat := by
  simp only [seqIndex?, if_neg (show ¬ r < 0 by omega)]
  rw [if_pos (by simp; omega)]
theorem mem_erase_or {α : Type} {l : List α} {k : Nat} {y x : α} (h : l[k]? = some y) (hx : x ∈ l) : x = y ∨ x ∈ l.eraseIdx k := by
  have lt := (List.getElem?_eq_some_iff.mp h).1
  rw [List.eraseIdx_eq_take_drop_succ]
  rw [← List.take_append_drop k l, List.drop_eq_getElem_cons lt] at hx
  rw [List.getElem?_eq_getElem lt] at h
  rw [Option.some.inj h] at hx
  rcases List.mem_append.mp hx with hx | hx
  · exact .inr (List.mem_append.mpr (.inl hx))
  · rcases List.mem_cons.mp hx with hx | hx
    · exact .inl hx
    · exact .inr (List.mem_append.mpr (.inr hx))
section
variable {P : Program} {w : World} {K : PySem.W.Frag} {mg : Str → Option Value} {base : Heap}
abbrev sMixedN : List Str := ["_law_pen_here", "_law_things", "_law_way", "_law_left", "_law_found", "_law_k"]
theorem sc_sMixed : FnScope sMixedN ["_law_pen_here", "_law_things"] (defScope sMixed) := ⟨rfl, rfl, rfl, by decide +kernel, rfl, by decide +kernel, by decide +kernel⟩
set_option maxHeartbeats 1000000 in
theorem ok_mixed {f fT : Addr} {fd dT : FuncData} (F : Fun K "_law_mixed" "_law_mixed" sMixed f fd) (T : TakeT P w K mg base fT dT) (mli : mg "list" = none) (ml : mg "len" = none) (mr : mg "range" = none) (mt : mg "tuple" = none) : FnOk P w K mg base CX0 2 f fd ["_law_pen_here", "_law_things"] spMixed := by
  refine F.ok sc_sMixed (fun vs H Q E h => ?_) (fun cdv A outer s H vs Q E hr h => ?_)
  · obtain ⟨p, c, n, l, xs, rfl, _⟩ := h
    rfl
  · obtain ⟨p, c, n, l, xs, rfl, pen, hn, hl, lx, q⟩ := h
    have nd := sc_sMixed.nd
    have nd := sc_sMixed.nd
    refine ⟨_, pss_cons (ps_set (i := 2) nd rfl (Or.inl rfl) (pe_call T.ok hr (by rfl) T.g T.kp T.b .nil pass0 (pa_cons (pv 0) (pa_cons pe_int pa_nil))))
      (pss_cons (ps_set (i := 3) nd rfl (Or.inl rfl) (pe_callTy call_list_of (by rfl) mli (by decide +kernel) (pa_cons (pv 1) pa_nil)))
      (pss_cons (ps_set (i := 4) nd rfl (Or.inl rfl) (pe_lst pa_nil))
      (pss_cons (ps_for PassesOwn.never rfl (pi_range1 rfl mr (pa_cons (pe_callB call_len_seq (by rfl) ml PySem.boot_len (pa_cons (pv 1) pa_nil)) pa_nil)) (pg_name (i := 5) nd rfl (Or.inl rfl))
        (pss_cons (ps_expr (pe_bm PySem.F.plainAttrs_list PySem.F.slot_list_append PySem.F.type_list_append mt_append (pv 4) (pa_cons (pe_bm PySem.F.plainAttrs_list PySem.F.slot_list_pop PySem.F.type_list_pop mt_popAt (pv 3) (pa_cons (pe_call T.ok hr (by rfl) T.g T.kp T.b .nil pass0 (pa_cons (pv 0) (pa_cons (pe_callB call_len_seq (by rfl) ml PySem.boot_len (pa_cons (pv 3) pa_nil)) pa_nil))) pa_nil)) pa_nil)))
        (pss_one (ps_if (pt_cmpR op_eq (pe_call T.ok hr (by rfl) T.g T.kp T.b .nil pass0 (pa_cons (pv 0) (pa_cons pe_int pa_nil))) pe_int (nomark _)) (pss_one (ps_expr (pe_bm PySem.F.plainAttrs_list PySem.F.slot_list_append PySem.F.type_list_append mt_append (pv 4) (pa_cons (pe_ix ix_list (pv 4) (pe_call T.ok hr (by rfl) T.g T.kp T.b .nil pass0 (pa_cons (pv 0) (pa_cons (pe_callB call_len_seq (by rfl) ml PySem.boot_len (pa_cons (pv 4) pa_nil)) pa_nil))) (fun _ _ => rfl)) pa_nil)))) pss_nil))))
      (pss_cons (ps_if (pt_cmpR op_eq (pv 2) pe_int (nomark _)) (pss_one (ps_ret (pe_callTy call_tuple_of (by rfl) mt (by decide +kernel) (pa_cons (pv 4) pa_nil)))) pss_nil)
      (pss_one (ps_ret (pv 4))))))), ?_⟩
    refine ⟨_, rfl, p, c, n, 2, rfl, pen, by omega, by decide, by decide, fun r1 H1 a1 b1 pen1 bt1 => ?_⟩
    have np : ∀ {H' : Hp} {n : Nat} {l : Addr} {xs : List V}, PenAt H' p c n → H' l = some (.lst xs) → l ≠ p := fun pen h => by
      obtain ⟨kvs, ns', a', x', g1, _⟩ := pen.ex
      exact ne_of h g1 (by intro z; cases z)
    have hl1 := bt1 _ _ hl (np pen hl)
    refine ⟨_, rfl, l, xs, rfl, .inl (SqL.of hl1), fun L nL => ?_⟩
    have sL := @same_new _ _ (.lst xs) nL
    refine ⟨Nat.zero_le _, fun D nD => ?_⟩
    have sD := @same_new _ _ (.lst []) nD
    have pen3 := (pen1.same sL).same sD
    have nLp : L ≠ p := fun z => pen1.there (z ▸ nL)
    have nLc : L ≠ c := fun z => pen1.cells (z ▸ nL)
    have nDp : D ≠ p := fun z => (pen1.same sL).there (z ▸ nD)
    have nDc : D ≠ c := fun z => (pen1.same sL).cells (z ▸ nD)
    have nLD : L ≠ D := ne_of_none upd_same nD
    have nlL : l ≠ L := ne_of_none hl1 nL
    have nlD : l ≠ D := ne_of_none (sL _ _ hl1) nD
    have fL : H L = none := bt1.free nL pen1.there
    have fD : H D = none := bt1.free (sL.free nD) pen1.there
    refine ⟨_, rfl, l, xs, rfl, .inl (SqL.of (sD _ _ (sL _ _ hl1))), (xs.length : Int), rfl, by omega, by omega, for_range (lo := 0) (n := (xs.length : Int).toNat) (fun j σ H' => ∃ y5, ∃ ls fs : List Nat, σ = [some (.ref p), some (.ref l), some (.int r1), some (.ref L), some (.ref D), y5] ∧ PenAt H' p c (n + 1 + 3 * j) ∧ But p H H' ∧
        H' L = some (.lst (pick xs ls)) ∧ H' D = some (.lst (pick xs fs)) ∧ ls.length + j = xs.length ∧ fs.length ≤ 2 * j ∧ j ≤ fs.length ∧ (∀ i ∈ ls, i < xs.length) ∧ (∀ i ∈ fs, i < xs.length) ∧ (∀ i < xs.length, i ∈ ls ∨ i ∈ fs))
      ⟨_, List.range xs.length, [], rfl, pen3, bt1.tr ((But.of sL).tr (.of sD)), ?_, upd_same, by simp, Nat.le_refl _, Nat.le_refl _, fun i hi => List.mem_range.mp hi, fun i hi => (nomatch hi), fun i hi => .inl (List.mem_range.mpr hi)⟩ ?_ ?_⟩
    · rw [pick_range]
      exact sD _ _ upd_same
    · rintro j σ H4 hj ⟨y5, ls, fs, rfl, pen4, bt4, hL4, hD4, z1, z2, z2', z3, z4, z5⟩
      rw [Int.toNat_natCast] at hj
      have ll : (pick xs ls).length = ls.length := List.length_map _
      refine ⟨_, rfl, .inl ⟨rfl, _, SqL.of hD4⟩, _, rfl, .inl ⟨rfl, _, SqL.of hL4⟩, _, rfl, _, rfl, L, _, rfl, .inl (SqL.of hL4), p, c, _, _, rfl, pen4, by omega, by rw [ll]; omega, by rw [ll]; omega, fun r2 H5 a2 b2 pen5 bt5 => ?_⟩
      rw [ll] at b2
      have lt2 : r2.toNat < ls.length := by omega
      have hL5 := bt5 _ _ hL4 nLp
      have hD5 := bt5 _ _ hD4 nDp
      obtain ⟨v, hv⟩ : ∃ v, ls[r2.toNat]? = some v := ⟨_, List.getElem?_eq_getElem lt2⟩
      have hpv : (pick xs ls)[r2.toNat]? = some (xs.getD v .non) := by
        unfold pick
        rw [List.getElem?_map, hv]
        rfl
      have mv := List.mem_of_getElem? hv
      refine ⟨L, _, r2, _, _, rfl, rfl, hL5, by omega, by omega, seqIx a2 (by rw [ll]; exact b2), hpv, ?_⟩
      have eL : (pick xs ls).eraseIdx r2.toNat = pick xs (ls.eraseIdx r2.toNat) := by
        unfold pick
        rw [List.eraseIdx_eq_take_drop_succ, List.eraseIdx_eq_take_drop_succ, List.map_append, List.map_take, List.map_drop]
      rw [eL]
      have lf : (pick xs fs).length = fs.length := List.length_map _
      refine ⟨D, _, _, rfl, rfl, (upd_ne nLD.symm).trans hD5, (by rw [lf]; exact small1000 (by omega)), ?_⟩
      have eD : pick xs fs ++ [xs.getD v .non] = pick xs (fs ++ [v]) := by
        unfold pick
        rw [List.map_append]
        rfl
      rw [eD]
      have pen6 := (pen5.upd (o := .lst (pick xs (ls.eraseIdx r2.toNat))) nLp nLc).upd (o := .lst (pick xs (fs ++ [v]))) nDp nDc
      have hL6 : (upd (upd H5 L (.lst (pick xs (ls.eraseIdx r2.toNat)))) D (.lst (pick xs (fs ++ [v])))) L = some (.lst (pick xs (ls.eraseIdx r2.toNat))) := (upd_ne nLD).trans upd_same
      have hD6 : (upd (upd H5 L (.lst (pick xs (ls.eraseIdx r2.toNat)))) D (.lst (pick xs (fs ++ [v])))) D = some (.lst (pick xs (fs ++ [v]))) := upd_same
      have bt6 : But p H (upd (upd H5 L (.lst (pick xs (ls.eraseIdx r2.toNat)))) D (.lst (pick xs (fs ++ [v])))) := fun b o e nb => (upd_ne (ne_of_none e fD)).trans ((upd_ne (ne_of_none e fL)).trans ((bt4.tr bt5) b o e nb))
      generalize upd (upd H5 L (.lst (pick xs (ls.eraseIdx r2.toNat)))) D (.lst (pick xs (fs ++ [v]))) = H6 at pen6 hL6 hD6 bt6
      have w1 : (ls.eraseIdx r2.toNat).length + (j + 1) = xs.length := by
        rw [List.length_eraseIdx, if_pos lt2]
        omega
      have w3 : ∀ i ∈ ls.eraseIdx r2.toNat, i < xs.length := fun i hi => z3 i (List.mem_of_mem_eraseIdx hi)
      have w4 : ∀ i ∈ fs ++ [v], i < xs.length := fun i hi => (List.mem_append.mp hi).elim (z4 i) fun h => by rw [List.mem_singleton.mp h]; exact z3 v mv
      have w5 : ∀ i < xs.length, i ∈ ls.eraseIdx r2.toNat ∨ i ∈ fs ++ [v] := fun i hi => (z5 i hi).elim (fun h => (mem_erase_or hv h).elim (fun e => .inr (List.mem_append.mpr (.inr (List.mem_singleton.mpr e)))) .inl) fun h => .inr (List.mem_append.mpr (.inl h))
      refine ⟨_, rfl, p, c, _, 5, rfl, pen6, by omega, by decide, by decide, fun r3 H7 a3 b3 pen7 bt7 => ⟨rfl, _, rfl, ite2 (fun _ => ?_) (fun _ => ?_)⟩⟩
      · have hL7 := bt7 _ _ hL6 nLp
        have hD7 := bt7 _ _ hD6 nDp
        have lf1 : (pick xs (fs ++ [v])).length = fs.length + 1 := by unfold pick; rw [List.length_map, List.length_append]; rfl
        refine ⟨_, rfl, .inl ⟨rfl, _, SqL.of hD7⟩, _, rfl, _, rfl, _, rfl, D, _, rfl, .inl (SqL.of hD7), p, c, _, _, rfl, pen7, by omega, by rw [lf1]; omega, by rw [lf1]; omega, fun r4 H8 a4 b4 pen8 bt8 => ?_⟩
        rw [lf1] at b4
        have hL8 := bt8 _ _ hL7 nLp
        have hD8 := bt8 _ _ hD7 nDp
        have lt4 : r4.toNat < (fs ++ [v]).length := by rw [List.length_append]; simp only [List.length_cons, List.length_nil]; omega
        obtain ⟨u, hu⟩ : ∃ u, (fs ++ [v])[r4.toNat]? = some u := ⟨_, List.getElem?_eq_getElem lt4⟩
        have at4 : atI (pick xs (fs ++ [v])) r4 = some (xs.getD u .non) := by
          have := atI_nat (xs := pick xs (fs ++ [v])) (j := r4.toNat) (v := xs.getD u .non) (by unfold pick; rw [List.getElem?_map, hu]; rfl)
          rwa [Int.toNat_of_nonneg a4] at this
        refine ⟨D, _, r4, _, rfl, rfl, SqL.of hD8, at4, D, _, _, rfl, rfl, hD8, (by rw [lf1]; exact small1000 (by omega)), _, ls.eraseIdx r2.toNat, fs ++ [v] ++ [u], rfl, (pen8.mono (by omega)).upd nDp nDc, fun b o e nb => (upd_ne (ne_of_none e fD)).trans ((bt6.tr (bt7.tr bt8)) b o e nb), (upd_ne nLD).trans hL8, ?_, w1, ?_, ?_, w3, ?_, ?_⟩
        · rw [upd_same]
          unfold pick
          rw [List.map_append (l₂ := [u])]
          rfl
        · simp only [List.length_append, List.length_cons, List.length_nil]; omega
        · simp only [List.length_append, List.length_cons, List.length_nil]; omega
        · intro i hi
          rcases List.mem_append.mp hi with h | h
          · exact w4 i h
          · rw [List.mem_singleton.mp h]; exact w4 u (List.mem_of_getElem? hu)
        · exact fun i hi => (w5 i hi).imp id fun h => List.mem_append.mpr (.inl h)
      · exact ⟨_, _, _, rfl, pen7.mono (by omega), bt6.tr bt7, bt7 _ _ hL6 nLp, bt7 _ _ hD6 nDp, w1, by simp only [List.length_append, List.length_cons, List.length_nil]; omega, by simp only [List.length_append, List.length_cons, List.length_nil]; omega, w3, w4, w5⟩
    · rintro σ H4 ⟨y5, ls, fs, rfl, pen4, bt4, hL4, hD4, z1, z2, z2', z3, z4, z5⟩
      rw [Int.toNat_natCast] at z1 z2
      have l0 : ls = [] := List.length_eq_zero_iff.mp (by omega)
      have mx : Mixed xs.length fs := ⟨z4, fun i hi => (z5 i hi).resolve_left (by rw [l0]; exact fun z => nomatch z), z2⟩
      refine ⟨_, rfl, rfl, _, rfl, ite2 (fun _ => ?_) (fun _ => ?_)⟩
      · refine ⟨_, rfl, D, _, rfl, .inl ⟨SqL.of hD4, fun tp ntp => ?_⟩⟩
        exact q tp fs _ (bt4.free ntp pen4.there) mx (.inr upd_same) ((pen4.mono (by omega)).same (same_new ntp)) (bt4.tr (.of (same_new ntp)))
      · exact ⟨_, rfl, q D fs H4 fD mx (.inl hD4) (pen4.mono (by omega)) bt4⟩
end
/-! ### a house told as it is due -/
def spRight (K : PySem.W.Frag) : Sp := fun vs H Q _ => ∃ (a b : Addr) (x y z : Addr) (u v t : List V) (d : PyData), vs = [.ref a, .ref b] ∧ H a = some (.tup [.ref x, .ref y, .ref z]) ∧ H x = some (.tup u) ∧ H y = some (.tup v) ∧ H z = some (.tup t) ∧ Dp K H (.ref a) d ∧ Dp K H (.ref b) d ∧ Short d 10000 3 ∧
  ∀ H', Same H H' → Q (.bl true) H'
section
variable {P : Program} {w : World} {K : PySem.W.Frag} {mg : Str → Option Value} {base : Heap}
abbrev sRightN : List Str := ["_law_found", "_law_due", "_law_part"]
theorem sc_sRight : FnScope sRightN ["_law_found", "_law_due"] (defScope sRight) := ⟨rfl, rfl, rfl, by decide +kernel, rfl, by decide +kernel, by decide +kernel⟩
theorem ok_right {f : Addr} {fd : FuncData} (F : Fun K "_law_right" "_law_right" sRight f fd) (mis : mg "isinstance" = none) (mT_tuple : mg "tuple" = none) (ml : mg "len" = none) (mal : mg "all" = none) (mp : mg "repr" = none) : FnG P w K mg base 1 f fd ["_law_found", "_law_due"] (spRight K) := by
  refine Fun.okG F sc_sRight (fun vs H Q E h => ?_) (fun cdv A outer s H vs Q E hG hr h => ?_)
  · obtain ⟨a, b, x, y, z, u, v, t, d, rfl, _⟩ := h
    rfl
  · obtain ⟨a, b, x, y, z, u, v, t, d, rfl, h0, h1, h2, h3, da, db, sh, q⟩ := h
    have nd := sc_sRight.nd
    have nd := sc_sRight.nd
    refine ⟨_, pss_cons (ps_if (PW.pt (pw_or (pt_not (pt_val (pe_callB call_isi (by rfl) mis (by decide +kernel) (pa_cons (pv 0) (pa_cons (pe_bltn (v := .ty "tuple") (u := .type "tuple") (by rfl) mT_tuple (by decide +kernel) rfl) pa_nil))))) (pw_or1 (pt_cmpR op_ne (pe_callB call_len_seq (by rfl) ml PySem.boot_len (pa_cons (pv 0) pa_nil)) pe_int (nomark _))))) (pss_one (ps_ret pe_bl)) pss_nil)
      (pss_one (ps_ret (pe_and (pe_callB (cr_all rfl) (by rfl) mal (by decide +kernel) (pa_cons (pe_lc (own := [("_law_part", 2)]) (g := gName 2) (tt := tYes) (te := tCB (rIsi K) (tCons (tVar 2) (tCons (tC (V.ty "tuple")) tNil))) rfl nd (pi_tup (pv 0)) (blkOk_by (N := sRightN) (sc := defScope sRight) (by decide +kernel)) (fun _ _ _ _ _ => (pg_name (i := 2) nd rfl (Or.inl rfl))) (fun _ _ _ _ _ => pts_nil) (fun _ _ _ _ _ => (pe_callB call_isi (by rfl) mis (by decide +kernel) (pa_cons (pv 2) (pa_cons (pe_bltn (v := .ty "tuple") (u := .type "tuple") (by rfl) mT_tuple (by decide +kernel) rfl) pa_nil))))) pa_nil)) (pe_one (pe_cmpR op_eq (pe_callB (cr_repr hG hr.units) (by rfl) mp (by decide +kernel) (pa_cons (pv 0) pa_nil)) (pe_callB (cr_repr hG hr.units) (by rfl) mp (by decide +kernel) (pa_cons (pv 1) pa_nil)) (nomark _)))))), ?_⟩
    refine ⟨_, rfl, _, _, _, _, true, rfl, .ty "tuple", .base (.tup h0), kit_ty (by decide +kernel), _, rfl, iteF ⟨_, rfl, a, _, rfl, .inr (SqT.of h0), rfl, false, rfl, iteF ?_⟩⟩
    refine ⟨_, rfl, a, rfl, ⟨_, SqT.of h0⟩, fun D nD => ?_⟩
    have sD := @same_new _ _ (.lst []) nD
    refine lc_tup (K := K) (a := a) (xs := [.ref x, .ref y, .ref z]) (fun i H' => Same H H' ∧ H' D = some (.lst ((List.replicate i true).map V.bl))) ⟨sD, upd_same⟩ (fun i H' _ h => SqT.of (h.1 _ _ h0)) ?_ ?_
    · rintro i w' H' hx ⟨sm, hD⟩
      have lt : i < 3 := (List.getElem?_eq_some_iff.mp hx).1
      obtain ⟨b', ys, rfl, hb⟩ : ∃ b' ys, w' = V.ref b' ∧ H b' = some (.tup ys) := by
        have m := List.mem_of_getElem? hx
        simp only [List.mem_cons, List.not_mem_nil, or_false] at m
        rcases m with rfl | rfl | rfl
        · exact ⟨_, _, rfl, h1⟩
        · exact ⟨_, _, rfl, h2⟩
        · exact ⟨_, _, rfl, h3⟩
      refine ⟨rfl, yesT ⟨_, rfl, _, _, _, _, true, rfl, .ty "tuple", .base (.tup (sm _ _ hb)), kit_ty (by decide +kernel), _, hD, ?_, ?_, ?_⟩⟩
      · rw [List.length_map, List.length_replicate]
        exact small1000 (by omega)
      · exact fun b o e => (upd_ne (ne_of_none e nD)).trans (sm b o e)
      · rw [upd_same, List.replicate_succ', List.map_append]
        rfl
    · rintro H' ⟨sm, hD⟩
      refine ⟨D, _, rfl, SqL.of hD, ?_⟩
      refine ⟨true, rfl, iteT ⟨_, rfl, a, d, rfl, Shelf.Dp.on sm da, sh.sh, sh.nd, Nat.le_trans sh.dp (by decide), sh.fits (by decide), _, rfl, b, d, rfl, Shelf.Dp.on sm db, sh.sh, sh.nd, Nat.le_trans sh.dp (by decide), sh.fits (by decide), rfl, ?_⟩⟩
      rw [decide_eq_true rfl]
      exact q _ sm
end
/-! ### the parts told, the law -/
theorem name_ok {y : Str} (h : nameB y = true) : PyData.strOk y = true := by
  have all : y.cps.toList.all signB = true := by
    unfold nameB at h
    rw [Bool.and_eq_true] at h
    exact h.2
  have low : ∀ c ∈ abc.cps.toList, c < 0x110000 := by decide +kernel
  unfold PyData.strOk
  rw [← Array.all_toList, List.all_eq_true]
  intro c hc
  exact decide_eq_true (low c (of_decide_eq_true (List.all_eq_true.mp all c hc)))
theorem lay_strs : ∀ {ys : List Str}, (∀ y ∈ ys, nameB y = true) → PyData.canLayAll0 (ys.map PyData.str) = true
  | [], _ => rfl
  | y :: r, h => by
    rw [List.map_cons, PyData.canLayAll0, PyData.canLay0, name_ok (h y List.mem_cons_self), lay_strs fun z hz => h z (List.mem_cons_of_mem _ hz)]
    rfl
theorem deep_strs : ∀ ys : List Str, PyData.depthAll (ys.map PyData.str) = 0
  | [] => rfl
  | _ :: r => by simp [PyData.depthAll, PyData.depth, deep_strs r]
theorem shaped_strs {ys : List Str} (h : ∀ y ∈ ys, nameB y = true) : SeqAt.shaped (.tuple (ys.map PyData.str)) = true := by
  simp [SeqAt.shaped, PyData.canLay0, PyData.depth, lay_strs h, deep_strs]
/-! ### entries as data, compared -/
theorem word_ok (e : Ent) : PyData.strOk e.word = true := by
  have h : ∀ x ∈ words7, PyData.strOk x = true := by decide +kernel
  exact h _ e.word_in
theorem entD_cons (e : Ent) : entD e = .tuple (.str e.word :: .str e.name :: .int e.moment :: e.rest.map dV) := rfl
theorem rest_lay {e : Ent} {P G HL : List Str} (hP : ∀ y ∈ P, nameB y = true) (hG : ∀ y ∈ G, nameB y = true) (hH : ∀ y ∈ HL, nameB y = true) (h : e.From P G HL) : PyData.canLayAll0 (e.rest.map dV) = true := by
  have e0 : PyData.strOk "" = true := by decide +kernel
  cases e with
  | come n m g p k r => simp [Ent.rest, dV, PyData.canLayAll0, PyData.canLay0, name_ok (hG _ h.1), name_ok (hP _ h.2.1)]
  | go n m g p k => simp [Ent.rest, dV, PyData.canLayAll0, PyData.canLay0, name_ok (hG _ h.1), name_ok (hP _ h.2.1)]
  | move n m g o t k => simp [Ent.rest, dV, PyData.canLayAll0, PyData.canLay0, name_ok (hG _ h.1), name_ok (hP _ h.2.1), name_ok (hP _ h.2.2.1)]
  | some_ n m g o t =>
    have ot : PyData.strOk t = true := by
      rcases h.2.2 with z | z
      · rw [z]; exact e0
      · exact name_ok (hP _ z.1)
    simp [Ent.rest, dV, PyData.canLayAll0, PyData.canLay0, name_ok (hG _ h.1), name_ok (hP _ h.2.1), ot]
  | swap n m o t => simp [Ent.rest, dV, PyData.canLayAll0, PyData.canLay0, name_ok (hP _ h.1), name_ok (hP _ h.2.1)]
  | count n m g p k hd => simp [Ent.rest, dV, PyData.canLayAll0, PyData.canLay0, name_ok (hG _ h.1), name_ok (hP _ h.2.1), name_ok (hH _ h.2.2.2.2)]
  | look n m g p => simp [Ent.rest, dV, PyData.canLayAll0, PyData.canLay0, name_ok (hG _ h.1), name_ok (hP _ h.2)]
theorem dV_depth : ∀ vs : List V, PyData.depthAll (vs.map dV) = 0
  | [] => rfl
  | v :: r => by
    rw [List.map_cons]
    cases v <;> simp [dV, PyData.depthAll, PyData.depth, dV_depth r]
theorem entD_depth (e : Ent) : (entD e).depth = 1 := by
  unfold entD
  rw [PyData.depth, dV_depth]
theorem shaped_entF {e : Ent} {P G HL : List Str} (n1 : nameB e.name = true) (hP : ∀ y ∈ P, nameB y = true) (hG : ∀ y ∈ G, nameB y = true) (hH : ∀ y ∈ HL, nameB y = true) (h : e.From P G HL) : SeqAt.shaped (entD e) = true := by
  unfold SeqAt.shaped
  rw [entD_depth, entD_cons, PyData.canLay0]
  simp only [PyData.canLayAll0, PyData.canLay0, word_ok, name_ok n1, rest_lay hP hG hH h, Bool.and_self]
  decide
/-! ### the law -/
structure DefG (P : Program) (w : World) (K : PySem.W.Frag) (mg : Str → Option Value) (base : Heap) (x : Str) (k : Nat) (f : Addr) (fd : FuncData) (ps : List Str) (sp : Sp) : Prop where
  ok : FnG P w K mg base k f fd ps sp
  g : mg x = some (.ref f)
  kp : PySem.W.keepIn K (.ref f) = true
  b : Binds K fd ps []
def Kp (p : Addr) (H H' : Hp) : Prop := ∀ b o, H b = some o → (∀ ps, o ≠ .tbl ps) → b ≠ p → H' b = some o
theorem Kp.tr {p : Addr} {H H1 H2 : Hp} (a : Kp p H H1) (b : Kp p H1 H2) : Kp p H H2 := fun c o e n np => b c o (a c o e n np) n np
theorem Kp.but {p : Addr} {H H' : Hp} (a : But p H H') : Kp p H H' := fun b o e _ np => a b o e np
theorem Kp.same {p : Addr} {H H' : Hp} (a : Same H H') : Kp p H H' := fun b o e _ _ => a b o e
theorem Kp.tb {p : Addr} {Ts : List Addr} {H H' : Hp} (a : TB1 Ts H H') : Kp p H H' := fun b o e n _ => a.2 b o e n
theorem Kp.tk {p c : Addr} {n : Nat} {H H' : Hp} (pen : PenAt H p c n) (a : Kp p H H') : TK H H' := fun b xs e => by
  obtain ⟨kvs, ns', a', x', g1, _⟩ := pen.ex
  exact a b _ e (fun _ z => nomatch z) (ne_of e g1 (by intro z; cases z))
theorem Kp.lst {p c : Addr} {n : Nat} {H H' : Hp} (pen : PenAt H p c n) (a : Kp p H H') {l : Addr} {xs : List V} (e : H l = some (.lst xs)) : H' l = some (.lst xs) := by
  obtain ⟨kvs, ns', a', x', g1, _⟩ := pen.ex
  exact a l _ e (fun _ z => nomatch z) (ne_of e g1 (by intro z; cases z))
theorem tabs_but {H H' : Hp} {Ts : List Addr} {p c : Addr} {n : Nat} (t : TabsG Ts H) (pen : PenAt H p c n) (b : But p H H') : TabsG Ts H' := fun T hT => by
  obtain ⟨ps, e, ok⟩ := t T hT
  obtain ⟨kvs, ns', a', x', g1, _⟩ := pen.ex
  exact ⟨ps, b T _ e (ne_of e g1 (by intro z; cases z)), ok⟩
theorem PenAt.tb {Ts : List Addr} {H H' : Hp} {p c : Addr} {n : Nat} (pen : PenAt H p c n) (b : TB1 Ts H H') : PenAt H' p c n := by
  obtain ⟨kvs, ns, a, x, g1, g2, g3, g4, g5, g6, g7⟩ := pen.ex
  exact ⟨kvs, ns, a, x, b.2 _ _ g1 fun _ z => (nomatch z), g2, g3, g4, g5, b.2 _ _ g6 fun _ z => (nomatch z), g7⟩
/-- a list or a tuple as data, whatever became of the heap -/
theorem lt_dp {K : PySem.W.Frag} {H : Hp} {r : Addr} {vs : List V} (h : LT H r vs) {ds : List PyData} {n k m : Nat} (sh : ∀ d ∈ ds, Short d n k) (le : ds.length * (n + 1) ≤ m) : ∃ d, Short d m (k + 1) ∧ ∀ H' : Hp, (∀ o, H r = some o → (∀ ps, o ≠ .tbl ps) → H' r = some o) → DpAll K H' vs ds → Dp K H' (.ref r) d := by
  rcases h with h | h
  · exact ⟨.list ds, short_lst sh le, fun H' k dp => .lst (SqL.of (k _ h fun _ z => nomatch z)) dp⟩
  · exact ⟨.tuple ds, short_tup sh le, fun H' k dp => .tup (SqT.of (k _ h fun _ z => nomatch z)) dp⟩
theorem of_from {e : Ent} {P G HL : List Str} (h : e.From P G HL) : ofB e P G = true := by
  unfold ofB goodOk
  cases e with
  | come n m g p k r => simp [Ent.goodV, Ent.places, h.1, h.2.1]
  | go n m g p k => simp [Ent.goodV, Ent.places, h.1, h.2.1]
  | move n m g o t k => simp [Ent.goodV, Ent.places, h.1, h.2.1, h.2.2.1]
  | some_ n m g o t =>
    by_cases z : t = ""
    · simp [Ent.goodV, Ent.places, h.1, h.2.1, z]
    · simp [Ent.goodV, Ent.places, h.1, h.2.1, z, ((h.2.2).resolve_left z).1]
  | swap n m o t => simp [Ent.goodV, Ent.places, h.1, h.2.1]
  | count n m g p k hd => simp [Ent.goodV, Ent.places, h.1, h.2.1]
  | look n m g p => simp [Ent.goodV, Ent.places, h.1, h.2]
theorem onceR_perm {xs PL : List Str} (nd : PL.Nodup) (h1 : ∀ x ∈ xs, x ∈ PL) (h2 : ∀ x ∈ PL, x ∈ xs) : (onceR xs).Perm PL :=
  perm_of_in (onceR_nodup xs) nd fun y => ⟨fun h => h1 y ((onceR_mem xs y).mp h), fun h => (onceR_mem xs y).mpr (h2 y h)⟩
theorem name_tells {pr : List (Addr × Ent)} (nd : (pr.map fun x => x.2.name).Nodup) {x y : Addr × Ent} (hx : x ∈ pr) (hy : y ∈ pr) (e : x.2.name = y.2.name) : x = y := by
  obtain ⟨i, hi⟩ := List.mem_iff_getElem?.mp hx
  obtain ⟨j, hj⟩ := List.mem_iff_getElem?.mp hy
  have : i = j := (List.getElem?_inj (by rw [List.length_map]; exact (List.getElem?_eq_some_iff.mp hi).1) nd).mp (by rw [List.getElem?_map, List.getElem?_map, hi, hj]; exact congrArg some e)
  rw [this, hj] at hi
  exact (Option.some.inj hi).symm
/-- what a turn has drawn -/
structure Drawn (H : Hp) (l1 l2 D U t1 t2 t3 : Addr) (PL GL HL P1 G1 : List Str) (pr : List (Addr × Ent)) : Prop where
  p1 : H l1 = some (.lst (PL.map V.str))
  p2 : H l2 = some (.lst (GL.map V.str))
  pD : H D = some (.lst (pr.map fun x => V.ref x.1))
  pE : ∀ x ∈ pr, H x.1 = some (.tup x.2.vals)
  u : H U = some (.tup [.ref t1, .ref t2, .ref t3])
  u1 : H t1 = some (.tup (P1.map V.str))
  u2 : H t2 = some (.tup (G1.map V.str))
  u3 : H t3 = some (.tup ((sortE pr).map fun x => V.ref x.1))
theorem Drawn.on {H H' : Hp} {p c : Addr} {n : Nat} {l1 l2 D U t1 t2 t3 : Addr} {PL GL HL P1 G1 : List Str} {pr : List (Addr × Ent)} (d : Drawn H l1 l2 D U t1 t2 t3 PL GL HL P1 G1 pr) (pen : PenAt H p c n) (k : Kp p H H') : Drawn H' l1 l2 D U t1 t2 t3 PL GL HL P1 G1 pr :=
  ⟨k.lst pen d.p1, k.lst pen d.p2, k.lst pen d.pD, fun x hx => k.tk pen _ _ (d.pE x hx), k.tk pen _ _ d.u, k.tk pen _ _ d.u1, k.tk pen _ _ d.u2, k.tk pen _ _ d.u3⟩
structure DrawnOk (PL GL HL P1 G1 : List Str) (pr : List (Addr × Ent)) : Prop where
  n1 : ∀ y ∈ PL, nameB y = true
  n2 : ∀ y ∈ GL, nameB y = true
  n3 : ∀ y ∈ HL, nameB y = true
  d1 : PL.Nodup
  d2 : GL.Nodup
  z1 : 1 ≤ PL.length ∧ PL.length ≤ 6
  z2 : 1 ≤ GL.length ∧ GL.length ≤ 3
  nd : (pr.map fun x => x.2.name).Nodup
  len : pr.length ≤ 30
  ent : ∀ x ∈ pr, nameB x.2.name = true ∧ 0 ≤ x.2.moment ∧ x.2.moment ≤ 9999 ∧ x.2.From PL GL HL
  q1 : P1.Perm PL
  s1 : sortedS P1 = true
  q2 : G1.Perm GL
  s2 : sortedS G1 = true
theorem DrawnOk.short {PL GL HL P1 G1 : List Str} {pr : List (Addr × Ent)} (k : DrawnOk PL GL HL P1 G1 pr) : Short (houseD P1 G1 ((sortE pr).map (·.2))) 10000 3 := by
  refine short_tup (n := 3000) (k := 2) (fun d hd => ?_) (by show 3 * 3001 ≤ 10000; decide)
  simp only [List.mem_cons, List.not_mem_nil, or_false] at hd
  rcases hd with rfl | rfl | rfl
  · exact (short_names (fun y hy => k.n1 y (k.q1.mem_iff.mp hy)) (by rw [k.q1.length_eq]; have := k.z1; omega)).mono (by decide) (by decide)
  · exact (short_names (fun y hy => k.n2 y (k.q2.mem_iff.mp hy)) (by rw [k.q2.length_eq]; have := k.z2; omega)).mono (by decide) (by decide)
  · refine short_tup (n := 70) (k := 1) (fun d hd => ?_) (by rw [List.length_map, List.length_map, (sortE_p pr).length_eq]; have := k.len; omega)
    obtain ⟨e, he, rfl⟩ := List.mem_map.mp hd
    obtain ⟨x, hx, rfl⟩ := List.mem_map.mp he
    obtain ⟨e1, e2, e3, e5⟩ := k.ent x ((sortE_p pr).mem_iff.mp hx)
    exact short_ent e1 e2 e3 k.n1 k.n2 k.n3 e5
theorem house_at {K : PySem.W.Frag} {H : Hp} {h hp hg he : Addr} {P G : List Str} {qr : List (Addr × Ent)} (h0 : H h = some (.tup [.ref hp, .ref hg, .ref he])) (h1 : H hp = some (.tup (P.map V.str))) (h2 : H hg = some (.tup (G.map V.str))) (h3 : H he = some (.tup (qr.map fun x => V.ref x.1))) (hE : ∀ x ∈ qr, H x.1 = some (.tup x.2.vals)) : Dp K H (.ref h) (houseD P G (qr.map (·.2))) :=
  HouseAt.dp ⟨hp, hg, he, qr.map (·.1), h0, h1, h2, by rw [h3, List.map_map]; rfl, ents_pairs hE⟩
def spLaw (K : PySem.W.Frag) (Ts : List Addr) : Sp := fun vs H Q _ => ∃ (a : Addr) (ns : List Int), vs = [.ref a] ∧ SqL K H a (ns.map V.int) ∧ TabsG Ts H ∧ ∀ H', Q (.bl true) H'
section
variable {P : Program} {w : World} {K : PySem.W.Frag} {mg : Str → Option Value} {base : Heap}
abbrev sLawN : List Str := ["_law_script", "_law_pen_here", "_law_turn", "_law_many_here", "_law_places", "_law_goods", "_law_hands", "_law_names_here", "_law_moments_here", "_law_entries", "_law_k", "_law_due", "_law_again", "_law_handed", "_law_kept", "_law_found", "_law_some"]
theorem sc_sLaw : FnScope sLawN ["_law_script"] (defScope sLaw) := ⟨rfl, rfl, rfl, by decide +kernel, rfl, by decide +kernel, by decide +kernel⟩
set_option maxHeartbeats 4000000 in
theorem ok_law {f : Addr} {fd : FuncData} (F : Fun K "law" "law" sLaw f fd) {Ts : List Addr}
    {fP fT fW fM fE fO fX fH fR : Addr} {dP dT dW dM dE dO dX dH dR : FuncData}
    (GP : DefT P w K mg base "_law_pen" 1 fP dP ["_law_script"] (spPen K)) (T : TakeT P w K mg base fT dT)
    (W : DefT P w K mg base "_law_words" 3 fW dW ["_law_pen_here", "_law_places", "_law_goods", "_law_entries"] spWords)
    (M : DefT P w K mg base "_law_moments" 2 fM dM ["_law_pen_here", "_law_many_here"] spMoments)
    (EN : DefT P w K mg base "_law_entry" 4 fE dE ["_law_pen_here", "_law_name", "_law_moment", "_law_places", "_law_goods", "_law_hands"] spEntry)
    (O : DefT P w K mg base "_law_order" 1 fO dO ["_law_entry_here"] spOrd) (MX : DefT P w K mg base "_law_mixed" 2 fX dX ["_law_pen_here", "_law_things"] spMixed)
    (HO : DefT P w K mg base "house_of" 7 fH dH ["places", "goods", "entries"] (spHouseOf Ts)) (RT : DefG P w K mg base "_law_right" 1 fR dR ["_law_found", "_law_due"] (spRight K))
    (mr : mg "range" = none) (ms : mg "sorted" = none) (mt : mg "tuple" = none) (mp : mg "repr" = none) (mis : mg "isinstance" = none) (mT_list : mg "list" = none) : FnG P w K mg base 8 f fd ["_law_script"] (spLaw K Ts) := by
  refine Fun.okG F sc_sLaw (fun vs H Q E h => ?_) (fun cdv A outer s H vs Q E hG hr h => ?_)
  · obtain ⟨a, ns, rfl, _⟩ := h
    rfl
  · obtain ⟨a, ns, rfl, hS, tg0, q⟩ := h
    have nd := sc_sLaw.nd
    have hr1 : Room 1 _ := hr.mono (by decide)
    have hr2 : Room 2 _ := hr.mono (by decide)
    have hr3 : Room 3 _ := hr.mono (by decide)
    have hr4 : Room 4 _ := hr.mono (by decide)
    have nd := sc_sLaw.nd
    have hr1 : Room 1 _ := hr.mono (by decide)
    have hr2 : Room 2 _ := hr.mono (by decide)
    have hr3 : Room 3 _ := hr.mono (by decide)
    have hr4 : Room 4 _ := hr.mono (by decide)
    refine ⟨_, pss_cons (ps_set (i := 1) nd rfl (Or.inr rfl) (pe_call GP.ok hr1 (by rfl) GP.g GP.kp GP.b .nil pass0 (pa_cons (pv 0) pa_nil)))
      (pss_cons (ps_for PassesOwn.never rfl (pi_range1 rfl mr (pa_cons pe_int pa_nil)) (pg_name (i := 2) nd rfl (Or.inl rfl))
        (pss_cons (ps_set (i := 3) nd rfl (Or.inl rfl) (pe_ix ix_list (pe_lst (pa_cons pe_int (pa_cons pe_int (pa_cons (pe_call T.ok hr1 (by rfl) T.g T.kp T.b .nil pass0 (pa_cons (pv 1) (pa_cons pe_int pa_nil))) (pa_cons (pe_call T.ok hr1 (by rfl) T.g T.kp T.b .nil pass0 (pa_cons (pv 1) (pa_cons pe_int pa_nil))) pa_nil))))) (pe_call T.ok hr1 (by rfl) T.g T.kp T.b .nil pass0 (pa_cons (pv 1) (pa_cons pe_int pa_nil))) (fun _ _ => rfl)))
        (pss_cons (ps_asg (pe_call W.ok hr3 (by rfl) W.g W.kp W.b .nil pass0 (pa_cons (pv 1) (pa_cons (pe_op op_add pe_int (pe_call T.ok hr1 (by rfl) T.g T.kp T.b .nil pass0 (pa_cons (pv 1) (pa_cons pe_int pa_nil)))) (pa_cons (pe_op op_add pe_int (pe_call T.ok hr1 (by rfl) T.g T.kp T.b .nil pass0 (pa_cons (pv 1) (pa_cons pe_int pa_nil)))) (pa_cons (pv 3) pa_nil))))) (pg_tup (by rfl) (pgs_cons (pg_name (i := 4) nd rfl (Or.inr rfl)) (pgs_cons (pg_name (i := 5) nd rfl (Or.inr rfl)) (pgs_cons (pg_name (i := 6) nd rfl (Or.inr rfl)) (pgs_cons (pg_name (i := 7) nd rfl (Or.inr rfl)) pgs_nil))))))
        (pss_cons (ps_set (i := 8) nd rfl (Or.inr rfl) (pe_call M.ok hr2 (by rfl) M.g M.kp M.b .nil pass0 (pa_cons (pv 1) (pa_cons (pv 3) pa_nil))))
        (pss_cons (ps_setLc (i := 9) (own := [("_law_k", 10)]) (g := gName 10) (tt := tYes) (te := tCall spEntry [] E0 (tCons (tVar 1) (tCons (tOp (rIxL K) (tVar 7) (tVar 10)) (tCons (tOp (rIxL K) (tVar 8) (tVar 10)) (tCons (tVar 4) (tCons (tVar 5) (tCons (tVar 6) tNil))))))) rfl nd rfl rfl (sw_true rfl rfl rfl (by decide +kernel)) (pi_range1 rfl mr (pa_cons (pv 3) pa_nil)) (blkOk_by (N := sLawN) (sc := defScope sLaw) (by decide +kernel)) (fun _ _ _ _ _ => (pg_name (i := 10) nd rfl (Or.inl rfl))) (fun _ _ _ _ _ => pts_nil) (fun _ _ _ _ _ => (pe_call EN.ok hr4 (by rfl) EN.g EN.kp EN.b .nil pass0 (pa_cons (pv 1) (pa_cons (pe_ix ix_list (pv 7) (pv 10) (fun _ _ => rfl)) (pa_cons (pe_ix ix_list (pv 8) (pv 10) (fun _ _ => rfl)) (pa_cons (pv 4) (pa_cons (pv 5) (pa_cons (pv 6) pa_nil)))))))))
        (pss_cons (ps_set (i := 11) nd rfl (Or.inl rfl) (pe_tup (pa_cons (pe_callTy call_tuple_of (by rfl) mt (by decide +kernel) (pa_cons (pe_callB cr_sortedS (by rfl) ms (by decide +kernel) (pa_cons (pv 4) pa_nil)) pa_nil)) (pa_cons (pe_callTy call_tuple_of (by rfl) mt (by decide +kernel) (pa_cons (pe_callB cr_sortedS (by rfl) ms (by decide +kernel) (pa_cons (pv 5) pa_nil)) pa_nil)) (pa_cons (pe_callTy call_tuple_of (by rfl) mt (by decide +kernel) (pa_cons (pe_callBK (cr_sortK O.ok hr3 O.b) (by rfl) ms (by decide +kernel) (pa_cons (pv 9) pa_nil) (pk_cons (pe_glob (v := .ref fO) (by rfl) O.g rfl) pk_nil)) pa_nil)) pa_nil)))))
        (pss_one (ps_for PassesOwn.never rfl (pi_range1 rfl mr (pa_cons pe_int pa_nil)) (pg_name (i := 12) nd rfl (Or.inl rfl))
          (pss_cons (ps_set (i := 13) nd rfl (Or.inl rfl) (pe_lst (pa_cons (pe_call MX.ok hr2 (by rfl) MX.g MX.kp MX.b .nil pass0 (pa_cons (pv 1) (pa_cons (pv 4) pa_nil))) (pa_cons (pe_call MX.ok hr2 (by rfl) MX.g MX.kp MX.b .nil pass0 (pa_cons (pv 1) (pa_cons (pv 5) pa_nil))) (pa_cons (pe_call MX.ok hr2 (by rfl) MX.g MX.kp MX.b .nil pass0 (pa_cons (pv 1) (pa_cons (pv 9) pa_nil))) pa_nil)))))
          (pss_cons (ps_set (i := 14) nd rfl (Or.inl rfl) (pe_callB (cr_repr hG hr.units) (by rfl) mp (by decide +kernel) (pa_cons (pv 13) pa_nil)))
          (pss_cons (ps_set (i := 15) nd rfl (Or.inl rfl) (pe_call HO.ok hr (by rfl) HO.g HO.kp HO.b .nil pass0 (pa_cons (pe_ix ix_list (pv 13) pe_int (fun _ _ => rfl)) (pa_cons (pe_ix ix_list (pv 13) pe_int (fun _ _ => rfl)) (pa_cons (pe_ix ix_list (pv 13) pe_int (fun _ _ => rfl)) pa_nil)))))
          (pss_cons (ps_if (PW.pt (pw_or (pt_not (pt_val (pe_callG RT.ok hG hr1 (by rfl) RT.g RT.kp RT.b (pa_cons (pv 15) (pa_cons (pv 11) pa_nil))))) (pw_or1 (pt_cmpR op_ne (pe_callB (cr_repr hG hr.units) (by rfl) mp (by decide +kernel) (pa_cons (pv 13) pa_nil)) (pv 14) (nomark _))))) (pss_one (ps_ret pe_bl)) pss_nil)
          (pss_cons (ps_for PassesOwn.never rfl (pi_list (pv 13)) (pg_name (i := 16) nd rfl (Or.inl rfl))
            (pss_one (ps_if (pt_val (pe_callB call_isi (by rfl) mis (by decide +kernel) (pa_cons (pv 16) (pa_cons (pe_bltn (v := .ty "list") (u := .type "list") (by rfl) mT_list (by decide +kernel) rfl) pa_nil)))) (pss_one (ps_expr (pe_bm PySem.F.plainAttrs_list PySem.F.slot_list_append PySem.F.type_list_append mt_append (pv 16) (pa_cons pe_non pa_nil)))) pss_nil)))
          (pss_one (ps_if (pt_not (pt_val (pe_callG RT.ok hG hr1 (by rfl) RT.g RT.kp RT.b (pa_cons (pv 15) (pa_cons (pv 11) pa_nil))))) (pss_one (ps_ret pe_bl)) pss_nil)))))))))))))))
      (pss_one (ps_ret pe_bl))), ?_⟩
    refine ⟨_, rfl, a, ns, rfl, hS, fun p c H1 np nc pen1 sm1 => ?_⟩
    refine ⟨2, rfl, by decide, by decide, for_range (lo := 0) (n := 2) (fun j σ H' => ∃ y2 y3 y4 y5 y6 y7 y8 y9 y10 y11 y12 y13 y14 y15 y16, σ = [some (.ref a), some (.ref p), y2, y3, y4, y5, y6, y7, y8, y9, y10, y11, y12, y13, y14, y15, y16] ∧ PenAt H' p c (3000 * j) ∧ TabsG Ts H')
      ⟨_, _, _, _, _, _, _, _, _, _, _, _, _, _, _, rfl, pen1, tabs_sm sm1 tg0⟩ ?_ ?_⟩
    · rintro j σ H2 hj ⟨y2, y3, y4, y5, y6, y7, y8, y9, y10, y11, y12, y13, y14, y15, y16, rfl, pen2, tg2⟩
      refine ⟨_, rfl, p, c, _, 31, rfl, pen2, by omega, by decide, by decide, fun r1 H3 a1 b1 pen3 bt3 => ?_⟩
      refine ⟨_, rfl, p, c, _, 9, rfl, pen3, by omega, by decide, by decide, fun r2 H4 a2 b2 pen4 bt4 => ?_⟩
      refine ⟨(by show 4 ≤ sizeLine; decide), fun l nl => ?_⟩
      have sl := @same_new _ _ (.lst [V.int 30, .int 0, .int r1, .int r2]) nl
      refine ⟨_, rfl, p, c, _, 4, rfl, pen4.same sl, by omega, by decide, by decide, fun r3 H5 a3 b3 pen5 bt5 => ?_⟩
      have nlp : l ≠ p := fun z => pen4.there (z ▸ nl)
      obtain ⟨mo, hm1, hm2⟩ := at_ints (ns := [30, 0, r1, r2]) (r := r3) a3 (by show r3 < 4; omega)
      refine ⟨l, _, _, _, rfl, rfl, SqL.of (bt5 l _ upd_same nlp), hm1, ?_⟩
      have hmo : 0 ≤ mo ∧ mo ≤ 30 := by
        simp only [List.mem_cons, List.not_mem_nil, or_false] at hm2
        rcases hm2 with rfl | rfl | rfl | rfl <;> omega
      obtain ⟨m, rfl⟩ : ∃ m : Nat, mo = m := ⟨mo.toNat, (Int.toNat_of_nonneg hmo.1).symm⟩
      have m30 : m ≤ 30 := by omega
      have tg5 := tabs_but (tabs_sm sl (tabs_but (tabs_but tg2 pen2 bt3) pen3 bt4)) (pen4.same sl) bt5
      refine ⟨_, rfl, _, rfl, p, c, _, 6, rfl, pen5, by omega, by decide, by decide, fun r4 H6 a4 b4 pen6 bt6 => ?_⟩
      refine ⟨1, r4, rfl, rfl, _, rfl, p, c, _, 3, rfl, pen6, by omega, by decide, by decide, fun r5 H7 a5 b5 pen7 bt7 => ?_⟩
      refine ⟨1, r5, rfl, rfl, _, rfl, p, c, _, (1 + r4).toNat, (1 + r5).toNat, m, ?_, pen7, by omega, by omega, by omega, by omega, fun tp l1 l2 l3 l4 PL GL HL EL H8 ntp ht h1 h2 h3 h4 n1 n2 n3 n4 pen8 bt8 => ?_⟩
      · rw [Int.toNat_of_nonneg (by omega), Int.toNat_of_nonneg (by omega)]
        rfl
      refine ⟨tp, _, rfl, SqT.of ht, rfl, _, _, rfl, _, _, rfl, _, _, rfl, _, _, rfl, rfl, ?_⟩
      have tg8 := tabs_but (tabs_but (tabs_but tg5 pen5 bt6) pen6 bt7) pen7 bt8
      refine ⟨_, rfl, _, rfl, p, c, _, m, rfl, pen8, by omega, by omega, fun l5 mos H9 nl5 h5 lm bm pen9 bt9 => ?_⟩
      have tg9 := tabs_but tg8 pen8 bt9
      have k1 := pen_strs pen8 bt9 h1
      have k2 := pen_strs pen8 bt9 h2
      have k3 := pen_strs pen8 bt9 h3
      have k4 := pen_strs pen8 bt9 h4
      have z1 : PL.length = (1 + r4).toNat := n1.len
      have z2 : GL.length = (1 + r5).toNat := n2.len
      have z3 : HL.length = 3 := n3.len
      have z4 : EL.length = m := n4.len
      have np5 : ∀ {H' : Hp} {n : Nat} {l : Addr} {xs : List V}, PenAt H' p c n → H' l = some (.lst xs) → l ≠ p := fun pen h => by
        obtain ⟨kvs, ns', a', x', g1, _⟩ := pen.ex
        exact ne_of h g1 (by intro z; cases z)
      refine ⟨_, rfl, m, rfl, by omega, by omega, fun D nD => ?_⟩
      have sD := @same_new _ _ (.lst []) nD
      have nDp : D ≠ p := fun z => pen9.there (z ▸ nD)
      have nDc : D ≠ c := fun z => pen9.cells (z ▸ nD)
      have d1' : l1 ≠ D := ne_of_none k1 nD
      have d2' : l2 ≠ D := ne_of_none k2 nD
      have d3' : l3 ≠ D := ne_of_none k3 nD
      have d4' : l4 ≠ D := ne_of_none k4 nD
      have d5' : l5 ≠ D := ne_of_none h5 nD
      refine lc_range (lo := 0) (n := m) (fun i H' => PenAt H' p c (3000 * j + 160 + 30 * i) ∧ TabsG Ts H' ∧ StrsAt H' l1 PL ∧ StrsAt H' l2 GL ∧ StrsAt H' l3 HL ∧ StrsAt H' l4 EL ∧ H' l5 = some (.lst (mos.map V.int)) ∧ ∃ pr : List (Addr × Ent), (pr.length = i ∧ pr.map (fun x => x.2.name) = EL.take i) ∧ H' D = some (.lst (pr.map fun x => V.ref x.1)) ∧
          ∀ x ∈ pr, H' x.1 = some (.tup x.2.vals) ∧ nameB x.2.name = true ∧ 0 ≤ x.2.moment ∧ x.2.moment ≤ 9999 ∧ x.2.From PL GL HL)
        ⟨(pen9.same sD).mono (by omega), tabs_sm sD tg9, sD _ _ k1, sD _ _ k2, sD _ _ k3, sD _ _ k4, sD _ _ h5, [], ⟨rfl, rfl⟩, upd_same, fun y hy => nomatch hy⟩ ?_ ?_
      · rintro i H10 hi ⟨pen10, tg10, g1, g2, g3, g4, g5, pr, ⟨gl, gm⟩, gD, gE⟩
        have lj : i < EL.length := by omega
        obtain ⟨nme, hnj, hn3⟩ : ∃ nme, EL[i]? = some nme ∧ nme ∈ EL := ⟨EL[i], List.getElem?_eq_getElem lj, List.getElem_mem lj⟩
        have hn1 : atI (EL.map V.str) (0 + (i : Int)) = some (.str nme) := by
          rw [Int.zero_add]
          exact atI_nat (by rw [List.getElem?_map, hnj]; rfl)
        obtain ⟨mo, hm1, hm2⟩ := at_ints (ns := mos) (r := 0 + (i : Int)) (by omega) (by omega)
        refine ⟨rfl, yesT ?_⟩
        refine ⟨_, rfl, _, rfl, _, rfl, l4, _, _, _, rfl, rfl, SqL.of g4, hn1, _, rfl, _, rfl, l5, _, _, _, rfl, rfl, SqL.of g5, hm1, _, rfl, _, rfl, _, rfl, p, c, _, nme, mo, l1, l2, l3, PL, GL, HL, rfl, pen10, by omega, g1, g2, g3,
          (fun z => by subst z; simp at z1; omega), (fun z => by subst z; simp at z2; omega), (fun z => by subst z; simp at z3), by omega, by omega, by omega, fun te e H11 nte hte en em ef pen11 btA => ?_⟩
        have gD11 := btA D _ gD nDp
        have nteD : te ≠ D := fun z => by
          subst z
          exact nomatch gD.symm.trans nte
        have neD : ∀ x ∈ pr, x.1 ≠ D := fun x hx z => by
          have he' := (gE x hx).1
          rw [z, gD] at he'
          cases he'
        refine ⟨_, gD11, (by rw [List.length_map]; exact small1000 (by omega)), (pen11.mono (by omega)).upd nDp nDc, tabs_upd (tabs_but tg10 pen10 btA) gD11,
          (upd_ne d1').trans (btA _ _ g1 (np5 pen10 g1)), (upd_ne d2').trans (btA _ _ g2 (np5 pen10 g2)), (upd_ne d3').trans (btA _ _ g3 (np5 pen10 g3)), (upd_ne d4').trans (btA _ _ g4 (np5 pen10 g4)), (upd_ne d5').trans (btA _ _ g5 (np5 pen10 g5)), pr ++ [(te, e)], ⟨by simp [gl], by rw [List.map_append, gm, take_sn hnj]; exact congrArg (fun z => EL.take i ++ [z]) en⟩, ?_, ?_⟩
        · rw [upd_same, List.map_append]
          rfl
        · intro x hx
          rcases List.mem_append.mp hx with h | h
          · obtain ⟨he', r'⟩ := gE x h
            have nxp : x.1 ≠ p := by
              obtain ⟨kvs, ns', a', x', gg, _⟩ := pen10.ex
              exact ne_of he' gg (by intro z; cases z)
            exact ⟨(upd_ne (neD x h)).trans (btA x.1 _ he' nxp), r'⟩
          · rw [List.mem_singleton.mp h]
            exact ⟨(upd_ne nteD).trans hte, en ▸ n4.names (by omega) nme hn3, em ▸ (bm mo hm2).1, em ▸ (bm mo hm2).2, ef⟩
      · rintro H10 ⟨pen10, tg10, g1, g2, g3, g4, g5, pr, ⟨gl, gm⟩, gD, gE⟩
        refine ⟨_, rfl, l1, PL, rfl, SqL.of g1, by omega, fun P1 a1 pm1 so1 na1 => ⟨a1, _, rfl, .inl ⟨SqL.of upd_same, fun t1 nt1 => ?_⟩⟩⟩
        have s1 : Same H10 (upd (upd H10 a1 (.lst (P1.map V.str))) t1 (.tup (P1.map V.str))) := (same_new na1).trans (same_new nt1)
        have hp1 : (upd (upd H10 a1 (.lst (P1.map V.str))) t1 (.tup (P1.map V.str))) t1 = some (.tup (P1.map V.str)) := upd_same
        generalize upd (upd H10 a1 (.lst (P1.map V.str))) t1 (.tup (P1.map V.str)) = H11 at s1 hp1
        refine ⟨_, rfl, l2, GL, rfl, SqL.of (s1 _ _ g2), by omega, fun G1 a2 pm2 so2 na2 => ⟨a2, _, rfl, .inl ⟨SqL.of upd_same, fun t2 nt2 => ?_⟩⟩⟩
        have s2 : Same H11 (upd (upd H11 a2 (.lst (G1.map V.str))) t2 (.tup (G1.map V.str))) := (same_new na2).trans (same_new nt2)
        have hp2 : (upd (upd H11 a2 (.lst (G1.map V.str))) t2 (.tup (G1.map V.str))) t2 = some (.tup (G1.map V.str)) := upd_same
        generalize upd (upd H11 a2 (.lst (G1.map V.str))) t2 (.tup (G1.map V.str)) = H12 at s2 hp2
        have s12 := s1.trans s2
        refine ⟨_, rfl, D, pr.map prV, rfl, rfl, SqL.of (by rw [s12 _ _ gD, List.map_map]; rfl), ?_, .inl ?_, ?_, ?_, fun a3 H13 na3 s3 h3 => ⟨a3, _, rfl, .inl ⟨SqL.of h3, fun t3 nt3 => ?_⟩⟩⟩
        · intro d hd d' hd'
          rw [List.map_map] at hd hd'
          obtain ⟨x, _, rfl⟩ := List.mem_map.mp hd
          obtain ⟨y, _, rfl⟩ := List.mem_map.mp hd'
          exact ord_alike x.2 y.2
        · intro d hd
          rw [List.map_map] at hd
          obtain ⟨x, _, rfl⟩ := List.mem_map.mp hd
          exact ⟨_, _, rfl⟩
        · intro e he
          obtain ⟨x, _, rfl⟩ := List.mem_map.mp he
          show 1 ≤ 60
          decide
        · intro e he H1 sm Q1 hq
          obtain ⟨x, hx, rfl⟩ := List.mem_map.mp he
          exact ⟨x.1, x.2, rfl, sm _ _ (s12 _ _ (gE x hx).1), fun tp H2 sm2 h2 => hq _ _ sm2 (ord_dp h2)⟩
        rw [keyed_prV]
        have s4 : Same H13 (upd H13 t3 (.tup (((sortE pr).map prV).map (·.1)))) := same_new nt3
        have e4 : (upd H13 t3 (.tup (((sortE pr).map prV).map (·.1)))) t3 = some (.tup ((sortE pr).map fun x => V.ref x.1)) := by
          rw [upd_same, List.map_map]
          rfl
        generalize upd H13 t3 (.tup (((sortE pr).map prV).map (·.1))) = H14 at s4 e4
        have sA := s12.trans (s3.trans s4)
        refine ⟨(by show 3 ≤ sizeLine; decide), fun U nU => ?_⟩
        have s5 := @same_new _ _ (.tup [V.ref t1, .ref t2, .ref t3]) nU
        have dr : Drawn (upd H14 U (.tup [V.ref t1, .ref t2, .ref t3])) l1 l2 D U t1 t2 t3 PL GL HL P1 G1 pr :=
          ⟨s5 _ _ (sA _ _ g1), s5 _ _ (sA _ _ g2), s5 _ _ (sA _ _ gD), fun x hx => s5 _ _ (sA _ _ (gE x hx).1), upd_same, s5 _ _ (s4 _ _ (s3 _ _ (s2 _ _ hp1))), s5 _ _ (s4 _ _ (s3 _ _ hp2)), s5 _ _ e4⟩
        have pen15 := pen10.same (sA.trans s5)
        have tg15 := tabs_sm (sA.trans s5) tg10
        generalize upd H14 U (.tup [V.ref t1, .ref t2, .ref t3]) = H15 at dr pen15 tg15
        have ok : DrawnOk PL GL HL P1 G1 pr := ⟨n1.names (by omega), n2.names (by omega), n3.names (by omega), n1.nodup (by omega), n2.nodup (by omega), by omega, by omega,
          by rw [gm]; exact (n4.nodup (by omega)).sublist (List.take_sublist _ _), by omega, fun x hx => (gE x hx).2, pm1, so1, pm2, so2⟩
        clear gE g1 g2 g3 g4 g5 gD
        refine ⟨2, rfl, by decide, by decide, for_range (lo := 0) (n := 2) (fun i σ H' => ∃ y2 y10 y12 y13 y14 y15 y16, σ = [some (.ref a), some (.ref p), y2, some (.int m), some (.ref l1), some (.ref l2), some (.ref l3), some (.ref l4), some (.ref l5), some (.ref D), y10, some (.ref U), y12, y13, y14, y15, y16] ∧ PenAt H' p c (3000 * j + 1100 + 620 * i) ∧ TabsG Ts H' ∧ Kp p H15 H')
          ⟨_, _, _, _, _, _, _, rfl, pen15.mono (by omega), tg15, fun b o e _ _ => e⟩ ?_ ?_⟩
        · rintro i σ H16 hi ⟨y2, y10, y12, y13, y14, y15, y16, rfl, pen16, tg16, kp16⟩
          have dr16 := dr.on pen15 kp16
          refine ⟨_, rfl, _, rfl, p, c, _, l1, _, rfl, pen16, by omega, dr16.p1, (by rw [List.length_map]; have := ok.z1; omega), fun q1 js1 H17 nq1 mx1 lt1 pen17 bt17 => ?_⟩
          have dr17 := dr16.on pen16 (.but bt17)
          refine ⟨_, rfl, _, rfl, p, c, _, l2, _, rfl, pen17, by omega, dr17.p2, (by rw [List.length_map]; have := ok.z2; omega), fun q2 js2 H18 nq2 mx2 lt2 pen18 bt18 => ?_⟩
          have dr18 := dr17.on pen17 (.but bt18)
          refine ⟨_, rfl, _, rfl, p, c, _, D, _, rfl, pen18, by omega, dr18.pD, (by rw [List.length_map]; have := ok.len; omega), fun q3 js3 H19 nq3 mx3 lt3 pen19 bt19 => ?_⟩
          have dr19 := dr18.on pen18 (.but bt19)
          refine ⟨(by show 3 ≤ sizeLine; decide), fun hd nhd => ?_⟩
          have s20 := @same_new _ _ (.lst [V.ref q1, .ref q2, .ref q3]) nhd
          have hHd : (upd H19 hd (.lst [V.ref q1, .ref q2, .ref q3])) hd = some (.lst [V.ref q1, .ref q2, .ref q3]) := upd_same
          have nqp1 : q1 ≠ p := fun z => pen16.there (z ▸ nq1)
          have nqp2 : q2 ≠ p := fun z => pen17.there (z ▸ nq2)
          have nqp3 : q3 ≠ p := fun z => pen18.there (z ▸ nq3)
          have nqc1 : q1 ≠ c := fun z => pen16.cells (z ▸ nq1)
          have nqc2 : q2 ≠ c := fun z => pen17.cells (z ▸ nq2)
          have nqc3 : q3 ≠ c := fun z => pen18.cells (z ▸ nq3)
          have nhp : hd ≠ p := fun z => pen19.there (z ▸ nhd)
          have w1 : LT H19 q1 _ := (lt1.by fun o e _ => bt18 _ _ e nqp1).by fun o e _ => bt19 _ _ e nqp1
          have w2 : LT H19 q2 _ := lt2.by fun o e _ => bt19 _ _ e nqp2
          have nh : ∀ {r xs}, LT H19 r xs → r ≠ hd := fun {r xs} h => by rcases h with h | h <;> exact ne_of_none h nhd
          have nh1 := nh w1
          have nh2 := nh w2
          have nh3 := nh lt3
          have f1 : ∀ o, H15 q1 = some o → (∀ ps, o ≠ .tbl ps) → False := fun o e n => nomatch (kp16 _ _ e n nqp1).symm.trans nq1
          have f2 : ∀ o, H15 q2 = some o → (∀ ps, o ≠ .tbl ps) → False := fun o e n => nomatch (bt17 _ _ (kp16 _ _ e n nqp2) nqp2).symm.trans nq2
          have f3 : ∀ o, H15 q3 = some o → (∀ ps, o ≠ .tbl ps) → False := fun o e n => nomatch (bt18 _ _ (bt17 _ _ (kp16 _ _ e n nqp3) nqp3) nqp3).symm.trans nq3
          have v1 := w1.on s20
          have v2 := w2.on s20
          have v3 := lt3.on s20
          have pen20 := pen19.same s20
          have kp20 : Kp p H15 (upd H19 hd (.lst [V.ref q1, .ref q2, .ref q3])) := kp16.tr (.but (bt17.tr (bt18.tr (bt19.tr (.of s20)))))
          have tg20 : TabsG Ts (upd H19 hd (.lst [V.ref q1, .ref q2, .ref q3])) := tabs_sm s20 (tabs_but (tabs_but (tabs_but tg16 pen16 bt17) pen17 bt18) pen18 bt19)
          generalize upd H19 hd (.lst [V.ref q1, .ref q2, .ref q3]) = H20 at hHd v1 v2 v3 pen20 kp20 tg20
          clear w1 w2 lt1 lt2 lt3 s20
          have dr20 := dr.on pen15 kp20
          have cl1 : (PL.map V.str).length = PL.length := List.length_map _
          have cl2 : (GL.map V.str).length = GL.length := List.length_map _
          have cl3 : (pr.map fun x => V.ref x.1).length = pr.length := List.length_map _
          rw [cl1] at mx1
          rw [cl2] at mx2
          rw [cl3] at mx3
          obtain ⟨e1, x1⟩ := pick_of (f := V.str) (zs := PL) mx1.1
          obtain ⟨e2, x2⟩ := pick_of (f := V.str) (zs := GL) mx2.1
          obtain ⟨e3, x3⟩ := pick_of (f := fun x : Addr × Ent => V.ref x.1) (zs := pr) mx3.1
          obtain ⟨i1, j1⟩ := pick_mem (zs := PL) (js := js1)
          obtain ⟨i2, j2⟩ := pick_mem (zs := GL) (js := js2)
          obtain ⟨i3, j3⟩ := pick_mem (zs := pr) (js := js3)
          replace j1 := j1 mx1.2.1
          replace j2 := j2 mx2.2.1
          replace j3 := j3 mx3.2.1
          rw [e1] at v1
          rw [e2] at v2
          rw [e3] at v3
          have y1 := mx1.2.2
          have y2' := mx2.2.2
          have y3' := mx3.2.2
          rw [← x1] at y1
          rw [← x2] at y2'
          rw [← x3] at y3'
          generalize (js1.filterMap fun j => PL[j]?) = xs at v1 i1 j1 y1
          generalize (js2.filterMap fun j => GL[j]?) = ys at v2 i2 j2 y2'
          generalize (js3.filterMap fun j => pr[j]?) = ts at v3 i3 j3 y3'
          clear e1 e2 e3 x1 x2 x3 mx1 mx2 mx3 cl1 cl2 cl3
          have zz1 := ok.z1
          have zz2 := ok.z2
          have zz3 := ok.len
          -- as data
          obtain ⟨D1, sh1, dp1⟩ := lt_dp (K := K) v1 (ds := xs.map PyData.str) (n := 8) (k := 0) (m := 4300) (fun d hd => by obtain ⟨y, hy, rfl⟩ := List.mem_map.mp hd; exact short_str (.inl (ok.n1 y (i1 y hy)))) (by rw [List.length_map]; omega)
          obtain ⟨D2, sh2, dp2⟩ := lt_dp (K := K) v2 (ds := ys.map PyData.str) (n := 8) (k := 0) (m := 4300) (fun d hd => by obtain ⟨y, hy, rfl⟩ := List.mem_map.mp hd; exact short_str (.inl (ok.n2 y (i2 y hy)))) (by rw [List.length_map]; omega)
          obtain ⟨D3, sh3, dp3⟩ := lt_dp (K := K) v3 (ds := (ts.map (·.2)).map entD) (n := 70) (k := 1) (m := 4300) (fun d hd => by
              obtain ⟨e, he, rfl⟩ := List.mem_map.mp hd
              obtain ⟨x, hx, rfl⟩ := List.mem_map.mp he
              obtain ⟨g1, g2, g3, g4⟩ := ok.ent x (i3 x hx)
              exact short_ent g1 g2 g3 ok.n1 ok.n2 ok.n3 g4) (by rw [List.length_map, List.length_map]; omega)
          have sh : Short (.list [D1, D2, D3]) 13000 3 := short_lst (n := 4300) (k := 2) (fun d hd => by
            simp only [List.mem_cons, List.not_mem_nil, or_false] at hd
            rcases hd with rfl | rfl | rfl
            · exact sh1.mono (by decide) (by decide)
            · exact sh2.mono (by decide) (by decide)
            · exact sh3) (by show 3 * 4301 ≤ 13000; decide)
          have dpAt : ∀ H', Kp p H20 H' → Dp K H' (.ref hd) (.list [D1, D2, D3]) := fun H' k => by
            have dr' := dr20.on pen20 k
            refine .lst (SqL.of (k _ _ hHd (fun _ z => nomatch z) nhp)) (.cons (dp1 H' (fun o e n => k _ _ e n nqp1) (dp_strs xs)) (.cons (dp2 H' (fun o e n => k _ _ e n nqp2) (dp_strs ys)) (.cons (dp3 H' (fun o e n => k _ _ e n nqp3) ?_) .nil)))
            have := dp_ents (K := K) (ents_pairs (H := H') (pr := ts) fun x hx => dr'.pE x (i3 x hx))
            rwa [List.map_map] at this
          refine ⟨_, rfl, hd, _, rfl, dpAt _ (fun b o e _ _ => e), sh.sh, sh.nd, Nat.le_trans sh.dp (by decide), sh.fits (by decide), ?_⟩
          -- the house
          have om1 := onceR_perm ok.d1 i1 j1
          have om2 := onceR_perm ok.d2 i2 j2
          have om3 := onceN_perm ok.nd i3 j3
          have injp : ∀ x ∈ ts, ∀ y ∈ ts, x.2.name = y.2.name → x = y := fun x hx y hy e => name_tells ok.nd (i3 x hx) (i3 y hy) e
          refine ⟨_, rfl, hd, _, 0, _, rfl, rfl, SqL.of hHd, atI_nat (j := 0) rfl, _, rfl, hd, _, 1, _, rfl, rfl, SqL.of hHd, atI_nat (j := 1) rfl, _, rfl, hd, _, 2, _, rfl, rfl, SqL.of hHd, atI_nat (j := 2) rfl, q1, q2, q3, xs, ys, ts, rfl, v1, v2, v3,
            fun y hy => ok.n1 y (i1 y hy), by omega, by rw [om1.length_eq]; omega, by rw [om1.length_eq]; omega, fun y hy => ok.n2 y (i2 y hy), by omega, by rw [om2.length_eq]; omega, by rw [om2.length_eq]; omega, fun x hx => ?_, injp, by omega, by rw [om3.length_eq]; omega, tg20, fun h Ps G H21 pm1' so1' pm2' so2' b21 hh => ?_⟩
          · obtain ⟨g1, g2, g3, g4⟩ := ok.ent x (i3 x hx)
            refine ⟨dr20.pE x (i3 x hx), (fine_of g4 ok.d1 ok.n1 ok.n2 ok.n3 g1 g2 g3).1, shaped_entF g1 ok.n1 ok.n2 ok.n3 g4, ?_⟩
            rw [ofB_congr (P' := PL) (G' := GL) (fun y => ⟨i1 y, j1 y⟩) (fun y => ⟨i2 y, j2 y⟩)]
            exact of_from g4
          obtain ⟨hp, hg, he, u0, u1, u2, u3⟩ := hh
          obtain rfl : Ps = P1 := sorted_one (pm1'.trans (om1.trans ok.q1.symm)) so1' ok.s1
          obtain rfl : G = G1 := sorted_one (pm2'.trans (om2.trans ok.q2.symm)) so2' ok.s2
          rw [sortE_perm om3 fun x hx y hy e => injp x (onceN_sub ts x hx) y (onceN_sub ts y hy) e] at u3
          have kp21 : Kp p H20 H21 := .tb b21
          have dr21 := dr20.on pen20 kp21
          have ents : ∀ {H' : Hp}, (∀ x ∈ pr, H' x.1 = some (.tup x.2.vals)) → ∀ x ∈ sortE pr, H' x.1 = some (.tup x.2.vals) := fun h x hx => h x ((sortE_p pr).mem_iff.mp hx)
          refine ⟨_, rfl, _, rfl, h, U, hp, hg, he, _, _, _, _, rfl, u0, u1, u2, u3, house_at u0 u1 u2 u3 (ents dr21.pE), house_at dr21.u dr21.u1 dr21.u2 dr21.u3 (ents dr21.pE), ok.short, fun H22 s22 => ⟨true, rfl, iteF ?_⟩⟩
          have kp22 : Kp p H20 H22 := kp21.tr (.same s22)
          refine ⟨_, rfl, hd, _, rfl, dpAt _ kp22, sh.sh, sh.nd, Nat.le_trans sh.dp (by decide), sh.fits (by decide), _, rfl, rfl, _, rfl, ?_⟩
          rw [decide_eq_true rfl]
          refine iteF ?_
          have pen22 := (pen20.tb b21).same s22
          have tg22 := tabs_sm s22 b21.1
          have hHd22 := kp22 _ _ hHd (fun _ z => nomatch z) nhp
          refine ⟨_, rfl, hd, rfl, ⟨_, SqL.of hHd22⟩, for_list (K := K) (a := hd) (xs := [.ref q1, .ref q2, .ref q3]) (fun k σ H' => ∃ y16, σ = [some (.ref a), some (.ref p), y2, some (.int m), some (.ref l1), some (.ref l2), some (.ref l3), some (.ref l4), some (.ref l5), some (.ref D), y10, some (.ref U), some (.int (0 + (i : Int))), some (.ref hd), some (.str (PyData.list [D1, D2, D3]).shown), some (.ref h), y16] ∧
            H' hd = some (.lst [.ref q1, .ref q2, .ref q3]) ∧ PenAt H' p c (3000 * j + 1100 + 620 * i + 600) ∧ TabsG Ts H' ∧ Kp p H15 H' ∧ TK H22 H' ∧ ∀ r ∈ [q1, q2, q3], ∃ zs, LT H' r zs ∧ zs.length ≤ 100 + k)
            ⟨_, rfl, hHd22, pen22, tg22, kp20.tr kp22, fun _ _ e => e, ?_⟩ (fun k σ H' _ ⟨_, _, h, _⟩ => SqL.of h) ?_ ?_⟩
          · intro r hr
            simp only [List.mem_cons, List.not_mem_nil, or_false] at hr
            rcases hr with rfl | rfl | rfl
            · exact ⟨_, v1.by fun o e n => kp22 _ _ e n nqp1, by rw [List.length_map]; omega⟩
            · exact ⟨_, v2.by fun o e n => kp22 _ _ e n nqp2, by rw [List.length_map]; omega⟩
            · exact ⟨_, v3.by fun o e n => kp22 _ _ e n nqp3, by rw [List.length_map]; omega⟩
          · rintro k x σ H23 hx ⟨y16, rfl, hHd23, pen23, tg23, kp23, tk23, all23⟩
            have k3 : k < 3 := (List.getElem?_eq_some_iff.mp hx).1
            obtain ⟨r, rfl, hr, nrp, nrc, nrh, fr⟩ : ∃ r, x = V.ref r ∧ r ∈ [q1, q2, q3] ∧ r ≠ p ∧ r ≠ c ∧ r ≠ hd ∧ ∀ o, H15 r = some o → (∀ ps, o ≠ .tbl ps) → False := by
              have m := List.mem_of_getElem? hx
              simp only [List.mem_cons, List.not_mem_nil, or_false] at m
              rcases m with rfl | rfl | rfl
              · exact ⟨q1, rfl, by simp, nqp1, nqc1, nh1, f1⟩
              · exact ⟨q2, rfl, by simp, nqp2, nqc2, nh2, f2⟩
              · exact ⟨q3, rfl, by simp, nqp3, nqc3, nh3, f3⟩
            obtain ⟨zs, hz, lz⟩ := all23 r hr
            rcases hz with hz | hz
            · refine ⟨_, rfl, _, _, _, _, true, rfl, .ty "list", .base (.lst hz), kit_ty (by decide +kernel), _, rfl, iteT ⟨_, rfl, .inl ⟨rfl, _, SqL.of hz⟩, r, _, _, rfl, rfl, hz, small1000 (by omega), _, rfl, (upd_ne nrh.symm).trans hHd23, pen23.upd nrp nrc, tabs_upd tg23 hz, fun b o e n nb => ?_, tk23.tr (TK.upd fun xs e => nomatch hz.symm.trans e), fun r' hr' => ?_⟩⟩
              · have : b ≠ r := fun z => fr o (z ▸ e) n
                exact (upd_ne this).trans (kp23 b o e n nb)
              · by_cases z : r' = r
                · rw [z]
                  exact ⟨_, .inl upd_same, by rw [List.length_append]; simp only [List.length_cons, List.length_nil]; omega⟩
                · obtain ⟨zs', h', l'⟩ := all23 r' hr'
                  exact ⟨zs', h'.imp (fun e => (upd_ne z).trans e) fun e => (upd_ne z).trans e, by omega⟩
            · exact ⟨_, rfl, _, _, _, _, false, rfl, .ty "list", .base (.tup hz), kit_ty (by decide +kernel), _, rfl, iteF ⟨_, rfl, hHd23, pen23, tg23, kp23, tk23, fun r' hr' => let ⟨zs', h', l'⟩ := all23 r' hr'; ⟨zs', h', by omega⟩⟩⟩
          · rintro σ H23 ⟨y16, rfl, hHd23, pen23, tg23, kp23, tk23, all23⟩
            have dr23 := dr.on pen15 kp23
            have o0 := tk23 _ _ (s22 _ _ u0)
            have o1 := tk23 _ _ (s22 _ _ u1)
            have o2 := tk23 _ _ (s22 _ _ u2)
            have o3 := tk23 _ _ (s22 _ _ u3)
            refine ⟨_, rfl, _, rfl, h, U, hp, hg, he, _, _, _, _, rfl, o0, o1, o2, o3, house_at o0 o1 o2 o3 (ents dr23.pE), house_at dr23.u dr23.u1 dr23.u2 dr23.u3 (ents dr23.pE), ok.short, fun H24 s24 => ⟨true, rfl, iteF ?_⟩⟩
            exact ⟨_, _, _, _, _, _, _, rfl, (pen23.mono (by omega)).same s24, tabs_sm s24 tg23, kp23.tr (.same s24)⟩
        · rintro σ H16 ⟨y2, y10, y12, y13, y14, y15, y16, rfl, pen16, tg16, kp16⟩
          exact ⟨_, _, _, _, _, _, _, _, _, _, _, _, _, _, _, rfl, pen16.mono (by omega), tg16⟩
    · rintro σ H2 ⟨y2, y3, y4, y5, y6, y7, y8, y9, y10, y11, y12, y13, y14, y15, y16, rfl, pen2, tg2⟩
      exact q H2
end
theorem tab_is {K : PySem.W.Frag} {x : Str} {f c T : Addr} {oc occ : Value} {od odc : Option Addr} {sl slc : Array (Option Value)} {fd : FuncData} {vs : Array Value}
    (a : PySem.W.nsIn K mainGlobals x = some (some (.ref f))) (l : K.lookup f = some ⟨oc, od, .func fd, sl⟩) (hc : fd.code = .ref c) (lc : K.lookup c = some ⟨occ, odc, .fields vs, slc⟩) (hv : (vs[11]? : Option Value) = some (.ref T)) :
    PySem.W.tabIn K x = some (c, T) := by
  unfold PySem.W.tabIn
  simp only [a, l, hc, lc, hv]
set_option maxHeartbeats 4000000 in
theorem all_mk {l : PySem.W.OpenLaw} {q : Program} {loose : List Str} {XP : (Str → Option Value) → Heap → Prop} {w : World} {s0 : Shared} {K : PySem.W.Frag} {h : Heap} {mg mb : Str → Option Value} {fa f1 f2 f3 f4 f5 f6 f7 f8 f9 f10 f11 f12 f13 f14 f15 f16 f17 f18 f19 f20 f21 f22 f23 f24 c8 T8 c10 T10 c17 T17 c18 T18 aFo aBo aRa aFo1 aFo2 aFo3 aFo4 aFo5 aFo6 aFo7 aBo1 aBo2 aBo3 aBo4 : Addr} {dr8 : PySem.DefRec} {dr10 : PySem.DefRec} {dr17 : PySem.DefRec} {dr18 : PySem.DefRec}
    (G : PySem.W.Ground q loose [] XP w s0 mg mb h) (X : K.In h) (hfa : mg "law" = some (.ref fa))
    {od1 an1 od2 an2 od3 an3 od4 an4 od5 an5 od6 an6 od7 an7 od8 an8 odc8 od9 an9 od10 an10 odc10 od11 an11 od12 an12 od13 an13 od14 an14 od15 an15 od16 an16 od17 an17 odc17 od18 an18 odc18 od19 an19 od20 an20 od21 an21 od22 an22 od23 an23 od24 an24 odFo1 odFo2 odFo3 odFo4 odFo5 odFo6 odFo7 odBo1 odBo2 odBo3 odBo4 : Option Addr} {sl1 sl2 sl3 sl4 sl5 sl6 sl7 sl8 slc8 sl9 sl10 slc10 sl11 sl12 sl13 sl14 sl15 sl16 sl17 slc17 sl18 slc18 sl19 sl20 sl21 sl22 sl23 sl24 slFo1 slFo2 slFo3 slFo4 slFo5 slFo6 slFo7 slBo1 slBo2 slBo3 slBo4 : Array (Option Value)} {oc1 kV1 dc1 pm1 ct1 cd1 oc2 kV2 dc2 pm2 ct2 cd2 oc3 kV3 dc3 pm3 ct3 cd3 oc4 kV4 dc4 pm4 ct4 cd4 oc5 kV5 dc5 pm5 ct5 cd5 oc6 kV6 dc6 pm6 ct6 cd6 oc7 kV7 dc7 pm7 ct7 cd7 oc8 kV8 dc8 pm8 ct8 occ8 oc9 kV9 dc9 pm9 ct9 cd9 oc10 kV10 dc10 pm10 ct10 occ10 oc11 kV11 dc11 pm11 ct11 cd11 oc12 kV12 dc12 pm12 ct12 cd12 oc13 kV13 dc13 pm13 ct13 cd13 oc14 kV14 dc14 pm14 ct14 cd14 oc15 kV15 dc15 pm15 ct15 cd15 oc16 kV16 dc16 pm16 ct16 cd16 oc17 kV17 dc17 pm17 ct17 occ17 oc18 kV18 dc18 pm18 ct18 occ18 oc19 kV19 dc19 pm19 ct19 cd19 oc20 kV20 dc20 pm20 ct20 cd20 oc21 kV21 dc21 pm21 ct21 cd21 oc22 kV22 dc22 pm22 ct22 cd22 oc23 kV23 dc23 pm23 ct23 cd23 oc24 kV24 dc24 pm24 ct24 cd24 : Value}
    {nFo nFo1 nFo2 nFo3 nFo4 nFo5 nFo6 nFo7 nBo nBo1 nBo2 nBo3 nBo4 nRa : Nat}
    {itFo1 itFo2 itFo3 itFo4 itFo5 itFo6 itFo7 itBo1 itBo2 itBo3 itBo4 vsc8 vsc10 vsc17 vsc18 : Array Value}
    {esFo esBo esRa : Array DictEntry}
    {tRa1 tRa2 tRa3 tRa4 tRa5 tRa6 tRa7 tL tN tMP tMG tME : Tok}
    (a1 : PySem.W.nsIn K mainGlobals "_law_pen" = some (some (.ref f1)))
    (l1 : K.lookup f1 = some ⟨oc1, od1, .func (PySem.W.fnOf "_law_pen" "_law_pen" (defArgs sPen) (defBody sPen) (defScope sPen) .none kV1 dc1 pm1 an1 cd1 ct1), sl1⟩)
    (c_1 : PySem.W.codeIn K cd1 "_law_pen" = true)
    (k1 : PySem.W.keepIn K (.ref f1) = true)
    (a2 : PySem.W.nsIn K mainGlobals "_law_take" = some (some (.ref f2)))
    (l2 : K.lookup f2 = some ⟨oc2, od2, .func (PySem.W.fnOf "_law_take" "_law_take" (defArgs sTake) (defBody sTake) (defScope sTake) .none kV2 dc2 pm2 an2 cd2 ct2), sl2⟩)
    (c_2 : PySem.W.codeIn K cd2 "_law_take" = true)
    (k2 : PySem.W.keepIn K (.ref f2) = true)
    (a3 : PySem.W.nsIn K mainGlobals "_law_names" = some (some (.ref f3)))
    (l3 : K.lookup f3 = some ⟨oc3, od3, .func (PySem.W.fnOf "_law_names" "_law_names" (defArgs sNames) (defBody sNames) (defScope sNames) .none kV3 dc3 pm3 an3 cd3 ct3), sl3⟩)
    (c_3 : PySem.W.codeIn K cd3 "_law_names" = true)
    (k3 : PySem.W.keepIn K (.ref f3) = true)
    (a4 : PySem.W.nsIn K mainGlobals "_law_words" = some (some (.ref f4)))
    (l4 : K.lookup f4 = some ⟨oc4, od4, .func (PySem.W.fnOf "_law_words" "_law_words" (defArgs sWords) (defBody sWords) (defScope sWords) .none kV4 dc4 pm4 an4 cd4 ct4), sl4⟩)
    (c_4 : PySem.W.codeIn K cd4 "_law_words" = true)
    (k4 : PySem.W.keepIn K (.ref f4) = true)
    (a5 : PySem.W.nsIn K mainGlobals "_law_moments" = some (some (.ref f5)))
    (l5 : K.lookup f5 = some ⟨oc5, od5, .func (PySem.W.fnOf "_law_moments" "_law_moments" (defArgs sMoments) (defBody sMoments) (defScope sMoments) .none kV5 dc5 pm5 an5 cd5 ct5), sl5⟩)
    (c_5 : PySem.W.codeIn K cd5 "_law_moments" = true)
    (k5 : PySem.W.keepIn K (.ref f5) = true)
    (a6 : PySem.W.nsIn K mainGlobals "_law_many" = some (some (.ref f6)))
    (l6 : K.lookup f6 = some ⟨oc6, od6, .func (PySem.W.fnOf "_law_many" "_law_many" (defArgs sMany) (defBody sMany) (defScope sMany) .none kV6 dc6 pm6 an6 cd6 ct6), sl6⟩)
    (c_6 : PySem.W.codeIn K cd6 "_law_many" = true)
    (k6 : PySem.W.keepIn K (.ref f6) = true)
    (a7 : PySem.W.nsIn K mainGlobals "_law_entry_of" = some (some (.ref f7)))
    (l7 : K.lookup f7 = some ⟨oc7, od7, .func (PySem.W.fnOf "_law_entry_of" "_law_entry_of" (defArgs sEntryOf) (defBody sEntryOf) (defScope sEntryOf) .none kV7 dc7 pm7 an7 cd7 ct7), sl7⟩)
    (c_7 : PySem.W.codeIn K cd7 "_law_entry_of" = true)
    (k7 : PySem.W.keepIn K (.ref f7) = true)
    (a8 : PySem.W.nsIn K mainGlobals "is_name" = some (some (.ref f8)))
    (l8 : K.lookup f8 = some ⟨oc8, od8, .func (PySem.W.fnOf "is_name" "is_name" (defArgs sName) (defBody sName) (defScope sName) .none kV8 dc8 pm8 an8 (.ref c8) ct8), sl8⟩)
    (c_8 : PySem.W.codeIn K (.ref c8) "is_name" = true)
    (k8 : PySem.W.keepIn K (.ref f8) = true)
    (lc8 : K.lookup c8 = some ⟨occ8, odc8, .fields vsc8, slc8⟩)
    (hv8 : (vsc8[11]? : Option Value) = some (.ref T8))
    (nT8 : K.lookup T8 = none)
    (r8 : (PyProof.Rows.recsOf q).find? (fun e => e.name == ("is_name" : Str)) = some dr8)
    (a9 : PySem.W.nsIn K mainGlobals "is_whole" = some (some (.ref f9)))
    (l9 : K.lookup f9 = some ⟨oc9, od9, .func (PySem.W.fnOf "is_whole" "is_whole" (defArgs sWhole) (defBody sWhole) (defScope sWhole) .none kV9 dc9 pm9 an9 cd9 ct9), sl9⟩)
    (c_9 : PySem.W.codeIn K cd9 "is_whole" = true)
    (k9 : PySem.W.keepIn K (.ref f9) = true)
    (a10 : PySem.W.nsIn K mainGlobals "is_entry" = some (some (.ref f10)))
    (l10 : K.lookup f10 = some ⟨oc10, od10, .func (PySem.W.fnOf "is_entry" "is_entry" (defArgs sIsEntry) (defBody sIsEntry) (defScope sIsEntry) .none kV10 dc10 pm10 an10 (.ref c10) ct10), sl10⟩)
    (c_10 : PySem.W.codeIn K (.ref c10) "is_entry" = true)
    (k10 : PySem.W.keepIn K (.ref f10) = true)
    (lc10 : K.lookup c10 = some ⟨occ10, odc10, .fields vsc10, slc10⟩)
    (hv10 : (vsc10[11]? : Option Value) = some (.ref T10))
    (nT10 : K.lookup T10 = none)
    (r10 : (PyProof.Rows.recsOf q).find? (fun e => e.name == ("is_entry" : Str)) = some dr10)
    (a11 : PySem.W.nsIn K mainGlobals "fits" = some (some (.ref f11)))
    (l11 : K.lookup f11 = some ⟨oc11, od11, .func (PySem.W.fnOf "fits" "fits" (defArgs sFits) (defBody sFits) (defScope sFits) .none kV11 dc11 pm11 an11 cd11 ct11), sl11⟩)
    (c_11 : PySem.W.codeIn K cd11 "fits" = true)
    (k11 : PySem.W.keepIn K (.ref f11) = true)
    (a12 : PySem.W.nsIn K mainGlobals "_law_entry" = some (some (.ref f12)))
    (l12 : K.lookup f12 = some ⟨oc12, od12, .func (PySem.W.fnOf "_law_entry" "_law_entry" (defArgs sEntry) (defBody sEntry) (defScope sEntry) .none kV12 dc12 pm12 an12 cd12 ct12), sl12⟩)
    (c_12 : PySem.W.codeIn K cd12 "_law_entry" = true)
    (k12 : PySem.W.keepIn K (.ref f12) = true)
    (a13 : PySem.W.nsIn K mainGlobals "good_of" = some (some (.ref f13)))
    (l13 : K.lookup f13 = some ⟨oc13, od13, .func (PySem.W.fnOf "good_of" "good_of" (defArgs sGood) (defBody sGood) (defScope sGood) .none kV13 dc13 pm13 an13 cd13 ct13), sl13⟩)
    (c_13 : PySem.W.codeIn K cd13 "good_of" = true)
    (k13 : PySem.W.keepIn K (.ref f13) = true)
    (a14 : PySem.W.nsIn K mainGlobals "places_of" = some (some (.ref f14)))
    (l14 : K.lookup f14 = some ⟨oc14, od14, .func (PySem.W.fnOf "places_of" "places_of" (defArgs sPlacesOf) (defBody sPlacesOf) (defScope sPlacesOf) .none kV14 dc14 pm14 an14 cd14 ct14), sl14⟩)
    (c_14 : PySem.W.codeIn K cd14 "places_of" = true)
    (k14 : PySem.W.keepIn K (.ref f14) = true)
    (a15 : PySem.W.nsIn K mainGlobals "_law_order" = some (some (.ref f15)))
    (l15 : K.lookup f15 = some ⟨oc15, od15, .func (PySem.W.fnOf "_law_order" "_law_order" (defArgs sOwn) (defBody sOwn) (defScope sOwn) .none kV15 dc15 pm15 an15 cd15 ct15), sl15⟩)
    (c_15 : PySem.W.codeIn K cd15 "_law_order" = true)
    (k15 : PySem.W.keepIn K (.ref f15) = true)
    (a16 : PySem.W.nsIn K mainGlobals "order_of" = some (some (.ref f16)))
    (l16 : K.lookup f16 = some ⟨oc16, od16, .func (PySem.W.fnOf "order_of" "order_of" (defArgs sOrd) (defBody sOrd) (defScope sOrd) .none kV16 dc16 pm16 an16 cd16 ct16), sl16⟩)
    (c_16 : PySem.W.codeIn K cd16 "order_of" = true)
    (k16 : PySem.W.keepIn K (.ref f16) = true)
    (a17 : PySem.W.nsIn K mainGlobals "is_entry_of" = some (some (.ref f17)))
    (l17 : K.lookup f17 = some ⟨oc17, od17, .func (PySem.W.fnOf "is_entry_of" "is_entry_of" (defArgs sIsEntryOf) (defBody sIsEntryOf) (defScope sIsEntryOf) .none kV17 dc17 pm17 an17 (.ref c17) ct17), sl17⟩)
    (c_17 : PySem.W.codeIn K (.ref c17) "is_entry_of" = true)
    (k17 : PySem.W.keepIn K (.ref f17) = true)
    (lc17 : K.lookup c17 = some ⟨occ17, odc17, .fields vsc17, slc17⟩)
    (hv17 : (vsc17[11]? : Option Value) = some (.ref T17))
    (nT17 : K.lookup T17 = none)
    (r17 : (PyProof.Rows.recsOf q).find? (fun e => e.name == ("is_entry_of" : Str)) = some dr17)
    (a18 : PySem.W.nsIn K mainGlobals "rising_names" = some (some (.ref f18)))
    (l18 : K.lookup f18 = some ⟨oc18, od18, .func (PySem.W.fnOf "rising_names" "rising_names" (defArgs sRising) (defBody sRising) (defScope sRising) .none kV18 dc18 pm18 an18 (.ref c18) ct18), sl18⟩)
    (c_18 : PySem.W.codeIn K (.ref c18) "rising_names" = true)
    (k18 : PySem.W.keepIn K (.ref f18) = true)
    (lc18 : K.lookup c18 = some ⟨occ18, odc18, .fields vsc18, slc18⟩)
    (hv18 : (vsc18[11]? : Option Value) = some (.ref T18))
    (nT18 : K.lookup T18 = none)
    (r18 : (PyProof.Rows.recsOf q).find? (fun e => e.name == ("rising_names" : Str)) = some dr18)
    (a19 : PySem.W.nsIn K mainGlobals "own_entries" = some (some (.ref f19)))
    (l19 : K.lookup f19 = some ⟨oc19, od19, .func (PySem.W.fnOf "own_entries" "own_entries" (defArgs sOwnEnts) (defBody sOwnEnts) (defScope sOwnEnts) .none kV19 dc19 pm19 an19 cd19 ct19), sl19⟩)
    (c_19 : PySem.W.codeIn K cd19 "own_entries" = true)
    (k19 : PySem.W.keepIn K (.ref f19) = true)
    (a20 : PySem.W.nsIn K mainGlobals "in_order" = some (some (.ref f20)))
    (l20 : K.lookup f20 = some ⟨oc20, od20, .func (PySem.W.fnOf "in_order" "in_order" (defArgs sInOrder) (defBody sInOrder) (defScope sInOrder) .none kV20 dc20 pm20 an20 cd20 ct20), sl20⟩)
    (c_20 : PySem.W.codeIn K cd20 "in_order" = true)
    (k20 : PySem.W.keepIn K (.ref f20) = true)
    (a21 : PySem.W.nsIn K mainGlobals "house_of" = some (some (.ref f21)))
    (l21 : K.lookup f21 = some ⟨oc21, od21, .func (PySem.W.fnOf "house_of" "house_of" (defArgs sHouseOf) (defBody sHouseOf) (defScope sHouseOf) .none kV21 dc21 pm21 an21 cd21 ct21), sl21⟩)
    (c_21 : PySem.W.codeIn K cd21 "house_of" = true)
    (k21 : PySem.W.keepIn K (.ref f21) = true)
    (a22 : PySem.W.nsIn K mainGlobals "_law_mixed" = some (some (.ref f22)))
    (l22 : K.lookup f22 = some ⟨oc22, od22, .func (PySem.W.fnOf "_law_mixed" "_law_mixed" (defArgs sMixed) (defBody sMixed) (defScope sMixed) .none kV22 dc22 pm22 an22 cd22 ct22), sl22⟩)
    (c_22 : PySem.W.codeIn K cd22 "_law_mixed" = true)
    (k22 : PySem.W.keepIn K (.ref f22) = true)
    (a23 : PySem.W.nsIn K mainGlobals "_law_right" = some (some (.ref f23)))
    (l23 : K.lookup f23 = some ⟨oc23, od23, .func (PySem.W.fnOf "_law_right" "_law_right" (defArgs sRight) (defBody sRight) (defScope sRight) .none kV23 dc23 pm23 an23 cd23 ct23), sl23⟩)
    (c_23 : PySem.W.codeIn K cd23 "_law_right" = true)
    (k23 : PySem.W.keepIn K (.ref f23) = true)
    (a24 : PySem.W.nsIn K mainGlobals "law" = some (some (.ref f24)))
    (l24 : K.lookup f24 = some ⟨oc24, od24, .func (PySem.W.fnOf "law" "law" (defArgs sLaw) (defBody sLaw) (defScope sLaw) .none kV24 dc24 pm24 an24 cd24 ct24), sl24⟩)
    (c_24 : PySem.W.codeIn K cd24 "law" = true)
    (k24 : PySem.W.keepIn K (.ref f24) = true)
    (ne810 : T8 ≠ T10)
    (ne817 : T8 ≠ T17)
    (ne1017 : T10 ≠ T17)
    (ne818 : T8 ≠ T18)
    (ne1018 : T10 ≠ T18)
    (ne1718 : T17 ≠ T18)
    (AFo : PySem.W.nsIn K mainGlobals "FORMS" = some (some (.ref aFo)))
    (LFo : K.lookup aFo = some ⟨.type "dict", none, .dict esFo nFo, #[]⟩)
    (litFo : PySem.W.KeysLit w.params esFo.toList)
    (lowFo : (aFo == sysModules) = false)
    (gFo1 : PySem.W.nsIn K aFo "come" = some (some (.ref aFo1)))
    (LFo1 : K.lookup aFo1 = some ⟨.type "tuple", odFo1, .seq itFo1 nFo1, slFo1⟩)
    (zFo1 : itFo1.size ≤ sizeLine)
    (vFo1 : Vals ([.str "name", .str "moment", .str "name", .str "name", .str "many", .str "price"] : List V) itFo1.toList)
    (gFo2 : PySem.W.nsIn K aFo "go" = some (some (.ref aFo2)))
    (LFo2 : K.lookup aFo2 = some ⟨.type "tuple", odFo2, .seq itFo2 nFo2, slFo2⟩)
    (zFo2 : itFo2.size ≤ sizeLine)
    (vFo2 : Vals ([.str "name", .str "moment", .str "name", .str "name", .str "many"] : List V) itFo2.toList)
    (gFo3 : PySem.W.nsIn K aFo "move" = some (some (.ref aFo3)))
    (LFo3 : K.lookup aFo3 = some ⟨.type "tuple", odFo3, .seq itFo3 nFo3, slFo3⟩)
    (zFo3 : itFo3.size ≤ sizeLine)
    (vFo3 : Vals ([.str "name", .str "moment", .str "name", .str "name", .str "name", .str "many"] : List V) itFo3.toList)
    (gFo4 : PySem.W.nsIn K aFo "some" = some (some (.ref aFo4)))
    (LFo4 : K.lookup aFo4 = some ⟨.type "tuple", odFo4, .seq itFo4 nFo4, slFo4⟩)
    (zFo4 : itFo4.size ≤ sizeLine)
    (vFo4 : Vals ([.str "name", .str "moment", .str "name", .str "name", .str "end"] : List V) itFo4.toList)
    (gFo5 : PySem.W.nsIn K aFo "swap" = some (some (.ref aFo5)))
    (LFo5 : K.lookup aFo5 = some ⟨.type "tuple", odFo5, .seq itFo5 nFo5, slFo5⟩)
    (zFo5 : itFo5.size ≤ sizeLine)
    (vFo5 : Vals ([.str "name", .str "moment", .str "name", .str "name"] : List V) itFo5.toList)
    (gFo6 : PySem.W.nsIn K aFo "count" = some (some (.ref aFo6)))
    (LFo6 : K.lookup aFo6 = some ⟨.type "tuple", odFo6, .seq itFo6 nFo6, slFo6⟩)
    (zFo6 : itFo6.size ≤ sizeLine)
    (vFo6 : Vals ([.str "name", .str "moment", .str "name", .str "name", .str "counted", .str "name"] : List V) itFo6.toList)
    (gFo7 : PySem.W.nsIn K aFo "look" = some (some (.ref aFo7)))
    (LFo7 : K.lookup aFo7 = some ⟨.type "tuple", odFo7, .seq itFo7 nFo7, slFo7⟩)
    (zFo7 : itFo7.size ≤ sizeLine)
    (vFo7 : Vals ([.str "name", .str "moment", .str "name", .str "name"] : List V) itFo7.toList)
    (ABo : PySem.W.nsIn K mainGlobals "BOUNDS" = some (some (.ref aBo)))
    (LBo : K.lookup aBo = some ⟨.type "dict", none, .dict esBo nBo, #[]⟩)
    (litBo : PySem.W.KeysLit w.params esBo.toList)
    (lowBo : (aBo == sysModules) = false)
    (gBo1 : PySem.W.nsIn K aBo "moment" = some (some (.ref aBo1)))
    (LBo1 : K.lookup aBo1 = some ⟨.type "tuple", odBo1, .seq itBo1 nBo1, slBo1⟩)
    (zBo1 : itBo1.size ≤ sizeLine)
    (vBo1 : Vals ([.int 0, .int 9999] : List V) itBo1.toList)
    (gBo2 : PySem.W.nsIn K aBo "many" = some (some (.ref aBo2)))
    (LBo2 : K.lookup aBo2 = some ⟨.type "tuple", odBo2, .seq itBo2 nBo2, slBo2⟩)
    (zBo2 : itBo2.size ≤ sizeLine)
    (vBo2 : Vals ([.int 1, .int 1000000000] : List V) itBo2.toList)
    (gBo3 : PySem.W.nsIn K aBo "counted" = some (some (.ref aBo3)))
    (LBo3 : K.lookup aBo3 = some ⟨.type "tuple", odBo3, .seq itBo3 nBo3, slBo3⟩)
    (zBo3 : itBo3.size ≤ sizeLine)
    (vBo3 : Vals ([.int 0, .int 1000000000] : List V) itBo3.toList)
    (gBo4 : PySem.W.nsIn K aBo "price" = some (some (.ref aBo4)))
    (LBo4 : K.lookup aBo4 = some ⟨.type "tuple", odBo4, .seq itBo4 nBo4, slBo4⟩)
    (zBo4 : itBo4.size ≤ sizeLine)
    (vBo4 : Vals ([.int 0, .int 1000000000] : List V) itBo4.toList)
    (ARa : PySem.W.nsIn K mainGlobals "RANKS" = some (some (.ref aRa)))
    (LRa : K.lookup aRa = some ⟨.type "dict", none, .dict esRa nRa, #[]⟩)
    (litRa : PySem.W.KeysLit w.params esRa.toList)
    (lowRa : (aRa == sysModules) = false)
    (gRa1 : PySem.W.nsIn K aRa "come" = some (some (.int 1 tRa1)))
    (gRa2 : PySem.W.nsIn K aRa "go" = some (some (.int 1 tRa2)))
    (gRa3 : PySem.W.nsIn K aRa "move" = some (some (.int 1 tRa3)))
    (gRa4 : PySem.W.nsIn K aRa "some" = some (some (.int 1 tRa4)))
    (gRa5 : PySem.W.nsIn K aRa "swap" = some (some (.int 0 tRa5)))
    (gRa6 : PySem.W.nsIn K aRa "count" = some (some (.int 2 tRa6)))
    (gRa7 : PySem.W.nsIn K aRa "look" = some (some (.int 2 tRa7)))
    (zL : PySem.W.nsIn K mainGlobals "LETTERS" = some (some (.str abc tL)))
    (zN : PySem.W.nsIn K mainGlobals "LONGEST_NAME" = some (some (.int 8 tN)))
    (zMP : PySem.W.nsIn K mainGlobals "MOST_PLACES" = some (some (.int 6 tMP)))
    (zMG : PySem.W.nsIn K mainGlobals "MOST_GOODS" = some (some (.int 3 tMG)))
    (zME : PySem.W.nsIn K mainGlobals "MOST_ENTRIES" = some (some (.int 30 tME)))
    (y_len : PySem.W.nsIn K mainGlobals "len" = some none)
    (y_abs : PySem.W.nsIn K mainGlobals "abs" = some none)
    (y_list : PySem.W.nsIn K mainGlobals "list" = some none)
    (y_range : PySem.W.nsIn K mainGlobals "range" = some none)
    (y_int : PySem.W.nsIn K mainGlobals "int" = some none)
    (y_bool : PySem.W.nsIn K mainGlobals "bool" = some none)
    (y_isinstance : PySem.W.nsIn K mainGlobals "isinstance" = some none)
    (y_str : PySem.W.nsIn K mainGlobals "str" = some none)
    (y_tuple : PySem.W.nsIn K mainGlobals "tuple" = some none)
    (y_all : PySem.W.nsIn K mainGlobals "all" = some none)
    (y_zip : PySem.W.nsIn K mainGlobals "zip" = some none)
    (y_set : PySem.W.nsIn K mainGlobals "set" = some none)
    (y_sorted : PySem.W.nsIn K mainGlobals "sorted" = some none)
    (y_repr : PySem.W.nsIn K mainGlobals "repr" = some none) :
    LawG l w K 8 63 "_law_script" mg fa h := by
  have Gg := G.T.g
  have e := hfa.symm.trans (PySem.W.mg_of X Gg a24)
  cases e
  have n_len := PySem.W.mg_none_of X Gg y_len
  have n_abs := PySem.W.mg_none_of X Gg y_abs
  have n_list := PySem.W.mg_none_of X Gg y_list
  have n_range := PySem.W.mg_none_of X Gg y_range
  have n_int := PySem.W.mg_none_of X Gg y_int
  have n_bool := PySem.W.mg_none_of X Gg y_bool
  have n_isinstance := PySem.W.mg_none_of X Gg y_isinstance
  have n_str := PySem.W.mg_none_of X Gg y_str
  have n_tuple := PySem.W.mg_none_of X Gg y_tuple
  have n_all := PySem.W.mg_none_of X Gg y_all
  have n_zip := PySem.W.mg_none_of X Gg y_zip
  have n_set := PySem.W.mg_none_of X Gg y_set
  have n_sorted := PySem.W.mg_none_of X Gg y_sorted
  have n_repr := PySem.W.mg_none_of X Gg y_repr
  have m_L := PySem.W.mg_of X Gg zL
  have m_N := PySem.W.mg_of X Gg zN
  have m_MP := PySem.W.mg_of X Gg zMP
  have m_MG := PySem.W.mg_of X Gg zMG
  have m_ME := PySem.W.mg_of X Gg zME
  have m_Fo := PySem.W.mg_of X Gg AFo
  have m_Bo := PySem.W.mg_of X Gg ABo
  have m_Ra := PySem.W.mg_of X Gg ARa
  have F1 := fun_mk (st := sPen) l1 c_1 k1
  have b1 := F1.binds (ps := ["_law_script"]) fun _ _ _ _ _ _ us hl => match us, hl with | [_], _ => rfl
  have g1 := PySem.W.mg_of X Gg a1
  have F2 := fun_mk (st := sTake) l2 c_2 k2
  have b2 := F2.binds (ps := ["_law_pen_here", "_law_many_here"]) fun _ _ _ _ _ _ us hl => match us, hl with | [_, _], _ => rfl
  have g2 := PySem.W.mg_of X Gg a2
  have F3 := fun_mk (st := sNames) l3 c_3 k3
  have b3 := F3.binds (ps := ["_law_pen_here", "_law_many_here"]) fun _ _ _ _ _ _ us hl => match us, hl with | [_, _], _ => rfl
  have g3 := PySem.W.mg_of X Gg a3
  have F4 := fun_mk (st := sWords) l4 c_4 k4
  have b4 := F4.binds (ps := ["_law_pen_here", "_law_places", "_law_goods", "_law_entries"]) fun _ _ _ _ _ _ us hl => match us, hl with | [_, _, _, _], _ => rfl
  have g4 := PySem.W.mg_of X Gg a4
  have F5 := fun_mk (st := sMoments) l5 c_5 k5
  have b5 := F5.binds (ps := ["_law_pen_here", "_law_many_here"]) fun _ _ _ _ _ _ us hl => match us, hl with | [_, _], _ => rfl
  have g5 := PySem.W.mg_of X Gg a5
  have F6 := fun_mk (st := sMany) l6 c_6 k6
  have b6 := F6.binds (ps := ["_law_pen_here"]) fun _ _ _ _ _ _ us hl => match us, hl with | [_], _ => rfl
  have g6 := PySem.W.mg_of X Gg a6
  have F7 := fun_mk (st := sEntryOf) l7 c_7 k7
  have b7 := F7.binds (ps := ["_law_pen_here", "_law_word", "_law_name", "_law_moment", "_law_places", "_law_goods", "_law_hands"]) fun _ _ _ _ _ _ us hl => match us, hl with | [_, _, _, _, _, _, _], _ => rfl
  have g7 := PySem.W.mg_of X Gg a7
  have F8 := fun_mk (st := sName) l8 c_8 k8
  have b8 := F8.binds (ps := ["thing"]) fun _ _ _ _ _ _ us hl => match us, hl with | [_], _ => rfl
  have g8 := PySem.W.mg_of X Gg a8
  have F9 := fun_mk (st := sWhole) l9 c_9 k9
  have b9 := F9.binds (ps := ["thing"]) fun _ _ _ _ _ _ us hl => match us, hl with | [_], _ => rfl
  have g9 := PySem.W.mg_of X Gg a9
  have F10 := fun_mk (st := sIsEntry) l10 c_10 k10
  have b10 := F10.binds (ps := ["thing"]) fun _ _ _ _ _ _ us hl => match us, hl with | [_], _ => rfl
  have g10 := PySem.W.mg_of X Gg a10
  have F11 := fun_mk (st := sFits) l11 c_11 k11
  have b11 := F11.binds (ps := ["part", "sort"]) fun _ _ _ _ _ _ us hl => match us, hl with | [_, _], _ => rfl
  have g11 := PySem.W.mg_of X Gg a11
  have F12 := fun_mk (st := sEntry) l12 c_12 k12
  have b12 := F12.binds (ps := ["_law_pen_here", "_law_name", "_law_moment", "_law_places", "_law_goods", "_law_hands"]) fun _ _ _ _ _ _ us hl => match us, hl with | [_, _, _, _, _, _], _ => rfl
  have g12 := PySem.W.mg_of X Gg a12
  have F13 := fun_mk (st := sGood) l13 c_13 k13
  have b13 := F13.binds (ps := ["entry"]) fun _ _ _ _ _ _ us hl => match us, hl with | [_], _ => rfl
  have g13 := PySem.W.mg_of X Gg a13
  have F14 := fun_mk (st := sPlacesOf) l14 c_14 k14
  have b14 := F14.binds (ps := ["entry"]) fun _ _ _ _ _ _ us hl => match us, hl with | [_], _ => rfl
  have g14 := PySem.W.mg_of X Gg a14
  have F15 := fun_mk (st := sOwn) l15 c_15 k15
  have b15 := F15.binds (ps := ["_law_entry_here"]) fun _ _ _ _ _ _ us hl => match us, hl with | [_], _ => rfl
  have g15 := PySem.W.mg_of X Gg a15
  have F16 := fun_mk (st := sOrd) l16 c_16 k16
  have b16 := F16.binds (ps := ["entry"]) fun _ _ _ _ _ _ us hl => match us, hl with | [_], _ => rfl
  have g16 := PySem.W.mg_of X Gg a16
  have F17 := fun_mk (st := sIsEntryOf) l17 c_17 k17
  have b17 := F17.binds (ps := ["thing", "places", "goods"]) fun _ _ _ _ _ _ us hl => match us, hl with | [_, _, _], _ => rfl
  have g17 := PySem.W.mg_of X Gg a17
  have F18 := fun_mk (st := sRising) l18 c_18 k18
  have b18 := F18.binds (ps := ["things", "most"]) fun _ _ _ _ _ _ us hl => match us, hl with | [_, _], _ => rfl
  have g18 := PySem.W.mg_of X Gg a18
  have F19 := fun_mk (st := sOwnEnts) l19 c_19 k19
  have b19 := F19.binds (ps := ["things", "places", "goods"]) fun _ _ _ _ _ _ us hl => match us, hl with | [_, _, _], _ => rfl
  have g19 := PySem.W.mg_of X Gg a19
  have F20 := fun_mk (st := sInOrder) l20 c_20 k20
  have b20 := F20.binds (ps := ["entries"]) fun _ _ _ _ _ _ us hl => match us, hl with | [_], _ => rfl
  have g20 := PySem.W.mg_of X Gg a20
  have F21 := fun_mk (st := sHouseOf) l21 c_21 k21
  have b21 := F21.binds (ps := ["places", "goods", "entries"]) fun _ _ _ _ _ _ us hl => match us, hl with | [_, _, _], _ => rfl
  have g21 := PySem.W.mg_of X Gg a21
  have F22 := fun_mk (st := sMixed) l22 c_22 k22
  have b22 := F22.binds (ps := ["_law_pen_here", "_law_things"]) fun _ _ _ _ _ _ us hl => match us, hl with | [_, _], _ => rfl
  have g22 := PySem.W.mg_of X Gg a22
  have F23 := fun_mk (st := sRight) l23 c_23 k23
  have b23 := F23.binds (ps := ["_law_found", "_law_due"]) fun _ _ _ _ _ _ us hl => match us, hl with | [_, _], _ => rfl
  have g23 := PySem.W.mg_of X Gg a23
  have F24 := fun_mk (st := sLaw) l24 c_24 k24
  have t8 := tab_is a8 l8 rfl lc8 hv8
  obtain ⟨hd8, tb8⟩ := PySem.W.tab_of G.T X r8 t8
  have t10 := tab_is a10 l10 rfl lc10 hv10
  obtain ⟨hd10, tb10⟩ := PySem.W.tab_of G.T X r10 t10
  have t17 := tab_is a17 l17 rfl lc17 hv17
  obtain ⟨hd17, tb17⟩ := PySem.W.tab_of G.T X r17 t17
  have t18 := tab_is a18 l18 rfl lc18 hv18
  obtain ⟨hd18, tb18⟩ := PySem.W.tab_of G.T X r18 t18
  have DF : KDict K w aFo esFo nFo := ⟨LFo, litFo, lowFo⟩
  have hF : ∀ e : Ent, ∃ aS, KDct K w aFo e.word (.ref aS) ∧ ∀ H, SqT K H aS (e.sorts.map V.str) := fun e => by
    cases e
    · exact ⟨_, ⟨esFo, nFo, _, LFo, litFo, gFo1, rfl⟩, fun H => .inr ⟨_, _, _, LFo1, rfl, rfl, zFo1, vFo1⟩⟩
    · exact ⟨_, ⟨esFo, nFo, _, LFo, litFo, gFo2, rfl⟩, fun H => .inr ⟨_, _, _, LFo2, rfl, rfl, zFo2, vFo2⟩⟩
    · exact ⟨_, ⟨esFo, nFo, _, LFo, litFo, gFo3, rfl⟩, fun H => .inr ⟨_, _, _, LFo3, rfl, rfl, zFo3, vFo3⟩⟩
    · exact ⟨_, ⟨esFo, nFo, _, LFo, litFo, gFo4, rfl⟩, fun H => .inr ⟨_, _, _, LFo4, rfl, rfl, zFo4, vFo4⟩⟩
    · exact ⟨_, ⟨esFo, nFo, _, LFo, litFo, gFo5, rfl⟩, fun H => .inr ⟨_, _, _, LFo5, rfl, rfl, zFo5, vFo5⟩⟩
    · exact ⟨_, ⟨esFo, nFo, _, LFo, litFo, gFo6, rfl⟩, fun H => .inr ⟨_, _, _, LFo6, rfl, rfl, zFo6, vFo6⟩⟩
    · exact ⟨_, ⟨esFo, nFo, _, LFo, litFo, gFo7, rfl⟩, fun H => .inr ⟨_, _, _, LFo7, rfl, rfl, zFo7, vFo7⟩⟩
  have hB : ∀ x ∈ sorts4, ∃ aT, KDct K w aBo x (.ref aT) ∧ ∀ H, SqT K H aT [.int (bnd x).1, .int (bnd x).2] := fun x hx => by
    simp only [sorts4, List.mem_cons, List.not_mem_nil, or_false] at hx
    rcases hx with rfl | rfl | rfl | rfl
    · exact ⟨_, ⟨esBo, nBo, _, LBo, litBo, gBo1, rfl⟩, fun H => .inr ⟨_, _, _, LBo1, rfl, rfl, zBo1, vBo1⟩⟩
    · exact ⟨_, ⟨esBo, nBo, _, LBo, litBo, gBo2, rfl⟩, fun H => .inr ⟨_, _, _, LBo2, rfl, rfl, zBo2, vBo2⟩⟩
    · exact ⟨_, ⟨esBo, nBo, _, LBo, litBo, gBo3, rfl⟩, fun H => .inr ⟨_, _, _, LBo3, rfl, rfl, zBo3, vBo3⟩⟩
    · exact ⟨_, ⟨esBo, nBo, _, LBo, litBo, gBo4, rfl⟩, fun H => .inr ⟨_, _, _, LBo4, rfl, rfl, zBo4, vBo4⟩⟩
  have hR : ∀ e : Ent, KDct K w aRa e.word (.int e.rank) := fun e => by
    cases e
    · exact ⟨esRa, nRa, _, LRa, litRa, gRa1, ⟨_, rfl⟩⟩
    · exact ⟨esRa, nRa, _, LRa, litRa, gRa2, ⟨_, rfl⟩⟩
    · exact ⟨esRa, nRa, _, LRa, litRa, gRa3, ⟨_, rfl⟩⟩
    · exact ⟨esRa, nRa, _, LRa, litRa, gRa4, ⟨_, rfl⟩⟩
    · exact ⟨esRa, nRa, _, LRa, litRa, gRa5, ⟨_, rfl⟩⟩
    · exact ⟨esRa, nRa, _, LRa, litRa, gRa6, ⟨_, rfl⟩⟩
    · exact ⟨esRa, nRa, _, LRa, litRa, gRa7, ⟨_, rfl⟩⟩
  refine ⟨PySem.W.fnOf "law" "law" (defArgs sLaw) (defBody sLaw) (defScope sLaw) .none kV24 dc24 pm24 an24 cd24 ct24, [(c8, T8), (c10, T10), (c17, T17), (c18, T18)], spLaw K [T8, T10, T17, T18], ⟨fun p hp => ?_, fun p hp => ?_, fun p hp => ?_⟩, fun s v => .of_eq rfl, fun H a ns hlen hT hS => ?_, fun base _ _ TB => ?_⟩
  · simp only [List.mem_cons, List.not_mem_nil, or_false] at hp
    rcases hp with rfl | rfl | rfl | rfl
    · exact tb8
    · exact tb10
    · exact tb17
    · exact tb18
  · simp only [List.mem_cons, List.not_mem_nil, or_false] at hp
    rcases hp with rfl | rfl | rfl | rfl
    · exact nT8
    · exact nT10
    · exact nT17
    · exact nT18
  · simp only [List.mem_cons, List.not_mem_nil, or_false] at hp
    rcases hp with rfl | rfl | rfl | rfl
    · exact hd8
    · exact hd10
    · exact hd17
    · exact hd18
  · refine ⟨a, ns, rfl, hS, fun T hT' => ?_, fun _ => rfl⟩
    simp only [List.mem_cons, List.not_mem_nil, or_false] at hT'
    rcases hT' with rfl | rfl | rfl | rfl
    · exact ⟨#[], hT (c8, _) (by simp), trivial⟩
    · exact ⟨#[], hT (c10, _) (by simp), trivial⟩
    · exact ⟨#[], hT (c17, _) (by simp), trivial⟩
    · exact ⟨#[], hT (c18, _) (by simp), trivial⟩
  · have B8 := TB (c8, T8) (by simp)
    have B10 := TB (c10, T10) (by simp)
    have B17 := TB (c17, T17) (by simp)
    have B18 := TB (c18, T18) (by simp)
    have TT : TakeT l.prog w K mg base f2 _ := ⟨ok_take F2 n_len n_abs, g2, k2, b2⟩
    have N : DefT l.prog w K mg base "_law_names" 2 f3 _ _ spNames := ⟨ok_names F3 TT n_len n_range, g3, k3, b3⟩
    have MY : DefT l.prog w K mg base "_law_many" 2 f6 _ _ spMany := ⟨ok_many F6 TT, g6, k6, b6⟩
    have EO : DefT l.prog w K mg base "_law_entry_of" 3 f7 _ _ spEntryOf := ⟨ok_entryOf F7 TT MY n_len, g7, k7, b7⟩
    have EN : DefT l.prog w K mg base "_law_entry" 4 f12 _ _ spEntry := ⟨ok_entry F12 TT EO, g12, k12, b12⟩
    have NM : DefT l.prog w K mg base "is_name" 1 f8 _ _ (spName K T8) := ⟨ok_name l8 c_8 ⟨B8.code, B8.bm, B8.gP⟩ n_isinstance n_str n_len n_all ⟨_, m_L⟩ ⟨_, m_N⟩, g8, k8, b8⟩
    have WH : DefT l.prog w K mg base "is_whole" 1 f9 _ _ spWhole := ⟨ok_whole F9 n_isinstance n_int n_bool, g9, k9, b9⟩
    have FI : DefT l.prog w K mg base "fits" 2 f11 _ _ (spFits T8) := ⟨ok_fits F11 NM WH m_Bo hB, g11, k11, b11⟩
    have PO : DefT l.prog w K mg base "places_of" 1 f14 _ _ spPlaces := ⟨ok_placesOf F14, g14, k14, b14⟩
    have GO : DefT l.prog w K mg base "good_of" 1 f13 _ _ spGood := ⟨ok_good F13, g13, k13, b13⟩
    have IE : DefT l.prog w K mg base "is_entry" 4 f10 _ _ (spIsEntry T8 T10) := ⟨ok_isEntry l10 c_10 ⟨B10.code, B10.bm, B10.gP⟩ ne810 FI PO n_isinstance n_tuple n_len n_str n_all n_zip n_set m_Fo DF hF, g10, k10, b10⟩
    have IO : DefT l.prog w K mg base "is_entry_of" 5 f17 _ _ (spIsEntryOf [T8, T10, T17, T18]) := ⟨ok_isEntryOf l17 c_17 ⟨B17.code, B17.bm, B17.gP⟩ (by simp) (by simp) (by simp) IE GO PO n_all, g17, k17, b17⟩
    have RN : DefT l.prog w K mg base "rising_names" 3 f18 _ _ (spRising [T8, T10, T17, T18]) := ⟨ok_rising l18 c_18 ⟨B18.code, B18.bm, B18.gP⟩ (by simp) (by simp) NM n_isinstance n_list n_tuple n_len n_all n_sorted n_set, g18, k18, b18⟩
    have OR : DefT l.prog w K mg base "order_of" 1 f16 _ _ spOrd := ⟨ok_ord F16 m_Ra hR, g16, k16, b16⟩
    have IN : DefT l.prog w K mg base "in_order" 4 f20 _ _ spInOrder := ⟨ok_inOrder F20 OR n_sorted n_tuple, g20, k20, b20⟩
    have OE : DefT l.prog w K mg base "own_entries" 6 f19 _ _ (spOwnEnts [T8, T10, T17, T18]) := ⟨ok_ownEnts F19 IO IN n_isinstance n_list n_tuple n_len ⟨_, m_ME⟩, g19, k19, b19⟩
    have HO : DefT l.prog w K mg base "house_of" 7 f21 _ _ (spHouseOf [T8, T10, T17, T18]) := ⟨ok_houseOf F21 RN OE ⟨_, m_MP⟩ ⟨_, m_MG⟩, g21, k21, b21⟩
    have OD : DefT l.prog w K mg base "_law_order" 1 f15 _ _ spOrd := ⟨ok_own F15 n_int, g15, k15, b15⟩
    have MX : DefT l.prog w K mg base "_law_mixed" 2 f22 _ _ spMixed := ⟨ok_mixed F22 TT n_list n_len n_range n_tuple, g22, k22, b22⟩
    have RT : DefG l.prog w K mg base "_law_right" 1 f23 _ _ (spRight K) := ⟨ok_right F23 n_isinstance n_tuple n_len n_all n_repr, g23, k23, b23⟩
    exact ok_law F24 ⟨ok_pen F1 n_list, g1, k1, b1⟩ TT ⟨ok_words F4 TT N, g4, k4, b4⟩ ⟨ok_moments F5 TT n_len n_range n_int, g5, k5, b5⟩ EN OD MX HO RT n_range n_sorted n_tuple n_repr n_isinstance n_list
end Shelf
open PySem PySem.W PyProof.Rows
set_option maxHeartbeats 0 in
theorem PySem.Challenge.cw_shelfcounts_k04_houses_made_holds : PySem.Challenge.rw_shelfcounts_k04_houses_made.Holds := by
  w_on; o_law; k_head; (case hw => w_witness2)
  k_fill
  refine Shelf.end_G (l := PySem.Challenge.rw_shelfcounts_k04_houses_made) (n := 63) (k := 8) (x := "_law_script") rfl (by decide) rfl ⟨rfl, by decide, by decide⟩ (fun w h Y => PySem.W.kIn_of Y) ?F
  case F =>
    intro w s0 mg mb fa h G KX hmg
    refine' Shelf.all_mk G KX hmg ?a1 ?l1 ?c_1 ?k1 ?a2 ?l2 ?c_2 ?k2 ?a3 ?l3 ?c_3 ?k3 ?a4 ?l4 ?c_4 ?k4 ?a5 ?l5 ?c_5 ?k5 ?a6 ?l6 ?c_6 ?k6 ?a7 ?l7 ?c_7 ?k7 ?a8 ?l8 ?c_8 ?k8 ?lc8 ?hv8 ?nT8 ?r8 ?a9 ?l9 ?c_9 ?k9 ?a10 ?l10 ?c_10 ?k10 ?lc10 ?hv10 ?nT10 ?r10 ?a11 ?l11 ?c_11 ?k11 ?a12 ?l12 ?c_12 ?k12 ?a13 ?l13 ?c_13 ?k13 ?a14 ?l14 ?c_14 ?k14 ?a15 ?l15 ?c_15 ?k15 ?a16 ?l16 ?c_16 ?k16 ?a17 ?l17 ?c_17 ?k17 ?lc17 ?hv17 ?nT17 ?r17 ?a18 ?l18 ?c_18 ?k18 ?lc18 ?hv18 ?nT18 ?r18 ?a19 ?l19 ?c_19 ?k19 ?a20 ?l20 ?c_20 ?k20 ?a21 ?l21 ?c_21 ?k21 ?a22 ?l22 ?c_22 ?k22 ?a23 ?l23 ?c_23 ?k23 ?a24 ?l24 ?c_24 ?k24 ?ne810 ?ne817 ?ne1017 ?ne818 ?ne1018 ?ne1718 ?AFo ?LFo ?litFo ?lowFo ?gFo1 ?LFo1 ?zFo1 ?vFo1 ?gFo2 ?LFo2 ?zFo2 ?vFo2 ?gFo3 ?LFo3 ?zFo3 ?vFo3 ?gFo4 ?LFo4 ?zFo4 ?vFo4 ?gFo5 ?LFo5 ?zFo5 ?vFo5 ?gFo6 ?LFo6 ?zFo6 ?vFo6 ?gFo7 ?LFo7 ?zFo7 ?vFo7 ?ABo ?LBo ?litBo ?lowBo ?gBo1 ?LBo1 ?zBo1 ?vBo1 ?gBo2 ?LBo2 ?zBo2 ?vBo2 ?gBo3 ?LBo3 ?zBo3 ?vBo3 ?gBo4 ?LBo4 ?zBo4 ?vBo4 ?ARa ?LRa ?litRa ?lowRa ?gRa1 ?gRa2 ?gRa3 ?gRa4 ?gRa5 ?gRa6 ?gRa7 ?zL ?zN ?zMP ?zMG ?zME ?y_len ?y_abs ?y_list ?y_range ?y_int ?y_bool ?y_isinstance ?y_str ?y_tuple ?y_all ?y_zip ?y_set ?y_sorted ?y_repr
    (case a1 => k_is); (case l1 => k_is); (case c_1 => k_is); (case k1 => k_is); (case a2 => k_is); (case l2 => k_is)
    (case c_2 => k_is); (case k2 => k_is); (case a3 => k_is); (case l3 => k_is); (case c_3 => k_is); (case k3 => k_is)
    (case a4 => k_is); (case l4 => k_is); (case c_4 => k_is); (case k4 => k_is); (case a5 => k_is); (case l5 => k_is)
    (case c_5 => k_is); (case k5 => k_is); (case a6 => k_is); (case l6 => k_is); (case c_6 => k_is); (case k6 => k_is)
    (case a7 => k_is); (case l7 => k_is); (case c_7 => k_is); (case k7 => k_is); (case a8 => k_is); (case l8 => k_is)
    (case c_8 => k_is); (case k8 => k_is); (case lc8 => k_is); (case hv8 => rfl); (case nT8 => kernel_rfl); (case r8 => rfl)
    (case a9 => k_is); (case l9 => k_is); (case c_9 => k_is); (case k9 => k_is); (case a10 => k_is); (case l10 => k_is)
    (case c_10 => k_is); (case k10 => k_is); (case lc10 => k_is); (case hv10 => rfl); (case nT10 => kernel_rfl); (case r10 => rfl)
    (case a11 => k_is); (case l11 => k_is); (case c_11 => k_is); (case k11 => k_is); (case a12 => k_is); (case l12 => k_is)
    (case c_12 => k_is); (case k12 => k_is); (case a13 => k_is); (case l13 => k_is); (case c_13 => k_is); (case k13 => k_is)
    (case a14 => k_is); (case l14 => k_is); (case c_14 => k_is); (case k14 => k_is); (case a15 => k_is); (case l15 => k_is)
    (case c_15 => k_is); (case k15 => k_is); (case a16 => k_is); (case l16 => k_is); (case c_16 => k_is); (case k16 => k_is)
    (case a17 => k_is); (case l17 => k_is); (case c_17 => k_is); (case k17 => k_is); (case lc17 => k_is); (case hv17 => rfl)
    (case nT17 => kernel_rfl); (case r17 => rfl); (case a18 => k_is); (case l18 => k_is); (case c_18 => k_is); (case k18 => k_is)
    (case lc18 => k_is); (case hv18 => rfl); (case nT18 => kernel_rfl); (case r18 => rfl); (case a19 => k_is); (case l19 => k_is)
    (case c_19 => k_is); (case k19 => k_is); (case a20 => k_is); (case l20 => k_is); (case c_20 => k_is); (case k20 => k_is)
    (case a21 => k_is); (case l21 => k_is); (case c_21 => k_is); (case k21 => k_is); (case a22 => k_is); (case l22 => k_is)
    (case c_22 => k_is); (case k22 => k_is); (case a23 => k_is); (case l23 => k_is); (case c_23 => k_is); (case k23 => k_is)
    (case a24 => k_is); (case l24 => k_is); (case c_24 => k_is); (case k24 => k_is); (case ne810 => decide); (case ne817 => decide)
    (case ne1017 => decide); (case ne818 => decide); (case ne1018 => decide); (case ne1718 => decide); (case AFo => k_is); (case LFo => k_is)
    (case litFo => repeat' (first | exact True.intro | refine ⟨⟨_, _, rfl, rfl⟩, ?_⟩)); (case lowFo => rfl); (case gFo1 => k_is); (case LFo1 => k_is); (case zFo1 => decide); (case vFo1 => repeat' (first | exact .nil | refine .cons ⟨_, rfl⟩ ?_))
    (case gFo2 => k_is); (case LFo2 => k_is); (case zFo2 => decide); (case vFo2 => repeat' (first | exact .nil | refine .cons ⟨_, rfl⟩ ?_)); (case gFo3 => k_is); (case LFo3 => k_is)
    (case zFo3 => decide); (case vFo3 => repeat' (first | exact .nil | refine .cons ⟨_, rfl⟩ ?_)); (case gFo4 => k_is); (case LFo4 => k_is); (case zFo4 => decide); (case vFo4 => repeat' (first | exact .nil | refine .cons ⟨_, rfl⟩ ?_))
    (case gFo5 => k_is); (case LFo5 => k_is); (case zFo5 => decide); (case vFo5 => repeat' (first | exact .nil | refine .cons ⟨_, rfl⟩ ?_)); (case gFo6 => k_is); (case LFo6 => k_is)
    (case zFo6 => decide); (case vFo6 => repeat' (first | exact .nil | refine .cons ⟨_, rfl⟩ ?_)); (case gFo7 => k_is); (case LFo7 => k_is); (case zFo7 => decide); (case vFo7 => repeat' (first | exact .nil | refine .cons ⟨_, rfl⟩ ?_))
    (case ABo => k_is); (case LBo => k_is); (case litBo => repeat' (first | exact True.intro | refine ⟨⟨_, _, rfl, rfl⟩, ?_⟩)); (case lowBo => rfl); (case gBo1 => k_is); (case LBo1 => k_is)
    (case zBo1 => decide); (case vBo1 => repeat' (first | exact .nil | refine .cons ⟨_, rfl⟩ ?_)); (case gBo2 => k_is); (case LBo2 => k_is); (case zBo2 => decide); (case vBo2 => repeat' (first | exact .nil | refine .cons ⟨_, rfl⟩ ?_))
    (case gBo3 => k_is); (case LBo3 => k_is); (case zBo3 => decide); (case vBo3 => repeat' (first | exact .nil | refine .cons ⟨_, rfl⟩ ?_)); (case gBo4 => k_is); (case LBo4 => k_is)
    (case zBo4 => decide); (case vBo4 => repeat' (first | exact .nil | refine .cons ⟨_, rfl⟩ ?_)); (case ARa => k_is); (case LRa => k_is); (case litRa => repeat' (first | exact True.intro | refine ⟨⟨_, _, rfl, rfl⟩, ?_⟩)); (case lowRa => rfl)
    (case gRa1 => k_is); (case gRa2 => k_is); (case gRa3 => k_is); (case gRa4 => k_is); (case gRa5 => k_is); (case gRa6 => k_is)
    (case gRa7 => k_is); (case zL => k_is); (case zN => k_is); (case zMP => k_is); (case zMG => k_is); (case zME => k_is)
    (case y_len => k_is); (case y_abs => k_is); (case y_list => k_is); (case y_range => k_is); (case y_int => k_is); (case y_bool => k_is)
    (case y_isinstance => k_is); (case y_str => k_is); (case y_tuple => k_is); (case y_all => k_is); (case y_zip => k_is); (case y_set => k_is)
    (case y_sorted => k_is); (case y_repr => k_is)

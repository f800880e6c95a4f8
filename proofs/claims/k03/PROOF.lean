import PyProof.Rows.All
import Wide.All
import OpenK.AllK
import Wide.FinOn
import HandS.ForMost
import HandS.AnyAll
import HandS.IsInst
import HandS.Style
import HandS.EndTab
import HandS.Codes
import HandS.GenOver
import HandS.Strs
import HandS.Zip
import HandS.Walk
import HandS.More
import KE.KEqSeq
import HandS.SortKw
import HandS.Keys
import HandS.ExcValue
import HandS.ExcIs
import HandS.ForExc
import HandS.Lambda
import HandS.TupAny
import HandS.DictComp
import KE.SortKeyHeap
import KE.KRevSl
import PyProof.DictUpdate
import PyProof.DictDisplay
import PyProof.DictValues
import HandS.SetTxt0
import HandS.Set
import KE.KDictList
import PyProof.MeetsDict
import PySem.Challenge.RW_shelfcounts_k03_what_is_no_entry
import HandS.Text
import HandS.RaiseMore
set_option Elab.async false
set_option linter.all false
set_option maxRecDepth 100000
namespace Shelf
open PySem PySem.Spec PyProof.Rows L2
def topS (i : Nat) : Stmt := PySem.Challenge.pw_shelfcounts_k03_what_is_no_entry.main.body.getD i (.Pass ⟨0, 0, 0, 0⟩)
abbrev sName : Stmt := topS 3
abbrev sWhole : Stmt := topS 4
abbrev sIsEntry : Stmt := topS 8
abbrev sFits : Stmt := topS 9
abbrev sPlacesOf : Stmt := topS 10
abbrev sPen : Stmt := topS 12
abbrev sTake : Stmt := topS 13
abbrev sSame : Stmt := topS 14
abbrev sNames : Stmt := topS 15
abbrev sWords : Stmt := topS 16
abbrev sMoments : Stmt := topS 17
abbrev sMany : Stmt := topS 18
abbrev sEntryOf : Stmt := topS 19
abbrev sEntry : Stmt := topS 20
abbrev sOwn : Stmt := topS 21
abbrev sLWhole : Stmt := topS 22
abbrev sEnds : Stmt := topS 23
abbrev sLIsEntry : Stmt := topS 24
abbrev sOdd : Stmt := topS 25
abbrev sBent : Stmt := topS 26
abbrev sLaw : Stmt := topS 27
/-! ### the pen: what a script is drawn from -/
theorem same_new {H : Hp} {p : Addr} {o : HO} (h : H p = none) : Same H (upd H p o) := fun b x e => (upd_ne (ne_of_none e h)).trans e
/-- all but the object at p is as it was -/
def But (p : Addr) (H H' : Hp) : Prop := ∀ b o, H b = some o → b ≠ p → H' b = some o
theorem But.refl (p : Addr) (H : Hp) : But p H H := fun _ _ e _ => e
theorem But.of {p : Addr} {H H' : Hp} (h : Same H H') : But p H H' := fun b o e _ => h b o e
theorem But.tr {p : Addr} {H H1 H2 : Hp} (a : But p H H1) (b : But p H1 H2) : But p H H2 := fun c o e n => b c o (a c o e n) n
theorem But.to {p : Addr} {H H1 : Hp} (a : But p H H1) {l : Addr} {o : HO} (h : H l = none) (n : H p ≠ none) : But p H (upd H1 l o) := fun c u e nc => (upd_ne (ne_of_none e h)).trans (a c u e nc)
theorem dget_s {H : Hp} {p : Addr} {kvs : List (Key × V)} {x : Str} {v : V} (h : H p = some (.dK kvs)) (e : valV kvs (Sum.inr x) = some v) : DGet H p (.str x) (some v) := .inl ⟨kvs, Sum.inr x, .inl h, rfl, e.symm⟩
theorem dput_s {H : Hp} {p : Addr} {kvs : List (Key × V)} {x : Str} {v : V} (h : H p = some (.dK kvs)) (hl : kvs.length < sizeLine) : DPut H p (.str x) v (upd H p (.dK (putK kvs (Sum.inr x) v))) := .inl ⟨kvs, Sum.inr x, h, rfl, hl, rfl⟩
theorem put_len {kvs : List (Key × V)} {k : Key} {v u : V} (e : valV kvs k = some u) : (putK kvs k v).length = kvs.length := by
  have h := valV_any k kvs
  rw [e] at h
  have h' : (kvs.any fun kv => decide (kv.1 = k)) = true := h
  unfold putK
  rw [if_pos h', List.length_map]
abbrev kCells : Key := Sum.inr "cells"
abbrev kAt : Key := Sum.inr "at"
abbrev kLeft : Key := Sum.inr "left"
theorem nCA : ¬ kCells = kAt := by decide +kernel
theorem nCL : ¬ kCells = kLeft := by decide +kernel
theorem nAL : ¬ kAt = kLeft := by decide +kernel
theorem nLA : ¬ kLeft = kAt := by decide +kernel
/-- a pen stands at p, its cells at c; at most n have been drawn -/
structure PenAt (H : Hp) (p c : Addr) (n : Nat) : Prop where
  ex : ∃ (kvs : List (Key × V)) (ns : List Int) (a l : Int), H p = some (.dK kvs) ∧ kvs.length ≤ 3 ∧ valV kvs kCells = some (.ref c) ∧ valV kvs kAt = some (.int a) ∧ valV kvs kLeft = some (.int l) ∧ H c = some (.lst (ns.map V.int)) ∧ 0 ≤ a ∧ a ≤ n ∧ 0 ≤ l
theorem PenAt.same {H H' : Hp} {p c : Addr} {n : Nat} (P : PenAt H p c n) (h : Same H H') : PenAt H' p c n := by
  obtain ⟨kvs, ns, a, l, h1, h2, h3, h4, h5, h6, h7⟩ := P.ex
  exact ⟨kvs, ns, a, l, h _ _ h1, h2, h3, h4, h5, h _ _ h6, h7⟩
theorem PenAt.there {H : Hp} {p c : Addr} {n : Nat} (P : PenAt H p c n) : H p ≠ none := by
  obtain ⟨kvs, ns, a, l, h1, _⟩ := P.ex
  rw [h1]
  exact fun z => nomatch z
theorem PenAt.cells {H : Hp} {p c : Addr} {n : Nat} (P : PenAt H p c n) : H c ≠ none := by
  obtain ⟨kvs, ns, a, l, _, _, _, _, _, h1, _⟩ := P.ex
  rw [h1]
  exact fun z => nomatch z
theorem PenAt.upd {H : Hp} {p c l : Addr} {n : Nat} {o : HO} (P : PenAt H p c n) (h1 : l ≠ p) (h2 : l ≠ c) : PenAt (L2.upd H l o) p c n := by
  obtain ⟨kvs, ns, a, x, g1, g2, g3, g4, g5, g6, g7⟩ := P.ex
  exact ⟨kvs, ns, a, x, (upd_ne h1.symm).trans g1, g2, g3, g4, g5, (upd_ne h2.symm).trans g6, g7⟩
theorem PenAt.mono {H : Hp} {p c : Addr} {n m : Nat} (P : PenAt H p c n) (h : n ≤ m) : PenAt H p c m := by
  obtain ⟨kvs, ns, a, l, g1, g2, g3, g4, g5, g6, g7, g8, g9⟩ := P.ex
  exact ⟨kvs, ns, a, l, g1, g2, g3, g4, g5, g6, g7, by omega, g9⟩
theorem dp_ints {K : PySem.W.Frag} {H : Hp} : ∀ ns : List Int, DpAll K H (ns.map V.int) (ns.map PyData.int)
  | [] => .nil
  | n :: r => .cons (.int n) (dp_ints r)
/-- what a draw promises: a number below many, the pen drawn once more, nothing else touched -/
def spTake : Sp := fun vs H Q _ => ∃ (p c : Addr) (n : Nat) (m : Int), vs = [.ref p, .int m] ∧ PenAt H p c n ∧ n ≤ 100000 ∧ 1 ≤ m ∧ m ≤ 1000000000 ∧
  ∀ (r : Int) (H' : Hp), 0 ≤ r → r < m → PenAt H' p c (n + 1) → But p H H' → Q (.int r) H'
def spPen (K : PySem.W.Frag) : Sp := fun vs H Q _ => ∃ (a : Addr) (ns : List Int), vs = [.ref a] ∧ SqL K H a (ns.map V.int) ∧
  ∀ (p c : Addr) (H' : Hp), H p = none → H c = none → PenAt H' p c 0 → Same H H' → Q (.ref p) H'
theorem mem_cut {α : Type} {xs : List α} {lo hi : Nat} : ∀ x ∈ (xs.drop lo).take hi, x ∈ xs := fun x h => List.mem_of_mem_drop (List.mem_of_mem_take h)
theorem cut_ints (ns : List Int) (lo hi : Option Int) : ∃ ms : List Int, cutV (ns.map V.int) lo hi = ms.map V.int := by
  unfold cutV
  rw [← List.map_drop, ← List.map_take]
  exact ⟨_, rfl⟩
section
variable {P : Program} {w : World} {K : PySem.W.Frag} {mg : Str → Option Value} {base : Heap}
theorem scPen : FnScope ["_law_script"] ["_law_script"] (defScope sPen) := ⟨rfl, rfl, rfl, by decide +kernel, rfl, by decide +kernel, by decide +kernel⟩
theorem scTake : FnScope ["_law_pen_here", "_law_many_here", "_law_found", "_law_at", "_law_cells", "_law_cell", "_law_one", "_law_two"] ["_law_pen_here", "_law_many_here"] (defScope sTake) := ⟨rfl, rfl, rfl, by decide +kernel, rfl, by decide +kernel, by decide +kernel⟩
theorem ok_pen {f : Addr} {fd : FuncData} (F : Fun K "_law_pen" "_law_pen" sPen f fd) (ml : mg "list" = none) : FnOk P w K mg base CX0 1 f fd ["_law_script"] (spPen K) := by
  refine F.ok scPen (fun vs H Q E h => ?_) (fun cdv A outer s H vs Q E hr h => ?_)
  · obtain ⟨a, ns, rfl, _⟩ := h
    rfl
  · obtain ⟨a, ns, rfl, hS, q⟩ := h
    refine ⟨_, pss_one (ps_ret (pe_disp (pps_cons pe_str (pe_callTy call_list_of (by rfl) ml (by decide +kernel) (pa_cons (pe_slice sl_list (pv 0) po_none (po_some pe_int)) pa_nil))
      (pps_cons pe_str pe_int (pps_cons pe_str pe_int pps_nil))) (by rfl) (by rfl) (fun z => by cases z) (by decide))), ?_⟩
    refine fun p np => ?_
    have s1 : Same H (upd H p (.dK [])) := same_new np
    refine ⟨.ref a, rfl, 63, rfl, a, ns.map V.int, rfl, s1.seq hS, fun t nt => ?_⟩
    obtain ⟨ms, em⟩ := cut_ints ns none (some 63)
    have s2 : Same (upd H p (.dK [])) (upd (upd H p (.dK [])) t (.lst (cutV (ns.map V.int) none (some 63)))) := same_new nt
    refine ⟨t, _, rfl, .inl (SqL.of upd_same), fun c nc => ?_⟩
    have s3 := @same_new _ _ (.lst (cutV (ns.map V.int) none (some 63))) nc
    have hp := s3 _ _ (s2 _ _ upd_same)
    refine ⟨hp, [(kCells, .ref c), (kAt, .int 0), (kLeft, .int 0)], rfl, (by show 3 ≤ 15; decide), ?_⟩
    have s4 := s1.trans (s2.trans s3)
    have npc : p ≠ c := ne_of_none (s2 _ _ upd_same) nc
    refine q p c _ np (s1.free (s2.free nc)) ⟨_, ms, 0, 0, upd_same, (by exact Nat.le_refl 3), ?_, ?_, ?_, ?_, Int.le_refl _, Int.le_refl _, Int.le_refl _⟩ fun b o e => (upd_ne (ne_of_none e np)).trans (s4 b o e)
    · rfl
    · rfl
    · rfl
    · rw [upd_ne npc.symm, upd_same, em]
theorem ok_take {f : Addr} {fd : FuncData} (F : Fun K "_law_take" "_law_take" sTake f fd) (mlen : mg "len" = none) (mabs : mg "abs" = none) : FnOk P w K mg base CX0 1 f fd ["_law_pen_here", "_law_many_here"] spTake := by
  refine F.ok scTake (fun vs H Q E h => ?_) (fun cdv A outer s H vs Q E hr h => ?_)
  · obtain ⟨p, c, n, m, rfl, _⟩ := h
    rfl
  · obtain ⟨p, c, n, m, rfl, pen, hn, m1, m2, q⟩ := h
    have hu := hu_of hr
    have nd := scTake.nd
    refine ⟨_, pss_cons (ps_if (pt_cmpR op_gt (pe_dget hu (pv 0) pe_str (fun _ _ => rfl)) pe_int (nomark _))
        (pss_cons (ps_set (i := 2) nd rfl (Or.inl rfl) (pe_op op_mod (pe_dget hu (pv 0) pe_str (fun _ _ => rfl)) (pv 1)))
        (pss_cons (ps_dput hu (pv 0) pe_str (pe_op op_fdiv (pe_dget hu (pv 0) pe_str (fun _ _ => rfl)) (pv 1)) rfl)
        (pss_one (ps_ret (pv 2))))) pss_nil)
      (pss_cons (ps_set (i := 3) nd rfl (Or.inl rfl) (pe_dget hu (pv 0) pe_str (fun _ _ => rfl)))
      (pss_cons (ps_dput hu (pv 0) pe_str (pe_op op_add (pv 3) pe_int) rfl)
      (pss_cons (ps_set (i := 4) nd rfl (Or.inl rfl) (pe_dget hu (pv 0) pe_str (fun _ _ => rfl)))
      (pss_cons (ps_set (i := 5) nd rfl (Or.inl rfl) (pe_op op_add (pe_op op_add (pe_op op_mul (pe_op op_mul pe_int (pv 3)) (pv 3)) (pe_op op_mul pe_int (pv 3))) pe_int))
      (C8.pss_cut (ps_if (pt_cmpR (op_neD hr.units) (pv 4) (pe_lst pa_nil) (nomark _))
        (pss_one (ps_set (i := 5) nd rfl (Or.inl rfl) (pe_ix ix_list (pv 4) (pe_op op_mod (pv 3) (pe_callB call_len_seq (by rfl) mlen PySem.boot_len (pa_cons (pv 4) pa_nil))) (fun _ _ => rfl)))) pss_nil)
      (C8.pss_cut (ps_if (PW.pt (pw_and (pt_cmpR op_lt (pv 3) (pe_callB call_len_seq (by rfl) mlen PySem.boot_len (pa_cons (pv 4) pa_nil)) (nomark _))
          (pw_and1 (pt_cmpR op_ge (pe_callB call_abs (by rfl) mabs (by decide +kernel) (pa_cons (pv 5) pa_nil)) (pe_op op_pow pe_int pe_int) (nomark _)))))
        (pss_cons (ps_dput hu (pv 0) pe_str (pe_op op_fdiv (pe_callB call_abs (by rfl) mabs (by decide +kernel) (pa_cons (pv 5) pa_nil)) (pv 1)) rfl)
        (pss_one (ps_ret (pe_op op_mod (pe_callB call_abs (by rfl) mabs (by decide +kernel) (pa_cons (pv 5) pa_nil)) (pv 1))))) pss_nil)
      (pss_cons (ps_set (i := 6) nd rfl (Or.inl rfl) (pe_op op_mod (pe_op op_pow (pe_op op_add (pe_op op_add (pe_op op_mod (pv 5) pe_int) (pe_op op_mul pe_int (pv 3))) pe_int) pe_int) pe_int))
      (pss_cons (ps_set (i := 7) nd rfl (Or.inl rfl) (pe_op op_mod (pe_op op_pow (pe_op op_add (pe_op op_add (pv 6) (pe_op op_mul (pe_op op_mul pe_int (pv 3)) (pv 3))) pe_int) pe_int) pe_int))
      (pss_one (ps_ret (pe_op op_mod (pe_op op_fdiv (pe_op op_mod (pe_op op_mul (pv 7) (pe_op op_add (pe_op op_mod (pv 6) pe_int) pe_int)) pe_int) pe_int) (pv 1)))))))))))), ?_⟩
    obtain ⟨kvs, ns, a, l, g1, g2, g3, g4, g5, g6, g7, g8, g9⟩ := pen.ex
    have hsz : kvs.length < sizeLine := small1000 (by omega)
    have npc : p ≠ c := ne_of g1 g6 (by intro z; cases z)
    -- the left
    refine ⟨_, rfl, p, _, rfl, dget_s g1 g5, l, 0, rfl, rfl, _, rfl, ite2 (fun e => ?_) (fun e => ?_)⟩
    · have e' : 0 < l := of_decide_eq_true e
      refine ⟨_, rfl, p, _, rfl, dget_s g1 g5, _, rfl, l, m, rfl, rfl, (by show (0 : Int) < m; omega), ?_⟩
      refine ⟨_, rfl, p, _, rfl, dget_s g1 g5, _, rfl, l, m, rfl, rfl, ⟨by omega, by omega⟩, _, rfl, p, _, rfl, dput_s g1 hsz, _, rfl, ?_⟩
      refine q _ _ (Int.emod_nonneg _ (by omega)) (Int.emod_lt_of_pos _ (by omega)) ⟨_, ns, a, l / m, upd_same, (by rw [put_len g5]; exact g2), ?_, ?_, ?_, ?_, g7, by omega, Int.ediv_nonneg (by omega) (by omega)⟩ fun b o z nb => (upd_ne nb).trans z
      · rw [valV_put, if_neg nCL]; exact g3
      · rw [valV_put, if_neg nAL]; exact g4
      · rw [valV_put, if_pos rfl]
      · rw [upd_ne npc.symm]; exact g6
    · -- a new cell
      refine ⟨_, rfl, p, _, rfl, dget_s g1 g4, ?_⟩
      refine ⟨_, rfl, a, 1, rfl, rfl, _, rfl, p, _, rfl, dput_s g1 hsz, ?_⟩
      have k1 : (upd H p (.dK (putK kvs kAt (.int (a + 1))))) p = some (.dK (putK kvs kAt (.int (a + 1)))) := upd_same
      have v3 : valV (putK kvs kAt (.int (a + 1))) kCells = some (.ref c) := by rw [valV_put, if_neg nCA]; exact g3
      have v4 : valV (putK kvs kAt (.int (a + 1))) kAt = some (.int (a + 1)) := by rw [valV_put, if_pos rfl]
      have v5 : valV (putK kvs kAt (.int (a + 1))) kLeft = some (.int l) := by rw [valV_put, if_neg nLA]; exact g5
      have k2 : (putK kvs kAt (.int (a + 1))).length ≤ 3 := by rw [put_len g4]; exact g2
      have k6 : (upd H p (.dK (putK kvs kAt (.int (a + 1))))) c = some (.lst (ns.map V.int)) := by rw [upd_ne npc.symm]; exact g6
      generalize putK kvs kAt (.int (a + 1)) = kw at k1 k2 k6 v3 v4 v5
      refine ⟨_, rfl, p, _, rfl, dget_s k1 v3, ?_⟩
      refine ⟨_, rfl, 70207, a, rfl, rfl, .inl ⟨by decide, by decide⟩, _, rfl, _, a, rfl, rfl, .inr ⟨by omega, by omega⟩, _, rfl, 131, a, rfl, rfl, .inl ⟨by decide, by decide⟩, _, _, rfl, rfl, _, 29, rfl, rfl, ?_⟩
      refine ⟨fun σ' H' => ∃ x : Int, σ' = [some (.ref p), some (.int m), none, some (.int a), some (.ref c), some (.int x), none, none] ∧ Same (upd H p (.dK kw)) H', ?_, ?_⟩
      · refine ⟨_, rfl, Nat.zero_le _, fun t nt => ?_⟩
        have s1 := @same_new _ _ (.lst []) nt
        refine ⟨.list (ns.map PyData.int), .list [], .lst (SqL.of (s1 _ _ k6)) (dp_ints ns), .lst (SqL.of upd_same) .nil, PySem.W.ke_shaped_ints ns, PySem.W.ke_shaped_ints [], _, rfl, ?_⟩
        cases e2 : (!PyData.eqv (.list (ns.map PyData.int)) (.list [])) with
        | false => exact iteF ⟨_, rfl, s1⟩
        | true =>
          refine iteT ?_
          have hne : ns ≠ [] := fun z => by
            subst z
            rw [show PyData.eqv (.list (([] : List Int).map PyData.int)) (.list []) = true from rfl] at e2
            cases e2
          have hlen : 0 < ns.length := List.length_pos_iff.mpr hne
          have hlt : (a % (ns.length : Int)).toNat < ns.length := by
            have h1 := Int.emod_nonneg a (show (ns.length : Int) ≠ 0 by omega)
            have h2 := Int.emod_lt_of_pos a (show (0 : Int) < ns.length by omega)
            omega
          refine ⟨_, rfl, _, rfl, _, rfl, c, _, rfl, .inl (SqL.of (s1 _ _ k6)), a, _, rfl, rfl, ?_, c, _, _, .int ns[(a % (ns.length : Int)).toNat], rfl, rfl, SqL.of (s1 _ _ k6), ?_, _, rfl, s1⟩
          · show (0 : Int) < ((ns.map V.int).length : Int)
            rw [List.length_map]; omega
          · rw [List.length_map]
            refine at_of (j := (a % (ns.length : Int)).toNat) (Int.toNat_of_nonneg (Int.emod_nonneg a (show (ns.length : Int) ≠ 0 by omega))).symm ?_
            rw [List.getElem?_map, List.getElem?_eq_getElem hlt]
            rfl
      · rintro σ' H2 ⟨x, rfl, s1⟩
        have j1 := s1 _ _ k1
        have j6 := s1 _ _ k6
        have bt : But p H H2 := fun b o z nb => s1 _ _ ((upd_ne nb).trans z)
        have absn : (0 : Int) ≤ if x < 0 then -x else x := by split <;> omega
        have fin : ∀ r : Int, 0 ≤ r → r < m → Q (.int r) H2 := fun r r1 r2 => q r H2 r1 r2 ⟨kw, ns, a + 1, l, j1, k2, v3, v4, v5, j6, by omega, by omega, g9⟩ bt
        have a2 : 0 ≤ 1213 * a * a ∧ 1213 * a * a ≤ 121300000 * 100000 := ⟨Int.mul_nonneg (by omega) g7, Int.mul_le_mul (by omega) (by omega) g7 (by decide)⟩
        refine ⟨fun σ' H' => σ' = [some (.ref p), some (.int m), none, some (.int a), some (.ref c), some (.int x), none, none] ∧ H' = H2, ?_, ?_⟩
        · refine ⟨_, rfl, _, rfl, c, _, rfl, .inl (SqL.of j6), a, _, rfl, rfl, _, rfl, ?_⟩
          refine ite2 (fun _ => ?_) (fun _ => ?_)
          · refine ⟨_, rfl, x, rfl, 10, 18, rfl, rfl, ⟨by decide, by decide, by decide⟩, _, _, rfl, rfl, _, rfl, ite2 (fun _ => ?_) (fun _ => ⟨rfl, rfl⟩)⟩
            refine ⟨_, rfl, x, rfl, _, rfl, _, m, rfl, rfl, ⟨by omega, by omega⟩, _, rfl, p, _, rfl, dput_s j1 (small1000 (by omega)), ?_⟩
            refine ⟨_, rfl, x, rfl, _, rfl, _, m, rfl, rfl, (by show (0 : Int) < m; omega), ?_⟩
            refine q _ _ (Int.emod_nonneg _ (by omega)) (Int.emod_lt_of_pos _ (by omega)) ⟨_, ns, a + 1, (if x < 0 then -x else x) / m, upd_same, (by rw [put_len v5]; exact k2), ?_, ?_, ?_, ?_, by omega, by omega, Int.ediv_nonneg absn (by omega)⟩ fun b o z nb => (upd_ne nb).trans (bt b o z nb)
            · rw [valV_put, if_neg nCL]; exact v3
            · rw [valV_put, if_neg nAL]; exact v4
            · rw [valV_put, if_pos rfl]
            · rw [upd_ne npc.symm]; exact j6
          · exact iteF ⟨rfl, rfl⟩
        · rintro σ' H' ⟨rfl, rfl⟩
          have b1 := Int.emod_nonneg x (show (2147483587 : Int) ≠ 0 by decide)
          have b2 := Int.emod_lt_of_pos x (show (0 : Int) < 2147483587 by decide)
          refine ⟨_, rfl, x, _, rfl, rfl, (by show (0 : Int) < 2147483587; decide), _, rfl, 45007, a, rfl, rfl, .inl ⟨by decide, by decide⟩, _, _, rfl, rfl, _, 11, rfl, rfl, _, 3, rfl, rfl, ⟨by decide, by decide, ?_⟩, _, 2147483629, rfl, rfl, (by show (0 : Int) < 2147483629; decide), ?_⟩
          · generalize x % 2147483587 = y at b1 b2
            show (y + 45007 * a + 11).natAbs < 2 ^ 64
            omega
          · generalize (x % 2147483587 + 45007 * a + 11) ^ (3 : Int).toNat = z
            have d1 := Int.emod_nonneg z (show (2147483629 : Int) ≠ 0 by decide)
            have d2 := Int.emod_lt_of_pos z (show (0 : Int) < 2147483629 by decide)
            obtain ⟨o, ho⟩ : ∃ o, z % 2147483629 = o := ⟨_, rfl⟩
            rw [ho] at d1 d2
            show tSeq _ _ _ [some (.ref p), some (.int m), none, some (.int a), some (.ref c), some (.int x), some (.int (z % 2147483629)), none] _
            rw [ho]
            have f1 := Int.emod_nonneg o (show (64007 : Int) ≠ 0 by decide)
            have f2 := Int.emod_lt_of_pos o (show (0 : Int) < 64007 by decide)
            refine ⟨_, rfl, _, rfl, 1213, a, rfl, rfl, .inl ⟨by decide, by decide⟩, _, rfl, _, a, rfl, rfl, .inr ⟨by omega, by omega⟩, o, _, rfl, rfl, _, 3, rfl, rfl, _, 5, rfl, rfl, ⟨by decide, by decide, ?_⟩, _, 2147483543, rfl, rfl, (by show (0 : Int) < 2147483543; decide), ?_⟩
            · show (o + 1213 * a * a + 3).natAbs < 2 ^ 64
              omega
            · refine ⟨_, rfl, _, rfl, o, 64007, rfl, rfl, (by show (0 : Int) < 64007; decide), _, 1, rfl, rfl, _, _, rfl, rfl, .inr ⟨by omega, by omega⟩, _, 2147483579, rfl, rfl, (by show (0 : Int) < 2147483579; decide), _, 64, rfl, rfl, ⟨by decide, by decide⟩, _, rfl, _, m, rfl, rfl, (by show (0 : Int) < m; omega), ?_⟩
              exact fin _ (Int.emod_nonneg _ (by omega)) (Int.emod_lt_of_pos _ (by omega))
end
/-! ### texts as lists of signs -/
abbrev sc (l : List Nat) : Str := ⟨l.toArray⟩
theorem sc_list (z : Str) : sc z.cps.toList = z := rfl
theorem sc_len (l : List Nat) : (sc l).length = l.length := by
  show l.toArray.size = l.length
  simp
theorem sc_app (a b : List Nat) : (sc a ++ sc b : Str) = sc (a ++ b) := by
  have h : TL.tl (sc a ++ sc b) = TL.tl (sc (a ++ b)) := by
    rw [TL.tl_append]
  have h2 := congrArg sc h
  exact h2
theorem sc_take (l : List Nat) {k : Nat} (hk : k ≤ l.length) : cutS (sc l) none (some (k : Int)) = sc (l.take k) := by
  unfold cutS
  rw [HT.sIx_none, HT.sIx_nat, sc_len, Nat.min_eq_left hk]
  show sc ((l.toArray.toList.drop 0).take (k - 0)) = sc (l.take k)
  simp
theorem sc_drop (l : List Nat) {k : Nat} (hk : k ≤ l.length) : cutS (sc l) (some (k : Int)) none = sc (l.drop k) := by
  unfold cutS
  rw [HT.sIx_none, HT.sIx_nat, sc_len, Nat.min_eq_left hk]
  show sc ((l.toArray.toList.drop k).take (l.length - k)) = sc (l.drop k)
  rw [List.take_of_length_le (by simp)]
theorem sc_join (ls : List (List Nat)) : Txt.join "" (ls.map sc) = sc ls.flatten := by
  have h : ∀ l : List (List Nat), TL.joinL [] l = l.flatten := by
    intro l
    induction l with
    | nil => rfl
    | cons p r ih =>
      cases r with
      | nil => show p = [p].flatten; simp
      | cons q r => show p ++ ([] ++ TL.joinL [] (q :: r)) = _; rw [List.nil_append, ih]; rfl
  have e := TL.tl_join "" (ls.map sc)
  rw [show TL.tl ("" : Str) = [] from rfl, h, List.map_map] at e
  rw [TL.join_eq]
  have e2 : ls.map (TL.tl ∘ sc) = ls := by
    have : (TL.tl ∘ sc) = id := funext fun l => by show l.toArray.toList = l; simp
    rw [this, List.map_id]
  rw [e2] at e
  exact congrArg sc e
abbrev abc : Str := "abcdefghijklmnopqrstuvwxyz"
def Lc (i : Nat) : Nat := abc.cps.toList.getD i 0
theorem abc_len : abc.cps.toList.length = 26 := by decide +kernel
theorem at_abc {r : Int} (h0 : 0 ≤ r) (h1 : r < 26) : atI abc.cps.toList r = some (Lc r.toNat) := by
  have h : r.toNat < abc.cps.toList.length := by rw [abc_len]; omega
  have e : ((r.toNat : Nat) : Int) = r := by omega
  have q := atI_nat (List.getElem?_eq_getElem h)
  rw [e] at q
  rw [q, Lc, List.getD_eq_getElem?_getD, List.getElem?_eq_getElem h]
  rfl
theorem Lc_in {i : Nat} (h : i < 26) : Lc i ∈ abc.cps.toList := by
  rw [Lc, List.getD_eq_getElem?_getD, List.getElem?_eq_getElem (by rw [abc_len]; exact h)]
  exact List.getElem_mem _
/-! ### the names that a law draws -/
def nmPair (t k : Nat) : List Nat := [Lc ((t + 7 * k) % 26), Lc ((t + k / 26) % 26)]
def bij (t : Nat) : Nat → List Nat
  | 0 => []
  | r + 1 => bij t (r / 2) ++ [Lc ((t + 9 * ((r + 1) % 2)) % 26)]
def nm (way t : Nat) (B : List Nat) (sp k : Nat) : List Nat := if way = 1 then bij t (k + 1) else B.take sp ++ nmPair t k ++ B.drop sp
def nmStr (way t : Nat) (B : List Nat) (sp k : Nat) : Str := sc (nm way t B sp k)
structure NmOk (way t : Nat) (B : List Nat) (sp : Nat) : Prop where
  t26 : t < 26
  b6 : B.length ≤ 6
  bl : ∀ c ∈ B, c ∈ abc.cps.toList
  s : sp ≤ B.length
/-- a list of names at l -/
def NmAt (H : Hp) (l : Addr) (m : Nat) : Prop := ∃ way t B sp, NmOk way t B sp ∧ H l = some (.lst ((List.range m).map fun k => V.str (nmStr way t B sp k)))
theorem bij_len (t : Nat) : ∀ r, (bij t r).length = if r = 0 then 0 else (bij t ((r - 1) / 2)).length + 1
  | 0 => by rw [bij]; rfl
  | r + 1 => by rw [bij, List.length_append, if_neg (by omega)]; rfl
theorem bij_le (t : Nat) : ∀ r, (bij t r).length ≤ r
  | 0 => by rw [bij]; exact Nat.le_refl _
  | r + 1 => by
    rw [bij, List.length_append]
    have := bij_le t (r / 2)
    show _ + 1 ≤ _
    omega
theorem flat_one : ∀ B : List Nat, (B.map fun c => [c]).flatten = B
  | [] => rfl
  | b :: r => by rw [List.map_cons, List.flatten_cons, flat_one r]; rfl
theorem sum_one : ∀ B : List Nat, (((B.map fun c => [c]).map sc).map (·.length)).sum = B.length
  | [] => rfl
  | b :: r => by
    rw [List.map_cons, List.map_cons, List.map_cons, List.sum_cons, sum_one r, List.length_cons, sc_len]
    exact Nat.add_comm _ _
def restOf (σ : L2.St) (_ : Hp) : Nat := match σ[10]? with
  | some (some (V.int r)) => r.toNat
  | _ => 0
/-- what _law_names promises -/
def spNames : Sp := fun vs H Q _ => ∃ (p c : Addr) (n : Nat) (m : Int), vs = [.ref p, .int m] ∧ PenAt H p c n ∧ n ≤ 50000 ∧ 0 ≤ m ∧ m ≤ 31 ∧
  ∀ (l : Addr) (H' : Hp), H l = none → NmAt H' l m.toNat → PenAt H' p c (n + 10) → But p H H' → Q (.ref l) H'
theorem yesT {σ : L2.St} {H : Hp} {A B : Hp → Prop} (h : A H) : tYes σ H fun b H3 => if b = true then A H3 else B H3 := iteT (A := A H) (B := B H) h
theorem small_sz {n : Nat} (h : n ≤ 1000) : n ≤ sizeLine := Nat.le_of_lt (small1000 h)
theorem at_ex {α : Type} {xs : List α} {r : Int} (h0 : 0 ≤ r) (h1 : r < (xs.length : Int)) : ∃ v, atI xs r = some v ∧ v ∈ xs := by
  have h : r.toNat < xs.length := by omega
  have e : ((r.toNat : Nat) : Int) = r := by omega
  have q := atI_nat (List.getElem?_eq_getElem h)
  rw [e] at q
  exact ⟨_, q, List.getElem_mem h⟩
/-- the def _law_take, as its callers need it -/
structure TakeT (P : Program) (w : World) (K : PySem.W.Frag) (mg : Str → Option Value) (base : Heap) (f : Addr) (fd : FuncData) : Prop where
  ok : FnOk P w K mg base CX0 1 f fd ["_law_pen_here", "_law_many_here"] spTake
  g : mg "_law_take" = some (.ref f)
  kp : PySem.W.keepIn K (.ref f) = true
  b : Binds K fd ["_law_pen_here", "_law_many_here"] []
/-- any def, as its callers need it -/
structure DefT (P : Program) (w : World) (K : PySem.W.Frag) (mg : Str → Option Value) (base : Heap) (x : Str) (k : Nat) (f : Addr) (fd : FuncData) (ps : List Str) (sp : Sp) : Prop where
  ok : FnOk P w K mg base CX0 k f fd ps sp
  g : mg x = some (.ref f)
  kp : PySem.W.keepIn K (.ref f) = true
  b : Binds K fd ps []
abbrev namesN : List Str := ["_law_pen_here", "_law_many_here", "_law_letters", "_law_way", "_law_turn", "_law_k", "_law_base", "_law_spot", "_law_found", "_law_word", "_law_rest"]
section
variable {P : Program} {w : World} {K : PySem.W.Frag} {mg : Str → Option Value} {base : Heap}
theorem scNames : FnScope namesN ["_law_pen_here", "_law_many_here"] (defScope sNames) := ⟨rfl, rfl, rfl, by decide +kernel, rfl, by decide +kernel, by decide +kernel⟩
set_option maxHeartbeats 4000000 in
theorem ok_names {f fT : Addr} {fd fdT : FuncData} (F : Fun K "_law_names" "_law_names" sNames f fd) (T : TakeT P w K mg base fT fdT) (ml : mg "len" = none) (mr : mg "range" = none) :
    FnOk P w K mg base CX0 2 f fd ["_law_pen_here", "_law_many_here"] spNames := by
  refine F.ok scNames (fun vs H Q E h => ?_) (fun cdv A outer s H vs Q E hr h => ?_)
  · obtain ⟨p, c, n, m, rfl, _⟩ := h
    rfl
  · obtain ⟨p, c, n, m, rfl, pen, hn, m0, m31, q⟩ := h
    have nd := scNames.nd
    refine ⟨_, pss_cons (ps_set (i := 2) nd rfl (Or.inr rfl) pe_str)
      (pss_cons (ps_set (i := 3) nd rfl (Or.inl rfl) (pe_call T.ok hr (by rfl) T.g T.kp T.b .nil pass0 (pa_cons (pv 0) (pa_cons pe_int pa_nil))))
      (pss_cons (ps_set (i := 4) nd rfl (Or.inl rfl) (pe_call T.ok hr (by rfl) T.g T.kp T.b .nil pass0 (pa_cons (pv 0) (pa_cons pe_int pa_nil))))
      (pss_cons (ps_set (i := 6) nd rfl (Or.inl rfl) (pe_join pe_str (pe_lc (own := [("_law_k", 5)]) (g := gName 5) (tt := tYes) rfl nd
          (pi_range1 rfl mr (pa_cons (pe_ix ix_list (pe_lst (pa_cons (pe_call T.ok hr (by rfl) T.g T.kp T.b .nil pass0 (pa_cons (pv 0) (pa_cons pe_int pa_nil))) (pa_cons pe_int (pa_cons pe_int pa_nil)))) (pv 3) (fun _ _ => rfl)) pa_nil))
          (blkOk_by (N := namesN) (sc := defScope sNames) (by decide +kernel))
          (fun _ _ _ _ _ => pg_name (i := 5) nd rfl (Or.inl rfl)) (fun _ _ _ _ _ => pts_nil)
          (fun _ _ _ _ _ => pe_ix ix_str (pv 2) (pe_call T.ok hr (by rfl) T.g T.kp T.b .nil pass0 (pa_cons (pv 0) (pa_cons pe_int pa_nil))) (fun _ _ => rfl)))))
      (pss_cons (ps_set (i := 7) nd rfl (Or.inl rfl) (pe_call T.ok hr (by rfl) T.g T.kp T.b .nil pass0 (pa_cons (pv 0) (pa_cons (pe_op op_add (pe_callB call_len_str (by rfl) ml PySem.boot_len (pa_cons (pv 6) pa_nil)) pe_int) pa_nil))))
      (pss_cons (ps_set (i := 8) nd rfl (Or.inl rfl) (pe_lst pa_nil))
      (pss_cons (ps_for PassesOwn.never rfl (pi_range1 rfl mr (pa_cons (pv 1) pa_nil)) (pg_name (i := 5) nd rfl (Or.inl rfl))
        (pss_cons (ps_set (i := 9) nd rfl (Or.inl rfl) (pe_op op_add_str (pe_ix ix_str (pv 2) (pe_op op_mod (pe_op op_add (pv 4) (pe_op op_mul pe_int (pv 5))) pe_int) (fun _ _ => rfl)) (pe_ix ix_str (pv 2) (pe_op op_mod (pe_op op_add (pv 4) (pe_op op_fdiv (pv 5) pe_int)) pe_int) (fun _ _ => rfl))))
        (pss_cons (ps_set (i := 9) nd rfl (Or.inl rfl) (pe_op op_add_str (pe_op op_add_str (pe_slice sl_str (pv 6) po_none (po_some (pv 7))) (pv 9)) (pe_slice sl_str (pv 6) (po_some (pv 7)) po_none)))
        (C8.pss_cut (ps_if (pt_cmpR op_eq (pv 3) pe_int (nomark _))
            (pss_cons (ps_set (i := 9) nd rfl (Or.inl rfl) pe_str)
            (pss_cons (ps_set (i := 10) nd rfl (Or.inl rfl) (pe_op op_add (pv 5) pe_int))
            (pss_one (ps_while PassesOwn.never (pt_cmpR op_gt (pv 10) pe_int (nomark _))
              (pss_cons (ps_set (i := 9) nd rfl (Or.inl rfl) (pe_op op_add_str (pe_ix ix_str (pv 2) (pe_op op_mod (pe_op op_add (pv 4) (pe_op op_mul pe_int (pe_op op_mod (pv 10) pe_int))) pe_int) (fun _ _ => rfl)) (pv 9)))
              (pss_one (ps_set (i := 10) nd rfl (Or.inl rfl) (pe_op op_fdiv (pe_op op_sub (pv 10) pe_int) pe_int)))))))) pss_nil)
        (pss_one (ps_expr (pe_bm PySem.F.plainAttrs_list PySem.F.slot_list_append PySem.F.type_list_append mt_append (pv 8) (pa_cons (pv 9) pa_nil))))))))
      (pss_one (ps_ret (pv 8))))))))), ?_⟩
    -- way, turn
    refine ⟨_, rfl, p, c, n, 3, rfl, pen, by omega, by decide, by decide, fun r1 H1 a1 b1 pen1 bt1 => ?_⟩
    refine ⟨_, rfl, p, c, n + 1, 26, rfl, pen1, by omega, by decide, by decide, fun r2 H2 a2 b2 pen2 bt2 => ?_⟩
    -- the base's size
    refine ⟨⟨_, rfl⟩, _, rfl, p, c, n + 2, 7, rfl, pen2, by omega, by decide, by decide, fun r3 H3 a3 b3 pen3 bt3 => ?_⟩
    refine ⟨(by show 3 ≤ sizeLine; decide), fun l nl => ?_⟩
    have s4 := @same_new _ _ (.lst [V.int r3, .int 0, .int 6]) nl
    obtain ⟨kk, hkk, k0, k6⟩ : ∃ kk : Int, atI [V.int r3, .int 0, .int 6] r1 = some (.int kk) ∧ 0 ≤ kk ∧ kk ≤ 6 := by
      have w3 : r1 = 0 ∨ r1 = 1 ∨ r1 = 2 := by omega
      rcases w3 with rfl | rfl | rfl
      · exact ⟨r3, atI_nat (j := 0) rfl, a3, by omega⟩
      · exact ⟨0, atI_nat (j := 1) rfl, by decide, by decide⟩
      · exact ⟨6, atI_nat (j := 2) rfl, by decide, by decide⟩
    have pen4 := pen3.same s4
    have bt4 : But p H (upd H3 l (.lst [V.int r3, .int 0, .int 6])) := (bt1.tr (bt2.tr bt3)).tr (.of s4)
    refine ⟨_, rfl, l, _, r1, _, rfl, rfl, SqL.of upd_same, hkk, kk, rfl, by omega, by omega, fun D nD => ?_⟩
    generalize upd H3 l (.lst [V.int r3, .int 0, .int 6]) = H4 at pen4 bt4 nD
    have nDp : D ≠ p := fun z => pen4.there (z ▸ nD)
    have nDc : D ≠ c := fun z => pen4.cells (z ▸ nD)
    refine lc_range (lo := 0) (n := kk.toNat) (fun j H' => PenAt H' p c (n + 3 + j) ∧ But p H H' ∧ ∃ B : List Nat, H' D = some (.lst (((B.map fun c => [c]).map sc).map V.str)) ∧ B.length = j ∧ ∀ c ∈ B, c ∈ abc.cps.toList)
      ⟨pen4.same (same_new nD), bt4.tr (.of (same_new nD)), [], upd_same, rfl, fun y hy => nomatch hy⟩ ?_ ?_
    · rintro j H6 hj ⟨pen6, bt6, B, hD6, ly, one⟩
      refine ⟨rfl, yesT ?_⟩
      refine ⟨_, rfl, _, rfl, p, c, _, 26, rfl, pen6, by omega, by decide, by decide, fun r H7 a7 b7 pen7 bt7 => ?_⟩
      have hD7 := bt7 D _ hD6 nDp
      have hDn : H D = none := by
        cases e : H D with
        | none => rfl
        | some o => rw [bt4 D o e nDp] at nD; cases nD
      refine ⟨abc, r, _, rfl, rfl, (by decide +kernel), at_abc a7 b7, _, hD7, (by simp only [List.length_map]; exact small1000 (by omega)), pen7.upd nDp nDc, fun b o e nb => (upd_ne (ne_of_none e hDn)).trans ((bt6.tr bt7) b o e nb), B ++ [Lc r.toNat], ?_, by simp [ly], ?_⟩
      · rw [upd_same, List.map_append, List.map_append, List.map_append]
        rfl
      · intro y hy
        rcases List.mem_append.mp hy with h | h
        · exact one y h
        · rw [List.mem_singleton.mp h]
          exact Lc_in (by omega)
    · rintro H6 ⟨pen6, bt6, B, hD6, ly, one⟩
      have bl : B.length ≤ 6 := by omega
      have ej : Txt.join "" ((B.map fun c => [c]).map sc) = sc B := by rw [sc_join, flat_one]
      refine ⟨"", D, (B.map fun c => [c]).map sc, rfl, rfl, .inl (SqL.of hD6), (by rw [sum_one]; simp only [List.length_map]; show B.length + B.length * 0 ≤ 16777216; omega), ?_⟩
      rw [ej]
      -- the spot
      refine ⟨_, rfl, _, rfl, sc B, rfl, (by rw [sc_len]; exact small_sz (by omega)), _, 1, rfl, rfl, p, c, n + 9, (B.length : Int) + 1, (by rw [sc_len]; rfl), pen6.mono (by omega), by omega, by omega, by omega, fun r4 H7 a4 b4 pen7 bt7 => ?_⟩
      refine ⟨Nat.zero_le _, fun Fd nFd => ?_⟩
      have nFp : Fd ≠ p := fun z => pen7.there (z ▸ nFd)
      have nFc : Fd ≠ c := fun z => pen7.cells (z ▸ nFd)
      have bt8 := bt6.tr bt7
      have hFn : H Fd = none := by
        cases e : H Fd with
        | none => rfl
        | some o => rw [bt8 Fd o e nFp] at nFd; cases nFd
      have nmok : NmOk r1.toNat r2.toNat B r4.toNat := ⟨by omega, bl, one, by omega⟩
      refine ⟨_, rfl, m, rfl, by omega, by omega, for_range (lo := 0) (n := m.toNat) (fun j σ H' => ∃ y5 y9 y10, σ = [some (.ref p), some (.int m), some (.str abc), some (.int r1), some (.int r2), y5, some (.str (sc B)), some (.int r4), some (.ref Fd), y9, y10] ∧
        PenAt H' p c (n + 10) ∧ But p H H' ∧ H' Fd = some (.lst ((List.range j).map fun k => V.str (nmStr r1.toNat r2.toNat B r4.toNat k)))) ⟨_, _, _, rfl, pen7.same (same_new nFd), bt8.tr (.of (same_new nFd)), upd_same⟩ ?_ ?_⟩
      · rintro j σ H9 hj ⟨y5, y9, y10, rfl, pen9, bt9, hF9⟩
        have i1 : 0 ≤ (r2 + 7 * (0 + (j : Int))) % 26 := Int.emod_nonneg _ (by decide)
        have i2 : (r2 + 7 * (0 + (j : Int))) % 26 < 26 := Int.emod_lt_of_pos _ (by decide)
        have i3 : 0 ≤ (r2 + (0 + (j : Int)) / 26) % 26 := Int.emod_nonneg _ (by decide)
        have i4 : (r2 + (0 + (j : Int)) / 26) % 26 < 26 := Int.emod_lt_of_pos _ (by decide)
        refine ⟨_, rfl, _, rfl, _, rfl, 7, 0 + (j : Int), rfl, rfl, .inl ⟨by decide, by decide⟩, r2, _, rfl, rfl, _, 26, rfl, rfl, (by show (0 : Int) < 26; decide), abc, _, _, rfl, rfl, (by decide +kernel), at_abc i1 i2, ?_⟩
        refine ⟨_, rfl, _, rfl, _, rfl, 0 + (j : Int), 26, rfl, rfl, ⟨by decide, by decide⟩, r2, _, rfl, rfl, _, 26, rfl, rfl, (by show (0 : Int) < 26; decide), abc, _, _, rfl, rfl, (by decide +kernel), at_abc i3 i4, _, _, rfl, rfl, (by show 1 + 1 ≤ sizeLine; decide), ?_⟩
        have q1 : ((r2 + 7 * (0 + (j : Int))) % 26).toNat = (r2.toNat + 7 * j) % 26 := by omega
        have q2 : ((r2 + (0 + (j : Int)) / 26) % 26).toNat = (r2.toNat + j / 26) % 26 := by
          have h : (0 + (j : Int)) / 26 = ((j / 26 : Nat) : Int) := by omega
          rw [h]
          generalize j / 26 = u
          omega
        have wd : ((⟨#[Lc ((r2 + 7 * (0 + (j : Int))) % 26).toNat]⟩ : Str) ++ ⟨#[Lc ((r2 + (0 + (j : Int)) / 26) % 26).toNat]⟩ : Str) = sc (nmPair r2.toNat j) := by
          rw [q1, q2]
          exact sc_app [_] [_]
        have e4 : ((r4.toNat : Nat) : Int) = r4 := by omega
        have c1 : cutS (sc B) none (some r4) = sc (B.take r4.toNat) := by rw [← e4]; exact sc_take B (by omega)
        have c2 : cutS (sc B) (some r4) none = sc (B.drop r4.toNat) := by rw [← e4]; exact sc_drop B (by omega)
        have szB : (sc B).length ≤ sizeLine := by rw [sc_len]; exact small_sz (by omega)
        refine ⟨_, rfl, _, rfl, r4, rfl, sc B, rfl, szB, _, rfl, _, _, rfl, rfl, ?_, _, rfl, _, rfl, r4, rfl, sc B, rfl, szB, _, _, rfl, rfl, ?_, ?_⟩
        · rw [wd, c1, sc_len, sc_len]
          refine small_sz ?_
          rw [List.length_take]
          show _ + 2 ≤ _
          omega
        · rw [wd, c1, c2, sc_app, sc_len, sc_len, List.length_append, List.length_take, List.length_drop]
          refine small_sz ?_
          show _ + 2 + _ ≤ _
          omega
        rw [wd, c1, c2, sc_app, sc_app]
        refine ⟨fun σ' H' => ∃ y10, σ' = [some (.ref p), some (.int m), some (.str abc), some (.int r1), some (.int r2), some (.int (0 + (j : Int))), some (.str (sc B)), some (.int r4), some (.ref Fd), some (.str (nmStr r1.toNat r2.toNat B r4.toNat j)), y10] ∧ H' = H9, ?_, ?_⟩
        · refine ⟨_, rfl, rfl, _, rfl, ite2 (fun e => ?_) (fun e => ?_)⟩
          · have e1 : r1 = 1 := V.int.inj (of_decide_eq_true e)
            subst e1
            refine ⟨_, rfl, _, 1, rfl, rfl, ?_⟩
            have el : (bij r2.toNat (j + 1)).length ≤ 100 := Nat.le_trans (bij_le _ _) (by omega)
            refine while_by (fun σ' H' => ∃ (L : List Nat) (r : Int), σ' = [some (.ref p), some (.int m), some (.str abc), some (.int 1), some (.int r2), some (.int (0 + (j : Int))), some (.str (sc B)), some (.int r4), some (.ref Fd), some (.str (sc L)), some (.int r)] ∧ H' = H9 ∧ 0 ≤ r ∧ bij r2.toNat (j + 1) = bij r2.toNat r.toNat ++ L)
              restOf ⟨[], _, rfl, rfl, by omega, ?_⟩ ?_ ?_
            · rw [List.append_nil, show (0 + (j : Int) + 1).toNat = j + 1 by omega]
            · rintro σ' H' ⟨L, r, rfl, rfl, r0, hb⟩
              have lL : L.length ≤ 100 := by
                have := congrArg List.length hb
                rw [List.length_append] at this
                omega
              refine ⟨_, rfl, r, 0, rfl, rfl, _, rfl, ite2 (fun er => ?_) (fun er => ?_)⟩
              · have er' : 0 < r := of_decide_eq_true er
                have d1 : 0 ≤ (r2 + 9 * (r % 2)) % 26 := Int.emod_nonneg _ (by decide)
                have d2 : (r2 + 9 * (r % 2)) % 26 < 26 := Int.emod_lt_of_pos _ (by decide)
                refine ⟨_, rfl, _, rfl, _, rfl, r, 2, rfl, rfl, (by show (0 : Int) < 2; decide), 9, _, rfl, rfl, .inl ⟨by decide, by decide⟩, r2, _, rfl, rfl, _, 26, rfl, rfl, (by show (0 : Int) < 26; decide), abc, _, _, rfl, rfl, (by decide +kernel), at_abc d1 d2, _, rfl, _, sc L, rfl, rfl, ?_, ?_⟩
                · show 1 + (sc L).length ≤ sizeLine
                  rw [sc_len]
                  exact small_sz (by omega)
                · refine ⟨_, rfl, r, 1, rfl, rfl, r - 1, 2, rfl, rfl, ⟨by decide, by decide⟩, ⟨Lc ((r2 + 9 * (r % 2)) % 26).toNat :: L, (r - 1) / 2, ?_, rfl, by omega, ?_⟩, ?_⟩
                  · rw [show ((⟨#[Lc ((r2 + 9 * (r % 2)) % 26).toNat]⟩ : Str) ++ sc L : Str) = sc (Lc ((r2 + 9 * (r % 2)) % 26).toNat :: L) from sc_app [_] L]
                    rfl
                  · rw [hb]
                    obtain ⟨u, rfl⟩ : ∃ u : Nat, r = ((u + 1 : Nat) : Int) := ⟨(r - 1).toNat, by omega⟩
                    rw [Int.toNat_natCast, bij, List.append_assoc, show ((((u + 1 : Nat) : Int) - 1) / 2).toNat = u / 2 by omega, show ((r2 + 9 * ((((u + 1 : Nat) : Int)) % 2)) % 26).toNat = (r2.toNat + 9 * ((u + 1) % 2)) % 26 by omega]
                    rfl
                  · show ((r - 1) / 2).toNat < r.toNat
                    omega
              · have er' : ¬ 0 < r := fun h => er (decide_eq_true h)
                have : r = 0 := by omega
                subst this
                refine ⟨some (.int 0), ?_, rfl⟩
                rw [show nmStr (1 : Int).toNat r2.toNat B r4.toNat j = sc L by
                  show sc (if 1 = 1 then bij r2.toNat (j + 1) else _) = sc L
                  rw [if_pos rfl, hb, show (0 : Int).toNat = 0 from rfl, bij, List.nil_append]]
            · rintro σ' H' Q1 Q2 hq ⟨v, hv, i, k, x1, x2, b, x3, x4⟩
              exact ⟨v, hv, i, k, x1, x2, b, x3, hq _ _ x4⟩
          · have e1 : ¬ r1 = 1 := fun h => e (decide_eq_true (congrArg V.int h))
            refine ⟨y10, ?_, rfl⟩
            rw [show nmStr r1.toNat r2.toNat B r4.toNat j = sc (B.take r4.toNat ++ nmPair r2.toNat j ++ B.drop r4.toNat) by
              show sc (if r1.toNat = 1 then _ else _) = _
              rw [if_neg (by omega)]]
            rfl
        · rintro σ' H' ⟨z10, rfl, rfl⟩
          refine ⟨_, rfl, .inl ⟨rfl, _, SqL.of hF9⟩, _, rfl, Fd, _, _, rfl, rfl, hF9, (by simp only [List.length_map, List.length_range]; exact small1000 (by omega)), ⟨_, _, _, rfl, pen9.upd nFp nFc, fun b o e nb => (upd_ne (ne_of_none e hFn)).trans (bt9 b o e nb), ?_⟩⟩
          rw [upd_same, List.range_succ, List.map_append]
          rfl
      · rintro σ H9 ⟨y5, y9, y10, rfl, pen9, bt9, hF9⟩
        exact ⟨_, rfl, q Fd H9 hFn ⟨_, _, _, _, nmok, hF9⟩ pen9 bt9⟩
end
/-! ### entries -/
inductive Ent where
  | come (nm : Str) (mo : Int) (g pl : Str) (many price : Int)
  | go (nm : Str) (mo : Int) (g pl : Str) (many : Int)
  | move (nm : Str) (mo : Int) (g one other : Str) (many : Int)
  | some_ (nm : Str) (mo : Int) (g one other : Str)
  | swap (nm : Str) (mo : Int) (one other : Str)
  | count (nm : Str) (mo : Int) (g pl : Str) (many : Int) (hand : Str)
  | look (nm : Str) (mo : Int) (g pl : Str)
namespace Ent
def word : Ent → Str
  | come .. => "come" | go .. => "go" | move .. => "move" | some_ .. => "some" | swap .. => "swap" | count .. => "count" | look .. => "look"
def name : Ent → Str
  | come n .. => n | go n .. => n | move n .. => n | some_ n .. => n | swap n .. => n | count n .. => n | look n .. => n
def moment : Ent → Int
  | come _ m .. => m | go _ m .. => m | move _ m .. => m | some_ _ m .. => m | swap _ m .. => m | count _ m .. => m | look _ m .. => m
def rest : Ent → List V
  | come _ _ g p m r => [.str g, .str p, .int m, .int r]
  | go _ _ g p m => [.str g, .str p, .int m]
  | move _ _ g o t m => [.str g, .str o, .str t, .int m]
  | some_ _ _ g o t => [.str g, .str o, .str t]
  | swap _ _ o t => [.str o, .str t]
  | count _ _ g p m h => [.str g, .str p, .int m, .str h]
  | look _ _ g p => [.str g, .str p]
def vals (e : Ent) : List V := .str e.word :: .str e.name :: .int e.moment :: e.rest
/-- its parts are drawn from these places, goods and hands -/
def From (PL GL HL : List Str) : Ent → Prop
  | come _ _ g p m r => g ∈ GL ∧ p ∈ PL ∧ 1 ≤ m ∧ m ≤ 1000000000 ∧ 0 ≤ r ∧ r ≤ 1000000000
  | go _ _ g p m => g ∈ GL ∧ p ∈ PL ∧ 1 ≤ m ∧ m ≤ 1000000000
  | move _ _ g o t m => g ∈ GL ∧ o ∈ PL ∧ t ∈ PL ∧ (PL.Nodup → o ≠ t) ∧ 1 ≤ m ∧ m ≤ 1000000000
  | some_ _ _ g o t => g ∈ GL ∧ o ∈ PL ∧ (t = "" ∨ (t ∈ PL ∧ (PL.Nodup → o ≠ t)))
  | swap _ _ o t => o ∈ PL ∧ t ∈ PL ∧ (PL.Nodup → o ≠ t)
  | count _ _ g p m h => g ∈ GL ∧ p ∈ PL ∧ 0 ≤ m ∧ m ≤ 1000000000 ∧ h ∈ HL
  | look _ _ g p => g ∈ GL ∧ p ∈ PL
end Ent
def words7 : List Str := ["come", "go", "move", "some", "swap", "count", "look"]
abbrev words10 : List Str := ["come", "go", "move", "some", "swap", "count", "look", "count", "swap", "move"]
theorem Ent.word_in (e : Ent) : e.word ∈ words7 := by
  cases e <;> simp [Ent.word, words7]
abbrev StrsAt (H : Hp) (l : Addr) (ys : List Str) : Prop := H l = some (.lst (ys.map V.str))
def spMany : Sp := fun vs H Q _ => ∃ (p c : Addr) (n : Nat), vs = [.ref p] ∧ PenAt H p c n ∧ n ≤ 90000 ∧
  ∀ (r : Int) (H' : Hp), 1 ≤ r → r ≤ 1000000000 → PenAt H' p c (n + 4) → But p H H' → Q (.int r) H'
def spEntryOf : Sp := fun vs H Q _ => ∃ (p c : Addr) (n : Nat) (wd nme : Str) (mo : Int) (a1 a2 a3 : Addr) (PL GL HL : List Str), vs = [.ref p, .str wd, .str nme, .int mo, .ref a1, .ref a2, .ref a3] ∧ PenAt H p c n ∧ n ≤ 80000 ∧ wd ∈ words7 ∧
  StrsAt H a1 PL ∧ StrsAt H a2 GL ∧ StrsAt H a3 HL ∧ PL ≠ [] ∧ GL ≠ [] ∧ HL ≠ [] ∧ PL.length ≤ 100 ∧ GL.length ≤ 100 ∧ HL.length ≤ 100 ∧
  ∀ (tp : Addr) (e : Ent) (H' : Hp), H tp = none → H' tp = some (.tup e.vals) → e.name = nme → e.moment = mo → e.From PL GL HL → PenAt H' p c (n + 20) → But p H H' → Q (.ref tp) H'
def spEntry : Sp := fun vs H Q _ => ∃ (p c : Addr) (n : Nat) (nme : Str) (mo : Int) (a1 a2 a3 : Addr) (PL GL HL : List Str), vs = [.ref p, .str nme, .int mo, .ref a1, .ref a2, .ref a3] ∧ PenAt H p c n ∧ n ≤ 70000 ∧
  StrsAt H a1 PL ∧ StrsAt H a2 GL ∧ StrsAt H a3 HL ∧ PL ≠ [] ∧ GL ≠ [] ∧ HL ≠ [] ∧ PL.length ≤ 100 ∧ GL.length ≤ 100 ∧ HL.length ≤ 100 ∧
  ∀ (tp : Addr) (e : Ent) (H' : Hp), H tp = none → H' tp = some (.tup e.vals) → e.name = nme → e.moment = mo → e.From PL GL HL → PenAt H' p c (n + 30) → But p H H' → Q (.ref tp) H'
theorem pen_strs {H H' : Hp} {p c l : Addr} {n : Nat} {ys : List Str} (pen : PenAt H p c n) (b : But p H H') (h : StrsAt H l ys) : StrsAt H' l ys := by
  obtain ⟨kvs, ns, a, x, g1, _⟩ := pen.ex
  exact b l _ h (ne_of h g1 (by intro z; cases z))
theorem pen_free {H H' : Hp} {p c l : Addr} {n : Nat} (pen : PenAt H p c n) (b : But p H H') (h : H' l = none) (pen' : PenAt H' p c n) : H l = none := by
  cases e : H l with
  | none => rfl
  | some o =>
    have nl : l ≠ p := fun z => pen'.there (z ▸ h)
    rw [b l o e nl] at h
    cases h
theorem But.free {H H' : Hp} {p l : Addr} (b : But p H H') (h : H' l = none) (hp : H' p ≠ none) : H l = none := by
  cases e : H l with
  | none => rfl
  | some o =>
    have nl : l ≠ p := fun z => hp (z ▸ h)
    rw [b l o e nl] at h
    cases h
theorem at_strs {ys : List Str} {r : Int} (h0 : 0 ≤ r) (h1 : r < (ys.length : Int)) : ∃ y, atI (ys.map V.str) r = some (.str y) ∧ ys[r.toNat]? = some y ∧ y ∈ ys := by
  have h : r.toNat < ys.length := by omega
  have e : ((r.toNat : Nat) : Int) = r := by omega
  have q := atI_nat (xs := ys.map V.str) (j := r.toNat) (v := .str ys[r.toNat]) (by rw [List.getElem?_map, List.getElem?_eq_getElem h]; rfl)
  rw [e] at q
  exact ⟨_, q, List.getElem?_eq_getElem h, List.getElem_mem h⟩
section
variable {P : Program} {w : World} {K : PySem.W.Frag} {mg : Str → Option Value} {base : Heap}
theorem scMany : FnScope ["_law_pen_here", "_law_way"] ["_law_pen_here"] (defScope sMany) := ⟨rfl, rfl, rfl, by decide +kernel, rfl, by decide +kernel, by decide +kernel⟩
theorem ok_many {f fT : Addr} {fd fdT : FuncData} (F : Fun K "_law_many" "_law_many" sMany f fd) (T : TakeT P w K mg base fT fdT) : FnOk P w K mg base CX0 2 f fd ["_law_pen_here"] spMany := by
  refine F.ok scMany (fun vs H Q E h => ?_) (fun cdv A outer s H vs Q E hr h => ?_)
  · obtain ⟨p, c, n, rfl, _⟩ := h
    rfl
  · obtain ⟨p, c, n, rfl, pen, hn, q⟩ := h
    have nd := scMany.nd
    refine ⟨_, pss_cons (ps_set (i := 1) nd rfl (Or.inl rfl) (pe_call T.ok hr (by rfl) T.g T.kp T.b .nil pass0 (pa_cons (pv 0) (pa_cons pe_int pa_nil))))
      (pss_one (ps_ret (pe_ix ix_list (pe_lst (pa_cons pe_int (pa_cons (pe_op op_add pe_int (pe_call T.ok hr (by rfl) T.g T.kp T.b .nil pass0 (pa_cons (pv 0) (pa_cons pe_int pa_nil))))
        (pa_cons (pe_op op_sub (pe_op op_pow pe_int pe_int) (pe_call T.ok hr (by rfl) T.g T.kp T.b .nil pass0 (pa_cons (pv 0) (pa_cons pe_int pa_nil))))
        (pa_cons (pe_op op_add pe_int (pe_call T.ok hr (by rfl) T.g T.kp T.b .nil pass0 (pa_cons (pv 0) (pa_cons (pe_op op_pow pe_int pe_int) pa_nil)))) pa_nil))))) (pv 1) (fun _ _ => rfl)))), ?_⟩
    refine ⟨_, rfl, p, c, n, 4, rfl, pen, by omega, by decide, by decide, fun r1 H1 a1 b1 pen1 bt1 => ?_⟩
    refine ⟨_, rfl, p, c, n + 1, 9, rfl, pen1, by omega, by decide, by decide, fun r2 H2 a2 b2 pen2 bt2 => ?_⟩
    refine ⟨1, r2, rfl, rfl, 10, 9, rfl, rfl, ⟨by decide, by decide, by decide⟩, _, rfl, p, c, n + 2, 3, rfl, pen2, by omega, by decide, by decide, fun r3 H3 a3 b3 pen3 bt3 => ?_⟩
    refine ⟨_, r3, rfl, rfl, _, rfl, 10, 9, rfl, rfl, ⟨by decide, by decide, by decide⟩, p, c, n + 3, 10 ^ (9 : Int).toNat, rfl, pen3, by omega, by decide, by decide, fun r4 H4 a4 b4 pen4 bt4 => ?_⟩
    have b4' : r4 < 1000000000 := b4
    refine ⟨1, r4, rfl, rfl, (by show 4 ≤ sizeLine; decide), fun l nl => ?_⟩
    have fin : ∀ r : Int, 1 ≤ r → r ≤ 1000000000 → Q (.int r) (upd H4 l (.lst [.int 1, .int (1 + r2), .int (10 ^ (9 : Int).toNat - r3), .int (1 + r4)])) := fun r h1 h2 => q r _ h1 h2 (pen4.same (same_new nl)) ((bt1.tr (bt2.tr (bt3.tr bt4))).tr (.of (same_new nl)))
    have w4 : r1 = 0 ∨ r1 = 1 ∨ r1 = 2 ∨ r1 = 3 := by omega
    rcases w4 with rfl | rfl | rfl | rfl
    · exact ⟨_, rfl, l, _, 0, _, rfl, rfl, SqL.of upd_same, atI_nat (j := 0) rfl, fin _ (by decide) (by decide)⟩
    · exact ⟨_, rfl, l, _, 1, _, rfl, rfl, SqL.of upd_same, atI_nat (j := 1) rfl, fin _ (by omega) (by omega)⟩
    · exact ⟨_, rfl, l, _, 2, _, rfl, rfl, SqL.of upd_same, atI_nat (j := 2) rfl, fin _ (by show (1 : Int) ≤ 1000000000 - r3; omega) (by show (1000000000 : Int) - r3 ≤ 1000000000; omega)⟩
    · exact ⟨_, rfl, l, _, 3, _, rfl, rfl, SqL.of upd_same, atI_nat (j := 3) rfl, fin _ (by omega) (by omega)⟩
abbrev entN : List Str := ["_law_pen_here", "_law_word", "_law_name", "_law_moment", "_law_places", "_law_goods", "_law_hands", "_law_at", "_law_one", "_law_good", "_law_other"]
theorem scEntryOf : FnScope entN ["_law_pen_here", "_law_word", "_law_name", "_law_moment", "_law_places", "_law_goods", "_law_hands"] (defScope sEntryOf) := ⟨rfl, rfl, rfl, by decide +kernel, rfl, by decide +kernel, by decide +kernel⟩
set_option maxHeartbeats 4000000 in
theorem ok_entryOf {f fT fM : Addr} {fd fdT fdM : FuncData} (F : Fun K "_law_entry_of" "_law_entry_of" sEntryOf f fd) (T : TakeT P w K mg base fT fdT) (M : DefT P w K mg base "_law_many" 2 fM fdM ["_law_pen_here"] spMany) (ml : mg "len" = none) :
    FnOk P w K mg base CX0 3 f fd ["_law_pen_here", "_law_word", "_law_name", "_law_moment", "_law_places", "_law_goods", "_law_hands"] spEntryOf := by
  refine F.ok scEntryOf (fun vs H Q E h => ?_) (fun cdv A outer s H vs Q E hr h => ?_)
  · obtain ⟨p, c, n, wd, nme, mo, a1, a2, a3, PL, GL, HL, rfl, _⟩ := h
    rfl
  · obtain ⟨p, c, n, wd, nme, mo, a1, a2, a3, PL, GL, HL, rfl, pen, hn, hw, h1, h2, h3, ne1, ne2, ne3, lp, lg, lh, q⟩ := h
    have nd := scEntryOf.nd
    have hr1 : Room 1 _ := hr.mono (by decide)
    refine ⟨_, pss_cons (ps_set (i := 7) nd rfl (Or.inl rfl) (pe_call T.ok hr1 (by rfl) T.g T.kp T.b .nil pass0 (pa_cons (pv 0) (pa_cons (pe_callB call_len_seq (by rfl) ml PySem.boot_len (pa_cons (pv 4) pa_nil)) pa_nil))))
      (pss_cons (ps_set (i := 8) nd rfl (Or.inl rfl) (pe_ix ix_list (pv 4) (pv 7) (fun _ _ => rfl)))
      (pss_cons (ps_set (i := 9) nd rfl (Or.inl rfl) (pe_ix ix_list (pv 5) (pe_call T.ok hr1 (by rfl) T.g T.kp T.b .nil pass0 (pa_cons (pv 0) (pa_cons (pe_callB call_len_seq (by rfl) ml PySem.boot_len (pa_cons (pv 5) pa_nil)) pa_nil))) (fun _ _ => rfl)))
      (pss_cons (ps_set (i := 10) nd rfl (Or.inl rfl) pe_str)
      (C8.pss_cut (ps_if (pt_cmpR op_gt (pe_callB call_len_seq (by rfl) ml PySem.boot_len (pa_cons (pv 4) pa_nil)) pe_int (nomark _))
        (pss_one (ps_set (i := 10) nd rfl (Or.inl rfl) (pe_ix ix_list (pv 4) (pe_op op_mod (pe_op op_add (pe_op op_add (pv 7) pe_int) (pe_call T.ok hr1 (by rfl) T.g T.kp T.b .nil pass0 (pa_cons (pv 0) (pa_cons (pe_op op_sub (pe_callB call_len_seq (by rfl) ml PySem.boot_len (pa_cons (pv 4) pa_nil)) pe_int) pa_nil)))) (pe_callB call_len_seq (by rfl) ml PySem.boot_len (pa_cons (pv 4) pa_nil))) (fun _ _ => rfl)))) pss_nil)
      (pss_cons (ps_if (pt_cmpR op_eq (pv 1) pe_str (nomark _)) (pss_one (ps_ret (pe_tup (pa_cons (pv 1) (pa_cons (pv 2) (pa_cons (pv 3) (pa_cons (pv 9) (pa_cons (pv 8) (pa_cons (pe_call M.ok hr (by rfl) M.g M.kp M.b .nil pass0 (pa_cons (pv 0) pa_nil)) (pa_cons (pe_op op_sub (pe_call M.ok hr (by rfl) M.g M.kp M.b .nil pass0 (pa_cons (pv 0) pa_nil)) (pe_call T.ok hr1 (by rfl) T.g T.kp T.b .nil pass0 (pa_cons (pv 0) (pa_cons pe_int pa_nil)))) pa_nil)))))))))) pss_nil)
      (pss_cons (ps_if (pt_cmpR op_eq (pv 1) pe_str (nomark _)) (pss_one (ps_ret (pe_tup (pa_cons (pv 1) (pa_cons (pv 2) (pa_cons (pv 3) (pa_cons (pv 9) (pa_cons (pv 8) (pa_cons (pe_call M.ok hr (by rfl) M.g M.kp M.b .nil pass0 (pa_cons (pv 0) pa_nil)) pa_nil))))))))) pss_nil)
      (C8.pss_cut (ps_if (PW.pt (pw_and (pt_cmpR op_eq (pv 1) pe_str (nomark _)) (pw_and1 (pt_cmpR op_ne (pv 10) pe_str (nomark _))))) (pss_one (ps_ret (pe_tup (pa_cons (pv 1) (pa_cons (pv 2) (pa_cons (pv 3) (pa_cons (pv 9) (pa_cons (pv 8) (pa_cons (pv 10) (pa_cons (pe_call M.ok hr (by rfl) M.g M.kp M.b .nil pass0 (pa_cons (pv 0) pa_nil)) pa_nil)))))))))) pss_nil)
      (pss_cons (ps_if (pt_cmpR op_eq (pv 1) pe_str (nomark _)) (pss_one (ps_ret (pe_tup (pa_cons (pv 1) (pa_cons (pv 2) (pa_cons (pv 3) (pa_cons (pv 9) (pa_cons (pv 8) (pa_cons (pe_ix ix_list (pe_lst (pa_cons (pv 10) (pa_cons (pv 10) (pa_cons pe_str pa_nil)))) (pe_call T.ok hr1 (by rfl) T.g T.kp T.b .nil pass0 (pa_cons (pv 0) (pa_cons pe_int pa_nil))) (fun _ _ => rfl)) pa_nil))))))))) pss_nil)
      (C8.pss_cut (ps_if (PW.pt (pw_and (pt_cmpR op_eq (pv 1) pe_str (nomark _)) (pw_and1 (pt_cmpR op_ne (pv 10) pe_str (nomark _))))) (pss_one (ps_ret (pe_tup (pa_cons (pv 1) (pa_cons (pv 2) (pa_cons (pv 3) (pa_cons (pv 8) (pa_cons (pv 10) pa_nil)))))))) pss_nil)
      (pss_cons (ps_if (pt_cmpR op_eq (pv 1) pe_str (nomark _)) (pss_one (ps_ret (pe_tup (pa_cons (pv 1) (pa_cons (pv 2) (pa_cons (pv 3) (pa_cons (pv 9) (pa_cons (pv 8) (pa_cons (pe_op op_sub (pe_call M.ok hr (by rfl) M.g M.kp M.b .nil pass0 (pa_cons (pv 0) pa_nil)) (pe_call T.ok hr1 (by rfl) T.g T.kp T.b .nil pass0 (pa_cons (pv 0) (pa_cons pe_int pa_nil)))) (pa_cons (pe_ix ix_list (pv 6) (pe_call T.ok hr1 (by rfl) T.g T.kp T.b .nil pass0 (pa_cons (pv 0) (pa_cons (pe_callB call_len_seq (by rfl) ml PySem.boot_len (pa_cons (pv 6) pa_nil)) pa_nil))) (fun _ _ => rfl)) pa_nil)))))))))) pss_nil)
      (pss_one (ps_ret (pe_tup (pa_cons pe_str (pa_cons (pv 2) (pa_cons (pv 3) (pa_cons (pv 9) (pa_cons (pv 8) pa_nil)))))))))))))))))), ?_⟩
    have p1 : 0 < PL.length := List.length_pos_iff.mpr ne1
    have g1 : 0 < GL.length := List.length_pos_iff.mpr ne2
    have k1 : 0 < HL.length := List.length_pos_iff.mpr ne3
    have lmap : ∀ ys : List Str, ((ys.map V.str).length : Int) = (ys.length : Int) := fun ys => by rw [List.length_map]
    -- at, one
    refine ⟨_, rfl, _, rfl, a1, _, rfl, .inl (SqL.of h1), p, c, n, _, rfl, pen, by omega, by rw [lmap]; omega, by rw [lmap]; omega, fun r1 H1 b1 d1 pen1 bt1 => ?_⟩
    rw [lmap] at d1
    have h11 := pen_strs pen bt1 h1
    have h12 := pen_strs pen bt1 h2
    have h13 := pen_strs pen bt1 h3
    obtain ⟨one, ho, ho2, ho3⟩ := at_strs b1 d1
    refine ⟨_, rfl, _, rfl, a1, _, r1, _, rfl, rfl, SqL.of h11, ho, ?_⟩
    refine ⟨_, rfl, _, rfl, _, rfl, a2, _, rfl, .inl (SqL.of h12), p, c, n + 1, _, rfl, pen1, by omega, by rw [lmap]; omega, by rw [lmap]; omega, fun r2 H2 b2 d2 pen2 bt2 => ?_⟩
    rw [lmap] at d2
    have h21 := pen_strs pen1 bt2 h11
    have h22 := pen_strs pen1 bt2 h12
    have h23 := pen_strs pen1 bt2 h13
    obtain ⟨good, hg, _, hg3⟩ := at_strs b2 d2
    have bt02 := bt1.tr bt2
    refine ⟨a2, _, r2, _, rfl, rfl, SqL.of h22, hg, ?_⟩
    refine ⟨fun σ' H' => ∃ other : Str, σ' = [some (.ref p), some (.str wd), some (.str nme), some (.int mo), some (.ref a1), some (.ref a2), some (.ref a3), some (.int r1), some (.str one), some (.str good), some (.str other)] ∧ (other = "" ∨ (other ∈ PL ∧ (PL.Nodup → one ≠ other))) ∧
      PenAt H' p c (n + 3) ∧ But p H H' ∧ StrsAt H' a1 PL ∧ StrsAt H' a2 GL ∧ StrsAt H' a3 HL, ?_, ?_⟩
    · refine ⟨_, rfl, a1, _, rfl, .inl (SqL.of h21), _, 1, rfl, rfl, _, rfl, ite2 (fun e => ?_) (fun e => ⟨"", rfl, .inl rfl, pen2.mono (by omega), bt02, h21, h22, h23⟩)⟩
      have e' : 1 < ((PL.map V.str).length : Int) := of_decide_eq_true e
      rw [lmap] at e'
      refine ⟨_, rfl, _, rfl, r1, 1, rfl, rfl, _, rfl, _, rfl, a1, _, rfl, .inl (SqL.of h21), _, 1, rfl, rfl, p, c, n + 2, _, rfl, pen2, by omega, by rw [lmap]; omega, by rw [lmap]; omega, fun r3 H3 b3 d3 pen3 bt3 => ?_⟩
      rw [lmap] at d3
      have h31 := pen_strs pen2 bt3 h21
      have h32 := pen_strs pen2 bt3 h22
      have h33 := pen_strs pen2 bt3 h23
      have x1 : 0 ≤ (r1 + 1 + r3) % (PL.length : Int) := Int.emod_nonneg _ (by omega)
      have x2 : (r1 + 1 + r3) % (PL.length : Int) < (PL.length : Int) := Int.emod_lt_of_pos _ (by omega)
      obtain ⟨other, hp, hp2, hp3⟩ := at_strs x1 x2
      refine ⟨r1 + 1, r3, rfl, rfl, _, rfl, a1, _, rfl, .inl (SqL.of h31), _, (PL.length : Int), rfl, by rw [lmap], (by show (0 : Int) < PL.length; omega), a1, _, _, .str other, rfl, rfl, SqL.of h31, hp, other, rfl, .inr ⟨hp3, fun nod z => ?_⟩, pen3, bt02.tr bt3, h31, h32, h33⟩
      subst z
      have := (List.getElem?_inj (show r1.toNat < PL.length by omega) nod).mp (ho2.trans hp2.symm)
      have x3 : (r1 + 1 + r3) % (PL.length : Int) = r1 + 1 + r3 ∨ (r1 + 1 + r3) % (PL.length : Int) = r1 + 1 + r3 - PL.length := by
        by_cases h : r1 + 1 + r3 < PL.length
        · exact .inl (Int.emod_eq_of_lt (by omega) h)
        · right
          rw [← Int.sub_emod_right]
          exact Int.emod_eq_of_lt (by omega) (by omega)
      omega
    · rintro σ' H3 ⟨other, rfl, oth, pen3, bt3, h31, h32, h33⟩
      have fin : ∀ (tp : Addr) (e : Ent) (H4 : Hp) (k : Nat), H4 tp = none → But p H3 H4 → PenAt H4 p c (n + 3 + k) → k ≤ 17 → e.name = nme → e.moment = mo → e.From PL GL HL → Q (.ref tp) (upd H4 tp (.tup e.vals)) := fun tp e H4 k ntp bt4 pen4 hk e1 e2 e3 =>
        q tp e _ ((bt3.tr bt4).free ntp pen4.there) upd_same e1 e2 e3 ((pen4.mono (by omega)).same (same_new ntp)) ((bt3.tr bt4).tr (.of (same_new ntp)))
      refine ⟨_, rfl, rfl, _, rfl, ite2 (fun e => ?_) (fun e1 => ?_)⟩
      · have e' : wd = "come" := V.str.inj (of_decide_eq_true e)
        subst e'
        refine ⟨_, rfl, _, rfl, _, rfl, _, rfl, _, rfl, _, rfl, p, c, n + 3, rfl, pen3, by omega, fun m1 H4 c1 d1 pen4 bt4 => ?_⟩
        refine ⟨_, rfl, p, c, _, rfl, pen4, by omega, fun m2 H5 c2 d2 pen5 bt5 => ?_⟩
        refine ⟨_, rfl, p, c, _, 2, rfl, pen5, by omega, by decide, by decide, fun r6 H6 c6 d6 pen6 bt6 => ?_⟩
        refine ⟨m2, r6, rfl, rfl, (by show 7 ≤ sizeLine; decide), fun tp ntp => ?_⟩
        exact fin tp (.come nme mo good one m1 (m2 - r6)) H6 9 ntp (bt4.tr (bt5.tr bt6)) pen6 (by decide) rfl rfl ⟨hg3, ho3, c1, d1, by omega, by omega⟩
      refine ⟨_, rfl, rfl, _, rfl, ite2 (fun e => ?_) (fun e2 => ?_)⟩
      · have e' : wd = "go" := V.str.inj (of_decide_eq_true e)
        subst e'
        refine ⟨_, rfl, _, rfl, _, rfl, _, rfl, _, rfl, _, rfl, p, c, n + 3, rfl, pen3, by omega, fun m1 H4 c1 d1 pen4 bt4 => ?_⟩
        refine ⟨(by show 6 ≤ sizeLine; decide), fun tp ntp => ?_⟩
        exact fin tp (.go nme mo good one m1) H4 4 ntp bt4 pen4 (by decide) rfl rfl ⟨hg3, ho3, c1, d1⟩
      have mv : ∀ (A B : Prop), (other ≠ "" → A) → B → (if (!decide (V.str other = V.str "")) = true then A else B) := fun A B hA hB => by
        by_cases z : other = ""
        · subst z
          rw [decide_eq_true rfl]
          exact iteF hB
        · rw [decide_eq_false fun h => z (V.str.inj h)]
          exact iteT (hA z)
      have oin : other ≠ "" → other ∈ PL ∧ (PL.Nodup → one ≠ other) := fun z => oth.resolve_left z
      refine ⟨fun σ' H' => σ' = [some (.ref p), some (.str wd), some (.str nme), some (.int mo), some (.ref a1), some (.ref a2), some (.ref a3), some (.int r1), some (.str one), some (.str good), some (.str other)] ∧ H' = H3, ?_, ?_⟩
      · refine ⟨_, rfl, rfl, _, rfl, ite2 (fun e => ?_) (fun _ => iteF ⟨rfl, rfl⟩)⟩
        have e' : wd = "move" := V.str.inj (of_decide_eq_true e)
        subst e'
        refine ⟨_, rfl, rfl, _, rfl, mv _ _ (fun z => ?_) ⟨rfl, rfl⟩⟩
        refine ⟨_, rfl, _, rfl, _, rfl, _, rfl, _, rfl, _, rfl, _, rfl, p, c, n + 3, rfl, pen3, by omega, fun m1 H4 c1 d1 pen4 bt4 => ?_⟩
        refine ⟨(by show 7 ≤ sizeLine; decide), fun tp ntp => ?_⟩
        exact fin tp (.move nme mo good one other m1) H4 4 ntp bt4 pen4 (by decide) rfl rfl ⟨hg3, ho3, (oin z).1, (oin z).2, c1, d1⟩
      rintro σ' H' ⟨rfl, rfl⟩
      refine ⟨_, rfl, rfl, _, rfl, ite2 (fun e => ?_) (fun e3 => ?_)⟩
      · have e' : wd = "some" := V.str.inj (of_decide_eq_true e)
        subst e'
        refine ⟨_, rfl, _, rfl, _, rfl, _, rfl, _, rfl, _, rfl, _, rfl, (by show 3 ≤ sizeLine; decide), fun l nl => ?_⟩
        have sl := @same_new _ _ (.lst [V.str other, .str other, .str ""]) nl
        have nlp : l ≠ p := fun z => pen3.there (z ▸ nl)
        refine ⟨_, rfl, p, c, n + 3, 3, rfl, pen3.same sl, by omega, by decide, by decide, fun r4 H4 c4 d4 pen4 bt4 => ?_⟩
        have hl := bt4 l _ upd_same nlp
        obtain ⟨to, ht, hto⟩ : ∃ to : Str, atI [V.str other, .str other, .str ""] r4 = some (.str to) ∧ (to = "" ∨ (to ∈ PL ∧ (PL.Nodup → one ≠ to))) := by
          have w3 : r4 = 0 ∨ r4 = 1 ∨ r4 = 2 := by omega
          rcases w3 with rfl | rfl | rfl
          · exact ⟨other, atI_nat (j := 0) rfl, oth⟩
          · exact ⟨other, atI_nat (j := 1) rfl, oth⟩
          · exact ⟨"", atI_nat (j := 2) rfl, .inl rfl⟩
        refine ⟨l, _, r4, _, rfl, rfl, SqL.of hl, ht, (by show 6 ≤ sizeLine; decide), fun tp ntp => ?_⟩
        exact fin tp (.some_ nme mo good one to) H4 1 ntp ((But.of sl).tr bt4) pen4 (by decide) rfl rfl ⟨hg3, ho3, hto⟩
      refine ⟨fun σ' H1 => σ' = [some (.ref p), some (.str wd), some (.str nme), some (.int mo), some (.ref a1), some (.ref a2), some (.ref a3), some (.int r1), some (.str one), some (.str good), some (.str other)] ∧ H1 = H', ?_, ?_⟩
      · refine ⟨_, rfl, rfl, _, rfl, ite2 (fun e => ?_) (fun _ => iteF ⟨rfl, rfl⟩)⟩
        have e' : wd = "swap" := V.str.inj (of_decide_eq_true e)
        subst e'
        refine ⟨_, rfl, rfl, _, rfl, mv _ _ (fun z => ?_) ⟨rfl, rfl⟩⟩
        refine ⟨_, rfl, _, rfl, _, rfl, _, rfl, _, rfl, (by show 5 ≤ sizeLine; decide), fun tp ntp => ?_⟩
        exact fin tp (.swap nme mo one other) H' 0 ntp (.refl _ _) pen3 (by decide) rfl rfl ⟨ho3, (oin z).1, (oin z).2⟩
      rintro σ' H2 ⟨rfl, rfl⟩
      refine ⟨_, rfl, rfl, _, rfl, ite2 (fun e => ?_) (fun e5 => ?_)⟩
      · have e' : wd = "count" := V.str.inj (of_decide_eq_true e)
        subst e'
        refine ⟨_, rfl, _, rfl, _, rfl, _, rfl, _, rfl, _, rfl, p, c, n + 3, rfl, pen3, by omega, fun m1 H4 c1 d1 pen4 bt4 => ?_⟩
        refine ⟨_, rfl, p, c, _, 2, rfl, pen4, by omega, by decide, by decide, fun r5 H5 c5 d5 pen5 bt5 => ?_⟩
        have h43 := pen_strs pen4 bt5 (pen_strs pen3 bt4 h33)
        refine ⟨m1, r5, rfl, rfl, _, rfl, _, rfl, _, rfl, a3, _, rfl, .inl (SqL.of h43), p, c, _, _, rfl, pen5, by omega, by rw [lmap]; omega, by rw [lmap]; omega, fun r6 H6 c6 d6 pen6 bt6 => ?_⟩
        rw [lmap] at d6
        obtain ⟨hand, hh, _, hh3⟩ := at_strs c6 d6
        refine ⟨a3, _, r6, _, rfl, rfl, SqL.of (pen_strs pen5 bt6 h43), hh, (by show 7 ≤ sizeLine; decide), fun tp ntp => ?_⟩
        exact fin tp (.count nme mo good one (m1 - r5) hand) H6 6 ntp (bt4.tr (bt5.tr bt6)) pen6 (by decide) rfl rfl ⟨hg3, ho3, by omega, by omega, hh3⟩
      refine ⟨_, rfl, _, rfl, _, rfl, _, rfl, (by show 5 ≤ sizeLine; decide), fun tp ntp => ?_⟩
      exact fin tp (.look nme mo good one) H2 0 ntp (.refl _ _) pen3 (by decide) rfl rfl ⟨hg3, ho3⟩
abbrev entryN : List Str := ["_law_pen_here", "_law_name", "_law_moment", "_law_places", "_law_goods", "_law_hands", "_law_words_here"]
theorem scEntry : FnScope entryN ["_law_pen_here", "_law_name", "_law_moment", "_law_places", "_law_goods", "_law_hands"] (defScope sEntry) := ⟨rfl, rfl, rfl, by decide +kernel, rfl, by decide +kernel, by decide +kernel⟩
theorem ok_entry {f fT fE : Addr} {fd fdT fdE : FuncData} (F : Fun K "_law_entry" "_law_entry" sEntry f fd) (T : TakeT P w K mg base fT fdT)
    (EO : DefT P w K mg base "_law_entry_of" 3 fE fdE ["_law_pen_here", "_law_word", "_law_name", "_law_moment", "_law_places", "_law_goods", "_law_hands"] spEntryOf) :
    FnOk P w K mg base CX0 4 f fd ["_law_pen_here", "_law_name", "_law_moment", "_law_places", "_law_goods", "_law_hands"] spEntry := by
  refine F.ok scEntry (fun vs H Q E h => ?_) (fun cdv A outer s H vs Q E hr h => ?_)
  · obtain ⟨p, c, n, nme, mo, a1, a2, a3, PL, GL, HL, rfl, _⟩ := h
    rfl
  · obtain ⟨p, c, n, nme, mo, a1, a2, a3, PL, GL, HL, rfl, pen, hn, h1, h2, h3, ne1, ne2, ne3, lp, lg, lh, q⟩ := h
    have nd := scEntry.nd
    have hr1 : Room 1 _ := hr.mono (by decide)
    refine ⟨_, pss_cons (ps_set (i := 6) nd rfl (Or.inl rfl) (pe_lst (pa_cons pe_str (pa_cons pe_str (pa_cons pe_str (pa_cons pe_str (pa_cons pe_str (pa_cons pe_str (pa_cons pe_str (pa_cons pe_str (pa_cons pe_str (pa_cons pe_str pa_nil))))))))))))
      (pss_one (ps_ret (pe_call EO.ok hr (by rfl) EO.g EO.kp EO.b .nil pass0 (pa_cons (pv 0) (pa_cons (pe_ix ix_list (pv 6) (pe_call T.ok hr1 (by rfl) T.g T.kp T.b .nil pass0 (pa_cons (pv 0) (pa_cons pe_int pa_nil))) (fun _ _ => rfl)) (pa_cons (pv 1) (pa_cons (pv 2) (pa_cons (pv 3) (pa_cons (pv 4) (pa_cons (pv 5) pa_nil)))))))))), ?_⟩
    refine ⟨(by show 10 ≤ sizeLine; decide), fun l nl => ?_⟩
    have sl := @same_new _ _ (.lst (words10.map V.str)) nl
    have nlp : l ≠ p := fun z => pen.there (z ▸ nl)
    have pen' := pen.same sl
    refine ⟨_, rfl, _, rfl, _, rfl, p, c, n, 10, rfl, pen', by omega, by decide, by decide, fun r1 H1 b1 d1 pen1 bt1 => ?_⟩
    obtain ⟨wd, hw, _, hw3⟩ := at_strs (ys := words10) b1 d1
    have hl : StrsAt H1 l words10 := bt1 l _ upd_same nlp
    have w7 : wd ∈ words7 := by
      simp only [List.mem_cons, List.not_mem_nil, or_false] at hw3
      rcases hw3 with rfl | rfl | rfl | rfl | rfl | rfl | rfl | rfl | rfl | rfl <;> simp [words7]
    refine ⟨l, _, r1, _, rfl, rfl, SqL.of hl, hw, _, rfl, _, rfl, _, rfl, _, rfl, _, rfl, p, c, n + 1, wd, nme, mo, a1, a2, a3, PL, GL, HL, rfl, pen1, by omega, w7, pen_strs pen' bt1 (sl _ _ h1), pen_strs pen' bt1 (sl _ _ h2), pen_strs pen' bt1 (sl _ _ h3), ne1, ne2, ne3, lp, lg, lh, fun tp e H2 ntp ht en em ef pen2 bt2 => ?_⟩
    exact q tp e H2 (sl.free ((bt1.free ntp pen1.there))) ht en em ef (pen2.mono (by omega)) ((But.of sl).tr (bt1.tr bt2))
end
/-! ### words and moments -/
def NmL (ys : List Str) (m : Nat) : Prop := ∃ way t B sp, NmOk way t B sp ∧ ys = (List.range m).map (nmStr way t B sp)
theorem nmAt_strs {H : Hp} {l : Addr} {m : Nat} (h : NmAt H l m) : ∃ ys, StrsAt H l ys ∧ NmL ys m := by
  obtain ⟨way, t, B, sp, ok, e⟩ := h
  refine ⟨(List.range m).map (nmStr way t B sp), ?_, way, t, B, sp, ok, rfl⟩
  show H l = _
  rw [e, List.map_map]
  rfl
theorem NmL.len {ys : List Str} {m : Nat} (h : NmL ys m) : ys.length = m := by
  obtain ⟨way, t, B, sp, ok, rfl⟩ := h
  simp
theorem NmL.take {ys : List Str} {m k : Nat} (h : NmL ys m) (hk : k ≤ m) : NmL (ys.take k) k := by
  obtain ⟨way, t, B, sp, ok, rfl⟩ := h
  refine ⟨way, t, B, sp, ok, ?_⟩
  rw [← List.map_take, List.take_range, Nat.min_eq_left hk]
theorem cut_take {xs : List V} {k : Nat} : cutV xs none (some (k : Int)) = xs.take k := by
  unfold cutV
  rw [HT.sIx_none, HT.sIx_nat]
  show (xs.drop 0).take (min k xs.length - 0) = xs.take k
  rw [List.drop_zero, Nat.sub_zero]
  by_cases h : k ≤ xs.length
  · rw [Nat.min_eq_left h]
  · rw [Nat.min_eq_right (by omega), List.take_length, List.take_of_length_le (by omega)]
def spWords : Sp := fun vs H Q _ => ∃ (p c : Addr) (n : Nat) (a b e : Nat), vs = [.ref p, .int a, .int b, .int e] ∧ PenAt H p c n ∧ n ≤ 40000 ∧ a ≤ 31 ∧ b ≤ 31 ∧ e ≤ 31 ∧
  ∀ (tp l1 l2 l3 l4 : Addr) (PL GL HL EL : List Str) (H' : Hp), H tp = none → H' tp = some (.tup [.ref l1, .ref l2, .ref l3, .ref l4]) → StrsAt H' l1 PL → StrsAt H' l2 GL → StrsAt H' l3 HL → StrsAt H' l4 EL →
    NmL PL a → NmL GL b → NmL HL 3 → NmL EL e → PenAt H' p c (n + 50) → But p H H' → Q (.ref tp) H'
def spMoments : Sp := fun vs H Q _ => ∃ (p c : Addr) (n : Nat) (m : Nat), vs = [.ref p, .int m] ∧ PenAt H p c n ∧ n ≤ 60000 ∧ m ≤ 31 ∧
  ∀ (l : Addr) (ns : List Int) (H' : Hp), H l = none → H' l = some (.lst (ns.map V.int)) → ns.length = m → (∀ x ∈ ns, 0 ≤ x ∧ x ≤ 9999) → PenAt H' p c (n + 100) → But p H H' → Q (.ref l) H'
section
variable {P : Program} {w : World} {K : PySem.W.Frag} {mg : Str → Option Value} {base : Heap}
abbrev wordsN : List Str := ["_law_pen_here", "_law_places", "_law_goods", "_law_entries", "_law_some", "_law_hands"]
theorem scWords : FnScope wordsN ["_law_pen_here", "_law_places", "_law_goods", "_law_entries"] (defScope sWords) := ⟨rfl, rfl, rfl, by decide +kernel, rfl, by decide +kernel, by decide +kernel⟩
theorem ok_words {f fT fN : Addr} {fd fdT fdN : FuncData} (F : Fun K "_law_words" "_law_words" sWords f fd) (T : TakeT P w K mg base fT fdT) (N : DefT P w K mg base "_law_names" 2 fN fdN ["_law_pen_here", "_law_many_here"] spNames) :
    FnOk P w K mg base CX0 3 f fd ["_law_pen_here", "_law_places", "_law_goods", "_law_entries"] spWords := by
  refine F.ok scWords (fun vs H Q E h => ?_) (fun cdv A outer s H vs Q E hr h => ?_)
  · obtain ⟨p, c, n, a, b, e, rfl, _⟩ := h
    rfl
  · obtain ⟨p, c, n, a, b, e, rfl, pen, hn, ha, hb, he, q⟩ := h
    have nd := scWords.nd
    have hr1 : Room 1 _ := hr.mono (by decide)
    refine ⟨_, pss_cons (ps_if (pt_cmpR op_eq (pe_call T.ok hr1 (by rfl) T.g T.kp T.b .nil pass0 (pa_cons (pv 0) (pa_cons pe_int pa_nil))) pe_int (nomark _))
        (pss_cons (ps_set (i := 4) nd rfl (Or.inl rfl) (pe_call N.ok hr (by rfl) N.g N.kp N.b .nil pass0 (pa_cons (pv 0) (pa_cons pe_int pa_nil))))
        (pss_one (ps_ret (pe_tup (pa_cons (pe_slice sl_list (pv 4) po_none (po_some (pv 1))) (pa_cons (pe_slice sl_list (pv 4) po_none (po_some (pv 2))) (pa_cons (pe_slice sl_list (pv 4) po_none (po_some pe_int)) (pa_cons (pe_slice sl_list (pv 4) po_none (po_some (pv 3))) pa_nil)))))))) pss_nil)
      (pss_cons (ps_set (i := 5) nd rfl (Or.inl rfl) (pe_call N.ok hr (by rfl) N.g N.kp N.b .nil pass0 (pa_cons (pv 0) (pa_cons pe_int pa_nil))))
      (pss_one (ps_ret (pe_tup (pa_cons (pe_call N.ok hr (by rfl) N.g N.kp N.b .nil pass0 (pa_cons (pv 0) (pa_cons (pv 1) pa_nil))) (pa_cons (pe_call N.ok hr (by rfl) N.g N.kp N.b .nil pass0 (pa_cons (pv 0) (pa_cons (pv 2) pa_nil))) (pa_cons (pv 5) (pa_cons (pe_call N.ok hr (by rfl) N.g N.kp N.b .nil pass0 (pa_cons (pv 0) (pa_cons (pv 3) pa_nil))) pa_nil)))))))), ?_⟩
    refine ⟨_, rfl, p, c, n, 4, rfl, pen, by omega, by decide, by decide, fun r1 H1 b1 d1 pen1 bt1 => ⟨rfl, _, rfl, ite2 (fun _ => ?_) (fun _ => ?_)⟩⟩
    · refine ⟨_, rfl, p, c, n + 1, 31, rfl, pen1, by omega, by decide, by decide, fun l H2 nl hl pen2 bt2 => ?_⟩
      obtain ⟨ys, hy, ny⟩ := nmAt_strs hl
      have tk : ∀ k : Nat, cutV (ys.map V.str) none (some (k : Int)) = (ys.take k).map V.str := fun k => by rw [cut_take, List.map_take]
      refine ⟨_, rfl, _, rfl, (a : Int), rfl, l, _, rfl, SqL.of hy, fun l1 n1 => ?_⟩
      have s1 := @same_new _ _ (.lst (cutV (ys.map V.str) none (some (a : Int)))) n1
      refine ⟨_, rfl, _, rfl, (b : Int), rfl, l, _, rfl, SqL.of (s1 _ _ hy), fun l2 n2 => ?_⟩
      have s2 := @same_new _ _ (.lst (cutV (ys.map V.str) none (some (b : Int)))) n2
      refine ⟨_, rfl, 3, rfl, l, _, rfl, SqL.of (s2 _ _ (s1 _ _ hy)), fun l3 n3 => ?_⟩
      have s3 := @same_new _ _ (.lst (cutV (ys.map V.str) none (some (3 : Int)))) n3
      refine ⟨_, rfl, _, rfl, (e : Int), rfl, l, _, rfl, SqL.of (s3 _ _ (s2 _ _ (s1 _ _ hy))), fun l4 n4 => ?_⟩
      have s4 := @same_new _ _ (.lst (cutV (ys.map V.str) none (some (e : Int)))) n4
      refine ⟨(by show 4 ≤ sizeLine; decide), fun tp ntp => ?_⟩
      have s5 := @same_new _ _ (.tup [V.ref l1, .ref l2, .ref l3, .ref l4]) ntp
      have u4 := s4.trans s5
      have u3 := s3.trans u4
      have u2 := s2.trans u3
      have u1 := s1.trans u2
      have bt := (bt1.tr bt2).tr (.of u1)
      have f0 : H tp = none := (bt1.tr bt2).free (s1.free (s2.free (s3.free (s4.free ntp)))) pen2.there
      refine q tp l1 l2 l3 l4 (ys.take a) (ys.take b) (ys.take 3) (ys.take e) _ f0 upd_same ?_ ?_ ?_ ?_ (ny.take ha) (ny.take hb) (ny.take (by decide)) (ny.take he) ((pen2.mono (by omega)).same u1) bt
      · exact u2 _ _ (by rw [upd_same, tk])
      · exact u3 _ _ (by rw [upd_same, tk])
      · exact u4 _ _ (by rw [upd_same]; exact congrArg (fun z => some (HO.lst z)) (tk 3))
      · exact s5 _ _ (by rw [upd_same, tk])
    · refine ⟨_, rfl, p, c, n + 1, 3, rfl, pen1, by omega, by decide, by decide, fun l3 H2 nl3 hl3 pen2 bt2 => ?_⟩
      obtain ⟨ys3, hy3, ny3⟩ := nmAt_strs hl3
      refine ⟨_, rfl, _, rfl, p, c, n + 11, (a : Int), rfl, pen2, by omega, by omega, by omega, fun l1 H3 nl1 hl1 pen3 bt3 => ?_⟩
      obtain ⟨ys1, hy1, ny1⟩ := nmAt_strs hl1
      refine ⟨_, rfl, _, rfl, p, c, n + 21, (b : Int), rfl, pen3, by omega, by omega, by omega, fun l2 H4 nl2 hl2 pen4 bt4 => ?_⟩
      obtain ⟨ys2, hy2, ny2⟩ := nmAt_strs hl2
      refine ⟨_, rfl, _, rfl, _, rfl, p, c, n + 31, (e : Int), rfl, pen4, by omega, by omega, by omega, fun l4 H5 nl4 hl4 pen5 bt5 => ?_⟩
      obtain ⟨ys4, hy4, ny4⟩ := nmAt_strs hl4
      refine ⟨(by show 4 ≤ sizeLine; decide), fun tp ntp => ?_⟩
      have s5 := @same_new _ _ (.tup [V.ref l1, .ref l2, .ref l3, .ref l4]) ntp
      have bt := bt1.tr (bt2.tr (bt3.tr (bt4.tr bt5)))
      exact q tp l1 l2 l3 l4 ys1 ys2 ys3 ys4 _ (bt.free ntp pen5.there) upd_same (s5 _ _ (pen_strs pen4 bt5 (pen_strs pen3 bt4 hy1))) (s5 _ _ (pen_strs pen4 bt5 hy2)) (s5 _ _ (pen_strs pen4 bt5 (pen_strs pen3 bt4 (pen_strs pen2 bt3 hy3)))) (s5 _ _ hy4)
        (by rw [Int.toNat_natCast] at ny1; exact ny1) (by rw [Int.toNat_natCast] at ny2; exact ny2) ny3 (by rw [Int.toNat_natCast] at ny4; exact ny4) ((pen5.mono (by omega)).same s5) (bt.tr (.of s5))
abbrev momN : List Str := ["_law_pen_here", "_law_many_here", "_law_way", "_law_some", "_law_k", "_law_few", "_law_found"]
theorem scMom : FnScope momN ["_law_pen_here", "_law_many_here"] (defScope sMoments) := ⟨rfl, rfl, rfl, by decide +kernel, rfl, by decide +kernel, by decide +kernel⟩
theorem at_ints {ns : List Int} {r : Int} (h0 : 0 ≤ r) (h1 : r < (ns.length : Int)) : ∃ y, atI (ns.map V.int) r = some (.int y) ∧ y ∈ ns := by
  have h : r.toNat < ns.length := by omega
  have e : ((r.toNat : Nat) : Int) = r := by omega
  have q := atI_nat (xs := ns.map V.int) (j := r.toNat) (v := .int ns[r.toNat]) (by rw [List.getElem?_map, List.getElem?_eq_getElem h]; rfl)
  rw [e] at q
  exact ⟨_, q, List.getElem_mem h⟩
set_option maxHeartbeats 4000000 in
theorem ok_moments {f fT : Addr} {fd fdT : FuncData} (F : Fun K "_law_moments" "_law_moments" sMoments f fd) (T : TakeT P w K mg base fT fdT) (ml : mg "len" = none) (mr : mg "range" = none) (mi : mg "int" = none) :
    FnOk P w K mg base CX0 2 f fd ["_law_pen_here", "_law_many_here"] spMoments := by
  refine F.ok scMom (fun vs H Q E h => ?_) (fun cdv A outer s H vs Q E hr h => ?_)
  · obtain ⟨p, c, n, m, rfl, _⟩ := h
    rfl
  · obtain ⟨p, c, n, m, rfl, pen, hn, hm, q⟩ := h
    have nd := scMom.nd
    refine ⟨_, pss_cons (ps_set (i := 2) nd rfl (Or.inl rfl) (pe_call T.ok hr (by rfl) T.g T.kp T.b .nil pass0 (pa_cons (pv 0) (pa_cons pe_int pa_nil))))
      (pss_cons (ps_set (i := 3) nd rfl (Or.inr rfl) (pe_lst (pa_cons pe_int (pa_cons pe_int (pa_cons pe_int (pa_cons pe_int (pa_cons (pe_call T.ok hr (by rfl) T.g T.kp T.b .nil pass0 (pa_cons (pv 0) (pa_cons pe_int pa_nil))) (pa_cons (pe_call T.ok hr (by rfl) T.g T.kp T.b .nil pass0 (pa_cons (pv 0) (pa_cons pe_int pa_nil))) pa_nil))))))))
      (pss_cons (ps_setLc (i := 5) (own := [("_law_k", 4)]) (g := gName 4) (tt := tYes) (te := tOp (rIxL K) (tVar 3) (tCall spTake [] E0 (tCons (tVar 0) (tCons (tC (V.int 6)) tNil)))) rfl nd rfl rfl (sw_true rfl rfl rfl (by decide +kernel))
          (pi_range1 rfl mr (pa_cons (pe_op op_add pe_int (pe_call T.ok hr (by rfl) T.g T.kp T.b .nil pass0 (pa_cons (pv 0) (pa_cons pe_int pa_nil)))) pa_nil))
          (blkOk_by (N := momN) (sc := defScope sMoments) (by decide +kernel))
          (fun _ _ _ _ _ => pg_name (i := 4) nd rfl (Or.inl rfl)) (fun _ _ _ _ _ => pts_nil)
          (fun _ _ _ _ _ => pe_ix ix_list (pv 3) (pe_call T.ok hr (by rfl) T.g T.kp T.b .nil pass0 (pa_cons (pv 0) (pa_cons pe_int pa_nil))) (fun _ _ => rfl)))
      (pss_cons (ps_set (i := 6) nd rfl (Or.inl rfl) (pe_lst pa_nil))
      (pss_cons (ps_for PassesOwn.never rfl (pi_range1 rfl mr (pa_cons (pv 1) pa_nil)) (pg_name (i := 4) nd rfl (Or.inl rfl))
        (pss_one (ps_expr (pe_bm PySem.F.plainAttrs_list PySem.F.slot_list_append PySem.F.type_list_append mt_append (pv 6) (pa_cons (pe_ix ix_list
          (pe_lst (pa_cons (pe_ix ix_list (pv 5) (pe_call T.ok hr (by rfl) T.g T.kp T.b .nil pass0 (pa_cons (pv 0) (pa_cons (pe_callB call_len_seq (by rfl) ml PySem.boot_len (pa_cons (pv 5) pa_nil)) pa_nil))) (fun _ _ => rfl)) (pa_cons (pe_call T.ok hr (by rfl) T.g T.kp T.b .nil pass0 (pa_cons (pv 0) (pa_cons pe_int pa_nil))) pa_nil)))
          (pe_callTy call_int1 (by rfl) mi (by decide +kernel) (pa_cons (pe_cmpR op_eq (pv 2) pe_int (nomark _)) pa_nil)) (fun _ _ => rfl)) pa_nil)))))
      (pss_one (ps_ret (pv 6))))))), ?_⟩
    refine ⟨_, rfl, p, c, n, 4, rfl, pen, by omega, by decide, by decide, fun r1 H1 b1 d1 pen1 bt1 => ?_⟩
    refine ⟨_, rfl, p, c, n + 1, 10000, rfl, pen1, by omega, by decide, by decide, fun r2 H2 b2 d2 pen2 bt2 => ?_⟩
    refine ⟨_, rfl, p, c, n + 2, 10000, rfl, pen2, by omega, by decide, by decide, fun r3 H3 b3 d3 pen3 bt3 => ?_⟩
    refine ⟨(by show 6 ≤ sizeLine; decide), fun S nS => ?_⟩
    have sS := @same_new _ _ (.lst (([0, 99, 100, 9999, r2, r3] : List Int).map V.int)) nS
    have penS := pen3.same sS
    have nSp : S ≠ p := fun z => pen3.there (z ▸ nS)
    have btS : But p H (upd H3 S (.lst (([0, 99, 100, 9999, r2, r3] : List Int).map V.int))) := (bt1.tr (bt2.tr bt3)).tr (.of sS)
    have hS : (upd H3 S (.lst (([0, 99, 100, 9999, r2, r3] : List Int).map V.int))) S = some (.lst (([0, 99, 100, 9999, r2, r3] : List Int).map V.int)) := upd_same
    refine ⟨_, rfl, p, c, n + 3, 4, rfl, penS, by omega, by decide, by decide, fun r4 H4 b4 d4 pen4 bt4 => ?_⟩
    have hS4 := bt4 S _ hS nSp
    refine ⟨1, r4, rfl, rfl, 1 + r4, rfl, by omega, by omega, fun D nD => ?_⟩
    have nDp : D ≠ p := fun z => pen4.there (z ▸ nD)
    have nDc : D ≠ c := fun z => pen4.cells (z ▸ nD)
    have nSD : S ≠ D := ne_of_none hS4 nD
    have hDn : H D = none := (btS.tr bt4).free nD pen4.there
    refine lc_range (lo := 0) (n := (1 + r4).toNat) (fun j H' => PenAt H' p c (n + 4 + j) ∧ But p H H' ∧ H' S = some (.lst (([0, 99, 100, 9999, r2, r3] : List Int).map V.int)) ∧ ∃ fs : List Int, H' D = some (.lst (fs.map V.int)) ∧ fs.length = j ∧ ∀ x ∈ fs, 0 ≤ x ∧ x ≤ 9999)
      ⟨pen4.same (same_new nD), (btS.tr bt4).tr (.of (same_new nD)), (upd_ne nSD).trans hS4, [], upd_same, rfl, fun y hy => nomatch hy⟩ ?_ ?_
    · rintro j H6 hj ⟨pen6, bt6, hS6, fs, hD6, lf, bd⟩
      refine ⟨rfl, yesT ?_⟩
      refine ⟨_, rfl, _, rfl, p, c, _, 6, rfl, pen6, by omega, by decide, by decide, fun r H7 b7 d7 pen7 bt7 => ?_⟩
      obtain ⟨y, hy, my⟩ := at_ints (ns := [0, 99, 100, 9999, r2, r3]) b7 d7
      have hD7 := bt7 D _ hD6 nDp
      have hS7 := bt7 S _ hS6 nSp
      refine ⟨S, _, r, _, rfl, rfl, SqL.of hS7, hy, _, hD7, (by rw [List.length_map]; exact small1000 (by omega)), pen7.upd nDp nDc, fun b o e nb => (upd_ne (ne_of_none e hDn)).trans ((bt6.tr bt7) b o e nb), (upd_ne nSD).trans hS7, fs ++ [y], ?_, by simp [lf], ?_⟩
      · rw [upd_same, List.map_append]
        rfl
      · intro x hx
        rcases List.mem_append.mp hx with h | h
        · exact bd x h
        · rw [List.mem_singleton.mp h]
          simp only [List.mem_cons, List.not_mem_nil, or_false] at my
          rcases my with rfl | rfl | rfl | rfl | rfl | rfl <;> constructor <;> omega
    · rintro H6 ⟨pen6, bt6, hS6, fs, hD6, lf, bd⟩
      refine ⟨Nat.zero_le _, fun Fd nFd => ?_⟩
      have nFp : Fd ≠ p := fun z => pen6.there (z ▸ nFd)
      have nFc : Fd ≠ c := fun z => pen6.cells (z ▸ nFd)
      have nDF : D ≠ Fd := ne_of_none hD6 nFd
      have hFn : H Fd = none := bt6.free nFd pen6.there
      refine ⟨_, rfl, (m : Int), rfl, by omega, by omega, for_range (lo := 0) (n := (m : Int).toNat) (fun j σ H' => ∃ y4, σ = [some (.ref p), some (.int (m : Int)), some (.int r1), some (.ref S), y4, some (.ref D), some (.ref Fd)] ∧ PenAt H' p c (n + 8 + 2 * j) ∧ But p H H' ∧ H' D = some (.lst (fs.map V.int)) ∧
        ∃ ns : List Int, H' Fd = some (.lst (ns.map V.int)) ∧ ns.length = j ∧ ∀ x ∈ ns, 0 ≤ x ∧ x ≤ 9999) ⟨_, rfl, (pen6.mono (by omega)).same (same_new nFd), bt6.tr (.of (same_new nFd)), (upd_ne nDF).trans hD6, [], upd_same, rfl, fun y hy => nomatch hy⟩ ?_ ?_⟩
      · rintro j σ H9 hj ⟨y4, rfl, pen9, bt9, hD9, ns, hF9, ln, bn⟩
        have lfs : ((fs.map V.int).length : Int) = (fs.length : Int) := by rw [List.length_map]
        refine ⟨_, rfl, .inl ⟨rfl, _, SqL.of hF9⟩, _, rfl, _, rfl, _, rfl, D, _, rfl, .inl (SqL.of hD9), p, c, _, _, rfl, pen9, by omega, by rw [lfs]; omega, by rw [lfs]; omega, fun r5 H10 b5 d5 pen10 bt10 => ?_⟩
        rw [lfs] at d5
        obtain ⟨y, hy, my⟩ := at_ints b5 d5
        have hD10 := bt10 D _ hD9 nDp
        refine ⟨D, _, r5, _, rfl, rfl, SqL.of hD10, hy, _, rfl, p, c, _, 10000, rfl, pen10, by omega, by decide, by decide, fun r6 H11 b6 d6 pen11 bt11 => ?_⟩
        refine ⟨(by show 2 ≤ sizeLine; decide), fun L nL => ?_⟩
        have sL := @same_new _ _ (.lst (([y, r6] : List Int).map V.int)) nL
        refine ⟨_, rfl, rfl, .inr ⟨decide (V.int r1 = V.int 0), rfl, ?_⟩⟩
        have z01 : (0 : Int) ≤ (if decide (V.int r1 = V.int 0) = true then 1 else 0) ∧ (if decide (V.int r1 = V.int 0) = true then (1 : Int) else 0) < 2 := by
          cases decide (V.int r1 = V.int 0) <;> decide
        obtain ⟨x, hx, mx⟩ := at_ints (ns := [y, r6]) z01.1 z01.2
        have hF12 := sL _ _ (bt11 Fd _ (bt10 Fd _ hF9 nFp) nFp)
        have bt12 := (bt9.tr (bt10.tr bt11)).tr (.of sL)
        refine ⟨L, _, _, _, rfl, rfl, SqL.of upd_same, hx, Fd, _, _, rfl, rfl, hF12, (by rw [List.length_map]; exact small1000 (by omega)), _, rfl, (((pen11.mono (by omega)).same sL).upd nFp nFc), fun b o e nb => (upd_ne (ne_of_none e hFn)).trans (bt12 b o e nb), (upd_ne nDF).trans (sL _ _ (bt11 D _ hD10 nDp)), ns ++ [x], ?_, by simp [ln], ?_⟩
        · rw [upd_same, List.map_append]
          rfl
        · intro z hz
          rcases List.mem_append.mp hz with h | h
          · exact bn z h
          · rw [List.mem_singleton.mp h]
            have by_ := bd y my
            simp only [List.mem_cons, List.not_mem_nil, or_false] at mx
            rcases mx with rfl | rfl <;> constructor <;> omega
      · rintro σ H9 ⟨y4, rfl, pen9, bt9, hD9, ns, hF9, ln, bn⟩
        exact ⟨_, rfl, q Fd ns H9 hFn hF9 (by omega) bn (pen9.mono (by omega)) bt9⟩
end
/-! ### generator expressions whose element reads the module's names and the def's cells -/
section
variable {X : Cx} {pins : List (Addr × Obj)} {σ : L2.St} {H : Hp} {s : Shared}
/-- walking u makes one new object and reads fp alone; n items, the i-th one as Pf says -/
def GSrc (X : Cx) (T : Addr) (u : Value) (s1 : Shared) (n : Nat) (Pf : Nat → Value → Prop) : Prop :=
  ∀ (Q : Value → Shared → Prop) (E : Value → Shared → Prop),
    (∀ (o : Obj) (fp : List Addr) (St : Nat → Heap → Prop),
      (∀ A' : Around, A'.handled = none → Walks X.prog X.w A' s1.heap.objs.size fp [s1.heap.objs.size] n Pf St) →
      St 0 (s1.heap.push o) → (∀ b ∈ fp, b ≤ s1.heap.objs.size ∧ b ≠ T) →
      Q (.ref s1.heap.objs.size) { s1 with heap := s1.heap.push o }) →
    wpAny (model X.prog X.w) X.A (pyIter u) Q E s1
/-- the tests and the element at the item v: nothing that stood is changed -/
structure GElt (X : Cx) (T : Addr) (scope : Scope) (x : Str) (ifs : List Expr) (elt : Expr) (s1 : Shared) (Pf : Nat → Value → Prop) (pz : Nat → Bool) (F : Nat → Value → Prop) : Prop where
  run : ∀ (ce : Env) (A' : Around) (E' : Value → Shared → Prop) (i : Nat) (v : Value) (s2 : Shared) (m2 : Str → Option Value),
    ce.scope = scope → ce.globals = mainGlobals → ce.cells = cloFrom X.env.cells scope.names [] → A'.handled = none → Pf i v → s2.heap.Ns ce.locals m2 → m2 x = some v →
    (∀ b u, b ≠ T → s1.heap.get? b = some u → s2.heap.get? b = some u) →
    wpAny (model X.prog X.w) A' (forIn ifs true fun c r => if r = true then do let ok ← isTrue c ce (eval c ce); pure (ForInStep.yield ok) else pure (ForInStep.yield r)) (fun ok s3 => ok = pz i ∧ Keeps s2 s3) E' s2 ∧
    (pz i = true → wpAny (model X.prog X.w) A' (eval elt ce) (fun y s3 => F i y ∧ Keeps s2 s3) E' s2)
/-- the generator g is ready to be walked in s5 -/
def GReady (X : Cx) (pins : List (Addr × Obj)) (σ : L2.St) (H1 : Hp) (T : Addr) (n : Nat) (pz : Nat → Bool) (F : Nat → Value → Prop) (g : Addr) (s5 : Shared) : Prop :=
  ∃ (fp wr : List Addr) (G : Array GenState → Array GenState → Prop) (St : Nat → Shared → Prop),
    WalksS X.prog X.w X.A.in1 g fp wr G (passing pz n 0).length (fun j y => ∃ i, (passing pz n 0)[j]? = some i ∧ F i y) St ∧ St 0 s5 ∧
    ∀ s', Moved wr G s5 s' → ∃ H2, GxR.Tabbed T H1 H2 ∧ Inv X pins σ H2 s'
theorem gen_mk {c T : Addr} {elt iter : Expr} {x : Str} {px gpos : Pos} {ifs : List Expr} {scope : Scope} {te : TE} {k : Nat} {Q' : Value → Shared → Prop} {R : V → Hp → Prop}
    (hr : Room k X.A) (TB : GxR.TabB X.base X.mg c T) (hcode : X.env.code = .ref c) (S : GxR.GenS X.env scope x) (hi : PE X iter te)
    (hs : ∀ v, genFold iter X.env v = pure v) (I : Inv X pins σ H s) (h : te σ H fun v H1 => GxR.TabG H1 T ∧ R v H1)
    (hQ : ∀ v u H1 s1, Inv X pins σ H1 s1 → RelV v u → GxR.TabG H1 T → R v H1 → ∃ n Pf pz F, GSrc X T u s1 n Pf ∧ GElt X T scope x ifs elt s1 Pf pz F ∧
      ∀ g s5, GReady X pins σ H1 T n pz F g s5 → Q' (.ref g) s5) :
    wpAny (model X.prog X.w) X.A (eval (.GeneratorExp elt [⟨.Name x px, iter, ifs, 0⟩] scope gpos) X.env) Q' X.xe s := by
  refine wpAny_GeneratorExp_walksQ hr.hd S.co (closure_ok S.free) S.cell S.dot S.loc S.kind (Nat.lt_of_le_of_lt (by omega : X.A.depth ≤ X.A.depth + 3 * k + 5) hr.dp) ?_ hs
  refine thn (hi.run pins s σ H _ I h) fun u s1 ⟨v, H1, J, rv, ⟨ps, hT, hok⟩, hR⟩ => ?_
  obtain ⟨n, Pf, pz, F, src, el, fin⟩ := hQ v u H1 s1 J rv ⟨ps, hT, hok⟩ hR
  refine src _ _ fun o fp St W st0 hfp => ?_
  have gT : s1.heap.get? T = some (PySem.W.tabObj ps) := J.hok T _ hT
  have ltT := Heap.lt_size gT
  have sz : (s1.heap.push o).objs.size = s1.heap.objs.size + 1 := Heap.size_push ..
  have cd : PySem.W.CodeHd (s1.heap.push o) c T := TB.code.keeps fun b z e => Heap.get?_push_of_some _ (J.bk b z e)
  have pT : (s1.heap.push o).get? T = some (PySem.W.tabObj ps) := Heap.get?_push_of_some _ gT
  have lim : (s1.heap.push o).NoLimit := J.nolimit.push o
  obtain ⟨mc, nsC, _⟩ := id J.nolimit
  have ltC : cStatics < s1.heap.objs.size := nsC.lt
  have neC : cStatics ≠ T := fun e => by
    obtain ⟨oo, es, ep, go, dd, _⟩ := nsC
    rw [e, gT] at go
    cases go
    cases dd
  refine ⟨lim, ?_⟩
  -- behind the code object: the generator is made and handed on
  have on : ∀ (code : Value) (h3 : Heap) (tk : Nat) (ps' : Array Value), Heap.ExtBut T (s1.heap.push o) h3 → (s1.heap.push o).objs.size ≤ h3.objs.size →
      h3.get? T = some (PySem.W.tabObj ps') → (∃ more, ps' = ps ++ more) → TriplesOk ps'.toList →
      wpAny (model X.prog X.w) X.A (builtinsFor X.env.globals X.env.builtins) (fun bi s4 =>
        ∃ I' fp' wr n0 P' St' pz' F', Value.ref s1.heap.objs.size = .ref I' ∧ (∀ A' : Around, A'.handled = none → Walks X.prog X.w A' I' fp' wr n0 P' St') ∧ St' 0 s4.heap ∧ (∀ b ∈ fp', b < s4.heap.objs.size) ∧
          s4.heap.NoLimit ∧ cStatics ∉ wr ∧
          (∀ href : Heap, (∀ b z, s4.heap.get? b = some z → href.get? b = some z) →
            QuietGen X.prog X.w (genEnv scope (cloFrom X.env.cells scope.names []) s4.heap.objs.size code bi X.env) x ifs elt (List.range s4.heap.objs.size) wr P' pz' F' href) ∧
          (∀ a h5 tk5 gs, gs.bare = true → s4.heap.objs.size < a → h5.objs.size = a + 1 → (∀ b z, s4.heap.get? b = some z → h5.get? b = some z) →
            WalksS X.prog X.w X.A.in4 a (a :: s4.heap.objs.size :: List.range s4.heap.objs.size) (s4.heap.objs.size :: wr) (GenOnlyQ s4.gens.size) (passing pz' n0 0).length
              (fun j y => ∃ i, (passing pz' n0 0)[j]? = some i ∧ F' i y) (GenAt X.prog X.w X.A.in4 a s4.gens.size s4.heap.objs.size (List.range s4.heap.objs.size) wr pz' n0 F') →
            GenAt X.prog X.w X.A.in4 a s4.gens.size s4.heap.objs.size (List.range s4.heap.objs.size) wr pz' n0 F' 0 { s4 with gens := s4.gens.push gs, toks := tk5, heap := h5 } →
            Q' (.ref a) { s4 with gens := s4.gens.push gs, toks := tk5, heap := h5 })) X.xe { s1 with heap := h3, toks := tk } := by
    intro code h3 tk ps' ext ge3 gT3 mo ok3
    have stay : ∀ b z, b ≠ T → s1.heap.get? b = some z → h3.get? b = some z := fun b z nb e => ext b z nb (Heap.get?_push_of_some _ e)
    have glo : ∀ h4 : Heap, (∀ b z, b ≠ T → s1.heap.get? b = some z → h4.get? b = some z) → h4.Ns mainGlobals X.mg := fun h4 st => by
      obtain ⟨oo, es, ep, go, r⟩ := J.mod.glob
      exact ⟨oo, es, ep, st _ _ TB.gP (J.bk _ _ go), r⟩
    obtain ⟨bm, ob, e1, e2, _, e4, e5, e6, e7, e8⟩ := TB.bm
    refine wpAny_builtinsFor (m := X.mg) (by rw [J.ok.glob]; exact glo h3 stay) e1 e2 (stay _ _ e4 (J.bk _ _ e5)) e6 e7 e8 ?_
    refine ⟨s1.heap.objs.size, fp, [s1.heap.objs.size], n, Pf, St, pz, F, rfl, W, ?_, fun b hb => ?_, lim.extBut ext neC, fun z => ?_, fun href keepR => ⟨?_, ?_⟩, ?_⟩
    · exact (W X.A hr.hd).frame _ _ _ st0 fun b hb z e => ext b z (hfp b hb).2 e
    · have l1 := (hfp b hb).1
      have l2 := ge3
      rw [sz] at l2
      exact Nat.lt_of_lt_of_le (Nat.lt_succ_of_le l1) l2
    · rw [List.mem_singleton] at z
      exact absurd z (Nat.ne_of_lt ltC)
    · intro A' E' i v2 s2 m2 hA hP hn hm hk
      refine (el.run (genEnv scope (cloFrom X.env.cells scope.names []) h3.objs.size code builtinsNs X.env) A' E' i v2 s2 m2 rfl J.ok.glob rfl hA hP hn hm fun b z nb e => ?_).1
      have hb := Heap.lt_size e
      refine hk b (List.mem_range.mpr ?_) (fun q => ?_) z (keepR b z (stay b z nb e))
      · have := ge3
        rw [sz] at this
        exact Nat.lt_of_lt_of_le (Nat.lt_succ_of_lt hb) this
      · rw [List.mem_singleton] at q
        exact absurd q (Nat.ne_of_lt hb)
    · intro A' E' i v2 s2 m2 hA hP hz hn hm hk
      refine (el.run (genEnv scope (cloFrom X.env.cells scope.names []) h3.objs.size code builtinsNs X.env) A' E' i v2 s2 m2 rfl J.ok.glob rfl hA hP hn hm fun b z nb e => ?_).2 hz
      have hb := Heap.lt_size e
      refine hk b (List.mem_range.mpr ?_) (fun q => ?_) z (keepR b z (stay b z nb e))
      · have := ge3
        rw [sz] at this
        exact Nat.lt_of_lt_of_le (Nat.lt_succ_of_lt hb) this
      · rw [List.mem_singleton] at q
        exact absurd q (Nat.ne_of_lt hb)
    · intro g h5 tk5 gs bare ltg sz5 keep5 W5 at5
      refine fin g _ ⟨_, _, _, _, W5.in4_1, at5, fun s' mv => ?_⟩
      obtain ⟨more, em⟩ := mo
      have out : ∀ b z, s1.heap.get? b = some z → b ∉ h3.objs.size :: [s1.heap.objs.size] := fun b z e hb => by
        have l1 := Heap.lt_size e
        have l3 := ge3
        rw [sz] at l3
        rcases List.mem_cons.mp hb with q | q
        · rw [q] at l1
          exact Nat.lt_irrefl _ (Nat.lt_trans l1 l3)
        · rw [List.mem_singleton] at q
          rw [q] at l1
          exact Nat.lt_irrefl _ l1
      have K5 := GxR.inv_tab (more := more) (h' := s'.heap) (g' := s'.gens) (d' := s'.drawn) (t' := s'.toks) J hT
        (fun b z nb e => mv.heap b z (out b z e) (keep5 b z (stay b z nb e))) (by rw [← em]; exact mv.heap T _ (out T _ gT) (keep5 T _ gT3)) (AllBare.movedS (J.bare.push bare) mv)
      rw [GxR.sh_eta s1 s' mv.os] at K5
      exact ⟨upd H1 T (.tbl (ps ++ more)), ⟨⟨_, upd_same, by rw [← em]; exact ok3⟩, fun b nb => upd_ne nb⟩, K5⟩
  cases among : codeAmong gpos ps.toList with
  | some cv =>
    refine wpAny_genexprCode_hit hcode (cd.code pT hok) among ?_
    exact on cv _ s1.toks ps (Heap.ExtBut.refl _ _) (Nat.le_refl _) pT ⟨#[], (Array.append_empty).symm⟩ hok
  | none =>
    refine wpAny_genexprCodeX hcode (cd.code pT hok) (cd.tab pT) among fun c' h' tk hx hge hlt isC _ tab' _ => ?_
    obtain ⟨_, _, _, _, _, _, _, _, _, _, _, _, _, _, _, _, _, _, _, ok', _⟩ := isC
    exact on _ h' tk _ hx (Nat.le_trans hge (Nat.le_of_lt hlt)) tab'.2 ⟨_, rfl⟩ ok'
/-- a text's signs as what is walked -/
theorem gsrc_str {T : Addr} {a : Str} {t : Tok} {s1 : Shared} (hT : T < s1.heap.objs.size) : GSrc X T (.str a t) s1 a.cps.size (SignAt a) := fun Q E h =>
  wpAny_pyIter_str fun o St W st0 => h o _ St W st0 fun b hb => by
    rw [List.mem_singleton] at hb
    subst hb
    exact ⟨Nat.le_refl _, Nat.ne_of_gt hT⟩
theorem pass_all (n : Nat) : passing (fun _ => true) n 0 = List.range n := by
  simp [passing]
/-- all(test for x in e), e a text -/
def tAllT (T : Addr) (pb : Nat → Bool) (te : TE) : TE := fun σ H Q => te σ H fun v H1 => GxR.TabG H1 T ∧ ∃ a : Str, v = .str a ∧ ∀ H2, GxR.Tabbed T H1 H2 → Q (.bl (a.cps.toList.all pb)) H2
theorem pe_allT {c T : Addr} {elt iter : Expr} {x : Str} {px p pos gpos : Pos} {scope : Scope} {pb : Nat → Bool} {te : TE} {k : Nat}
    (hr : Room k X.A) (hg : Gl X "all") (hm : X.mg "all" = none) (TB : GxR.TabB X.base X.mg c T) (hcode : X.env.code = .ref c) (S : GxR.GenS X.env scope x) (hi : PE X iter te)
    (hel : ∀ pins s1 σ H1 a, Inv X pins σ H1 s1 → GElt X T scope x [] elt s1 (SignAt a) (fun _ => true) (fun i y => ∃ cc, a.cps[i]? = some cc ∧ y = .bool (pb cc)))
    (hs : ∀ v, genFold iter X.env v = pure v)
    (he : starEach [.GeneratorExp elt [⟨.Name x px, iter, [], 0⟩] scope gpos] X.env = (false, eval (.GeneratorExp elt [⟨.Name x px, iter, [], 0⟩] scope gpos) X.env) :: starEach [] X.env := by rfl) :
    PE X (.Call (.Name "all" p) [.GeneratorExp elt [⟨.Name x px, iter, [], 0⟩] scope gpos] [] pos) (tAllT T pb te) := by
  refine ⟨fun pins s σ H Q I h => wpAny_Call_Name_kw (ld_blt I hg hm (show bootBuiltins "all" = some (.builtin "all") by decide +kernel) ?_)⟩
  refine PyProof.Rows.callWith_builtin1 ?_ he (by rfl)
  rw [he]
  refine Calls.spliced_cons (gen_mk hr TB hcode S hi hs I h fun v u H1 s1 J rv tg hR => ?_)
  obtain ⟨a, rfl, hR⟩ := hR
  obtain ⟨t, rfl⟩ := id rv
  refine ⟨_, _, fun _ => true, _, gsrc_str ?_, hel pins s1 σ H1 a J, fun g s5 rdy => ?_⟩
  · obtain ⟨ps, e, _⟩ := tg
    exact J.hok.lt e
  obtain ⟨fp, wr, G, St, W, st0, back⟩ := rdy
  rw [pass_all] at W
  refine Calls.spliced_nil (call_all_walkS (W.self 0 _ _ _ st0 ⟨g, fp, wr, G, _, _, St, GxR.trF pb a.cps.toList, rfl, W, st0, ?_, fun s' mv => ?_⟩))
  · intro j y sj Qj Ej hy hq
    obtain ⟨i, ij, cc, hc, rfl⟩ := hy
    obtain ⟨hj, ej⟩ := List.getElem?_eq_some_iff.mp ij
    rw [List.getElem_range] at ej
    subst ej
    refine wpAny_truthy_bool ?_
    rw [← GxR.trF_some (pb := pb) (show a.cps.toList[j]? = some cc by rw [Array.getElem?_toList]; exact hc)]
    exact hq
  · obtain ⟨H2, tab, K2⟩ := back s' mv
    refine ⟨.bl _, H2, K2, rfl, ?_⟩
    rw [List.length_range, GxR.all_signs a pb]
    exact hR H2 tab
end
/-! ### is_name -/
def signB (c : Nat) : Bool := decide (c ∈ abc.cps.toList)
def nameB (z : Str) : Bool := decide (1 ≤ z.length) && decide (z.length ≤ 8) && z.cps.toList.all signB
theorem nameB_in {z : Str} (h1 : (1 : Int) ≤ (z.length : Int)) (h2 : (z.length : Int) ≤ 8) : nameB z = z.cps.toList.all signB := by
  unfold nameB
  rw [decide_eq_true (show 1 ≤ z.length by omega), decide_eq_true (show z.length ≤ 8 by omega)]
  rfl
theorem nameB_long {z : Str} (h : ¬ (z.length : Int) ≤ 8) : nameB z = false := by
  unfold nameB
  rw [decide_eq_false (show ¬ z.length ≤ 8 by omega), Bool.and_false]
  rfl
theorem nameB_short {z : Str} (h : ¬ (1 : Int) ≤ (z.length : Int)) : nameB z = false := by
  unfold nameB
  rw [decide_eq_false (show ¬ 1 ≤ z.length by omega)]
  rfl
/-- what is_name is told: a text, or what is of another built-in kind -/
def spName (K : PySem.W.Frag) (T : Addr) : Sp := fun vs H Q _ => ∃ v : V, vs = [v] ∧ GxR.TabG H T ∧
  ((∃ z : Str, v = .str z ∧ z.length ≤ sizeLine ∧ ∀ H2, GxR.Tabbed T H H2 → Q (.bl (nameB z)) H2) ∨
   ∃ t : String, TyX K H v (.type t) ∧ kitB t "str" = some false ∧ Q (.bl false) H)
section
variable {P : Program} {w : World} {K : PySem.W.Frag} {mg : Str → Option Value} {base : Heap}
theorem scName : FnScope ["thing"] ["thing"] (defScope sName) := ⟨rfl, rfl, rfl, by decide +kernel, rfl, by decide +kernel, by decide +kernel⟩
theorem ok_name {f c T : Addr} {oc kV doc pm ct : Value} {od an : Option Addr} {osl : Array (Option Value)}
    (lk : K.lookup f = some ⟨oc, od, .func (PySem.W.fnOf "is_name" "is_name" (defArgs sName) (defBody sName) (defScope sName) .none kV doc pm an (.ref c) ct), osl⟩) (cdI : PySem.W.codeIn K (.ref c) "is_name" = true)
    (TB : GxR.TabB base mg c T) (mi : mg "isinstance" = none) (mst : mg "str" = none) (ml : mg "len" = none) (ma : mg "all" = none) (mL : ∃ t, mg "LETTERS" = some (.str abc t)) (mN : ∃ t, mg "LONGEST_NAME" = some (.int 8 t)) :
    FnOk P w K mg base CX0 1 f (PySem.W.fnOf "is_name" "is_name" (defArgs sName) (defBody sName) (defScope sName) .none kV doc pm an (.ref c) ct) ["thing"] (spName K T) := by
  refine fn_of lk cdI scName (fun vs H Q E h => ?_) (fun A outer s H vs Q E hr h => ?_)
  · obtain ⟨v, rfl, _⟩ := h
    rfl
  · obtain ⟨v, rfl, tg, h⟩ := h
    obtain ⟨tL, mL⟩ := mL
    obtain ⟨tN, mN⟩ := mN
    refine ⟨_, pss_cons (ps_if (pt_not (pt_val (pe_callB call_isi (by rfl) mi (by decide +kernel) (pa_cons (pv 0) (pa_cons (pe_bltn (v := .ty "str") (u := .type "str") (by rfl) mst (by decide +kernel) rfl) pa_nil)))))
        (pss_one (ps_ret pe_bl)) pss_nil)
      (pss_one (ps_ret (pe_and (pe_chain op_le op_le pe_int (pe_callB call_len_str (by rfl) ml PySem.boot_len (pa_cons (pv 0) pa_nil)) (pe_glob (v := .int 8) rfl mN ⟨_, rfl⟩))
        (pe_one (pe_allT (T := T) (c := c) (pb := signB) hr (by rfl) ma TB rfl ⟨rfl, rfl, by decide +kernel, rfl, rfl, by intro y hy e; simp only [List.mem_cons, List.not_mem_nil, or_false] at hy; rcases hy with rfl | rfl | rfl <;> cases e⟩ (pv 0) ?_ (fun _ => rfl)))))), ?_⟩
    · intro pins s1 σ H1 a J
      refine ⟨fun ce A' E' i v s2 m2 e1 e2 e3 hA hP hn hm hk => ⟨?_, fun _ => ?_⟩⟩
      · simp only [List.forIn_nil]
        exact wpAny_pure ⟨rfl, GxR.keeps_refl _⟩
      · obtain ⟨cc, u, hc, rfl⟩ := hP
        refine wpAny_Compare1 ?_
        refine wpAny_Name (wpAny_loadName_local (by rw [e1]) (show ce.scope.names.lookup _ = some .local by rw [e1]; rfl) hn hm ?_) (by decide)
        refine Calls.Name_function_global (by rw [e1]) (show ce.scope.names.lookup _ = some .globalImplicit by rw [e1]; rfl) ?_
        have G : s2.heap.Ns mainGlobals mg := by
          obtain ⟨oo, es, ep, go, r⟩ := J.mod.glob
          exact ⟨oo, es, ep, hk _ _ TB.gP (J.bk _ _ go), r⟩
        refine Calls.loadGlobal_global (by rw [e2]; exact G) mL ?_
        exact PyProof.Rows.in_str ⟨⟨cc, hc, congrArg Value.bool (PySem.StrLaws.found_one abc cc)⟩, GxR.keeps_refl _⟩
    · refine ⟨v, rfl, ?_⟩
      rcases h with ⟨z, rfl, hz, q⟩ | ⟨t, ty, kt, q⟩
      · refine ⟨_, _, _, _, true, rfl, .ty "str", .base (.str z), kit_ty (by decide +kernel), _, rfl, iteF ?_⟩
        refine ⟨_, rfl, z, rfl, hz, 1, _, rfl, rfl, _, rfl, ite2 (fun e1 => ?_) (fun e1 => ?_)⟩
        · refine ⟨_, 8, rfl, rfl, _, rfl, ite2 (fun e2 => ?_) (fun e2 => ?_)⟩
          · refine ⟨_, rfl, tg, z, rfl, fun H2 tb => ?_⟩
            have e3 := q H2 tb
            rw [nameB_in (of_decide_eq_true e1) (of_decide_eq_true e2)] at e3
            exact e3
          · have e3 := q H ⟨tg, fun _ _ => rfl⟩
            rw [nameB_long fun h => e2 (decide_eq_true h)] at e3
            exact e3
        · have e3 := q H ⟨tg, fun _ _ => rfl⟩
          rw [nameB_short fun h => e1 (decide_eq_true h)] at e3
          exact ⟨_, rfl, iteF e3⟩
      · exact ⟨_, _, _, _, false, rfl, .ty "str", ty, kit_ty kt, _, rfl, iteT q⟩
end
/-! ### the drawn names are names, unlike ones -/
theorem bij_pow (t : Nat) : ∀ (j r : Nat), r + 1 ≤ 2 ^ j → (bij t r).length ≤ j
  | 0, r, h => by
    have : r = 0 := by simp at h; exact h
    subst this
    rw [bij]
    exact Nat.le_refl _
  | j + 1, 0, _ => by
    rw [bij]
    exact Nat.zero_le _
  | j + 1, r + 1, h => by
    rw [bij, List.length_append]
    have h2 : 2 ^ (j + 1) = 2 * 2 ^ j := by rw [Nat.pow_succ]; omega
    have := bij_pow t j (r / 2) (by rw [h2] at h; omega)
    show _ + 1 ≤ _
    omega
theorem bij_in (t : Nat) : ∀ (r : Nat), ∀ c ∈ bij t r, c ∈ abc.cps.toList
  | 0, c, h => by
    rw [bij] at h
    cases h
  | r + 1, c, h => by
    rw [bij] at h
    rcases List.mem_append.mp h with h | h
    · exact bij_in t (r / 2) c h
    · rw [List.mem_singleton.mp h]
      exact Lc_in (Nat.mod_lt _ (by decide))
theorem nm_in {way t : Nat} {B : List Nat} {sp : Nat} (ok : NmOk way t B sp) (k : Nat) : ∀ c ∈ nm way t B sp k, c ∈ abc.cps.toList := by
  intro c h
  unfold nm at h
  split at h
  · exact bij_in _ _ c h
  · rcases List.mem_append.mp h with h | h
    · rcases List.mem_append.mp h with h | h
      · exact ok.bl c (List.mem_of_mem_take h)
      · simp only [nmPair, List.mem_cons, List.not_mem_nil, or_false] at h
        rcases h with rfl | rfl <;> exact Lc_in (Nat.mod_lt _ (by decide))
    · exact ok.bl c (List.mem_of_mem_drop h)
theorem nm_len {way t : Nat} {B : List Nat} {sp : Nat} (ok : NmOk way t B sp) {k : Nat} (hk : k ≤ 30) : 1 ≤ (nm way t B sp k).length ∧ (nm way t B sp k).length ≤ 8 := by
  unfold nm
  split
  · have h := bij_pow t 5 (k + 1) (by show k + 1 + 1 ≤ 32; omega)
    refine ⟨?_, by omega⟩
    rw [bij, List.length_append]
    show 1 ≤ _ + 1
    omega
  · have := ok.b6
    have := ok.s
    rw [List.length_append, List.length_append, List.length_take, List.length_drop]
    show 1 ≤ _ + 2 + _ ∧ _ + 2 + _ ≤ 8
    constructor <;> omega
theorem nm_name {way t : Nat} {B : List Nat} {sp : Nat} (ok : NmOk way t B sp) {k : Nat} (hk : k ≤ 30) : nameB (nmStr way t B sp k) = true := by
  have h := nm_len ok hk
  have e : (nmStr way t B sp k).length = (nm way t B sp k).length := sc_len _
  unfold nameB
  rw [e, decide_eq_true h.1, decide_eq_true h.2]
  show (nmStr way t B sp k).cps.toList.all signB = true
  rw [List.all_eq_true]
  intro c hc
  exact decide_eq_true (nm_in ok k c (by simpa [nmStr] using hc))
theorem Lc_inj : ∀ i < 26, ∀ j < 26, Lc i = Lc j → i = j := by decide +kernel
theorem bij_inj {t : Nat} : ∀ (r q : Nat), bij t r = bij t q → r = q := by
  intro r
  induction r using Nat.strongRecOn with
  | ind r ih =>
    intro q h
    cases r with
    | zero =>
      cases q with
      | zero => rfl
      | succ q =>
        have := congrArg List.length h
        rw [bij, bij, List.length_append] at this
        simp at this
    | succ r =>
      cases q with
      | zero =>
        have := congrArg List.length h
        rw [bij, bij, List.length_append] at this
        simp at this
      | succ q =>
        rw [bij, bij] at h
        have h1 := List.append_inj_left' h rfl
        have h2 := List.append_inj_right' h rfl
        have e := ih (r / 2) (by omega) (q / 2) h1
        have e2 : Lc ((t + 9 * ((r + 1) % 2)) % 26) = Lc ((t + 9 * ((q + 1) % 2)) % 26) := List.head_eq_of_cons_eq h2
        have e3 := Lc_inj _ (Nat.mod_lt _ (by decide)) _ (Nat.mod_lt _ (by decide)) e2
        omega
theorem nm_inj {way t : Nat} {B : List Nat} {sp : Nat} {k j : Nat} (hk : k ≤ 30) (hj : j ≤ 30) (h : nm way t B sp k = nm way t B sp j) : k = j := by
  unfold nm at h
  split at h
  · have := bij_inj _ _ h
    omega
  · have h1 := List.append_inj_left' h rfl
    have h2 := List.append_inj_right h1 rfl
    unfold nmPair at h2
    have a := List.head_eq_of_cons_eq h2
    have b := List.head_eq_of_cons_eq (List.tail_eq_of_cons_eq h2)
    have a' := Lc_inj _ (Nat.mod_lt _ (by decide)) _ (Nat.mod_lt _ (by decide)) a
    have b' := Lc_inj _ (Nat.mod_lt _ (by decide)) _ (Nat.mod_lt _ (by decide)) b
    clear h h1 h2 a b
    have u1 : k / 26 ≤ 1 := by omega
    have u2 : j / 26 ≤ 1 := by omega
    have e1 : k / 26 = j / 26 := by
      generalize k / 26 = u at b' u1
      generalize j / 26 = v at b' u2
      omega
    clear b' u1 u2
    have e2 : (7 * k) % 26 = (7 * j) % 26 := by omega
    have e3 : k % 26 = j % 26 := by
      clear a'
      omega
    omega
theorem NmL.names {ys : List Str} {m : Nat} (h : NmL ys m) (hm : m ≤ 31) : ∀ y ∈ ys, nameB y = true := by
  obtain ⟨way, t, B, sp, ok, rfl⟩ := h
  intro y hy
  obtain ⟨k, hk, rfl⟩ := List.mem_map.mp hy
  exact nm_name ok (by have := List.mem_range.mp hk; omega)
theorem NmL.nodup {ys : List Str} {m : Nat} (h : NmL ys m) (hm : m ≤ 31) : ys.Nodup := by
  obtain ⟨way, t, B, sp, ok, rfl⟩ := h
  rw [List.Nodup, List.pairwise_map]
  refine List.Pairwise.imp_of_mem ?_ (List.nodup_range (n := m))
  intro a b ha hb ne e
  have ha' := List.mem_range.mp ha
  have hb' := List.mem_range.mp hb
  have e2 : nm way t B sp a = nm way t B sp b := by
    have := congrArg (fun z : Str => z.cps.toList) e
    simpa [nmStr] using this
  exact ne (nm_inj (by omega) (by omega) e2)
/-! ### generator expressions whose parts may call: the generator's own frame as a context -/
abbrev gxc (X : Cx) (A' : Around) (s : Shared) (H : Hp) (ce : Env) (fp : List Addr) : Cx :=
  { X with A := A', s_0 := s, H_0 := H, env := ce, outer := X.stack, stack := ce :: X.stack, ex := fp, fn := fun _ => false, calm := true, pn := [], xe := fun _ _ => False }
abbrev genE (X : Cx) (scope : Scope) (C : Addr) (code : Value) : Env := genEnv scope (cloFrom X.env.cells scope.names []) C code builtinsNs X.env
structure GOk (N : List Str) (sc scope : Scope) (own : List (Str × Nat)) : Prop where
  blk : BlkOk N sc scope own
  co : scope.isCoroutine = false
  cell : ∀ y ∈ scope.names, y.2 ≠ .cell
  dot : scope.names.lookup (".0" : Str) = some NameKind.local
section
variable {X : Cx} {pins : List (Addr × Obj)} {σ : L2.St} {H : Hp} {s : Shared}
theorem gx_free {N : List Str} {scope : Scope} {own : List (Str × Nat)} (I : Inv X pins σ H s) (ok : GOk N X.env.scope scope own) : ∀ y ∈ scope.names, y.2 = .free → ∃ c, X.env.cells.lookup y.1 = some c := fun y hy e => by
  rcases ok.blk.free y hy e with k | k
  · exact I.ok.has _ (.inl k)
  · exact I.ok.has _ (.inr k)
/-- the generator's frame and the generator itself have come -/
theorem gx_start {scope : Scope} {own : List (Str × Nat)} {fp : List Addr} {A' : Around} {code it : Value} {h' : Heap} {oG : Obj} {g' : Array GenState} {t' : Nat} (I : Inv X pins σ H s) (ok : GOk X.N X.env.scope scope own) (hN : X.N.Nodup)
    (hfp : ∀ b ∈ fp, FpOk X pins H b ∧ b < s.heap.objs.size) (hA : A'.handled = none) (hfr : A'.frames = some (genE X scope s.heap.objs.size code :: X.stack))
    (hn : h'.Ns s.heap.objs.size (fun y => if y = ".0" then some it else none)) (hs : Heap.SameBut s.heap.objs.size (s.heap.push { cls := .type "frame", data := .dict #[] }) h')
    (hG : ∀ v, oG.data ≠ .cell v) (hb : AllBare g') (fG : oG.isFreed = false) :
    Inv (gxc X A' s H (genE X scope s.heap.objs.size code) fp) [(h'.objs.size, oG)] (wipe σ (own.map (·.2))) H { s with gens := g', toks := t', heap := h'.push oG } := by
  have sz : h'.objs.size = s.heap.objs.size + 1 := by rw [hs.1, Heap.size_push]
  have k1 : ∀ b o, s.heap.get? b = some o → h'.get? b = some o := fun b o e => hs.extBut b o (Nat.ne_of_lt (Heap.lt_size e)) (Heap.get?_push_of_some _ e)
  have kp : ∀ b o, s.heap.get? b = some o → (h'.push oG).get? b = some o := fun b o e => Heap.get?_push_of_some _ (k1 b o e)
  have fr := gx_free I ok
  have cm : ∀ {y c}, (cloFrom X.env.cells scope.names []).lookup y = some c → X.env.cells.lookup y = some c ∧ c < s.heap.objs.size ∧ (y, NameKind.free) ∈ scope.names := fun {y c} e => by
    rcases cloFrom_mem (PySem.mem_of_lookup e) with hm | ⟨h1, rfl⟩
    · cases hm
    · obtain ⟨c, hc⟩ := fr _ h1 rfl
      rw [hc]
      obtain ⟨w, z⟩ := I.cell _ _ hc
      exact ⟨rfl, z.lt, h1⟩
  have has : ∀ {y}, (y, NameKind.free) ∈ scope.names → ∃ c, (cloFrom X.env.cells scope.names []).lookup y = some c := fun {y} hy => mem_lookup (cloFrom_has (cells := X.env.cells) (acc := []) hy)
  have uq : ∀ {y k}, (y, k) ∈ scope.names → scope.names.lookup y = some k := fun {y k} h => ok.blk.uniq _ h
  have okG : (gxc X A' s H (genE X scope s.heap.objs.size code) fp).Ok := by
    refine ⟨I.ok.mod, ok.blk.kind, I.ok.glob, rfl, Nat.le_refl _, fun y z c e1 e2 => I.ok.inj y z c (cm e1).1 (cm e2).1, fun y hy => ?_, fun y c z _ => (nomatch z), fun _ => hA, hfr, .inr ⟨rfl, rfl⟩,
      fun b hb => ⟨Nat.ne_of_lt (hfp b hb).2, fun y c e z => (hfp b hb).1.2.2.2.2.1 y c (cm e).1 z⟩, I.bs, Nat.le_trans I.ok.bsz I.sz, fun b o e hb => ?_, fun b hb z => ?_, I.stack, I.stkFree⟩
    · rcases hy with hy | hy
      · exact absurd rfl (ok.cell _ (PySem.mem_of_lookup (show scope.names.lookup y = some .cell from hy)))
      · exact has (PySem.mem_of_lookup (show scope.names.lookup y = some .free from hy))
    · rcases (hfp b hb).1.2.2.2.1 with z | z
      · exact I.ok.noex b o e z
      · exact absurd (Nat.lt_of_lt_of_le (Heap.lt_size e) (Nat.le_trans I.ok.bsz z)) (Nat.lt_irrefl _)
    · rcases List.mem_cons.mp (I.stkSub b z) with z | z
      · exact (hfp b hb).1.2.1 z
      · exact (hfp b hb).1.2.2.1 z
  refine ⟨okG, rfl, hb, Un.kept kp, ⟨_, hn.push oG, fun i y v e1 e2 e3 => ?_⟩, fun y c e => ?_, I.hok.fresh (Nat.le_refl _), fun y c e => I.freeC y c (cm e).1, fun p hp => ?_, I.hok.kept kp, by rw [wipe_length]; exact I.len⟩
  · obtain ⟨e2, hne⟩ := wipe_some e2
    have key : scope.names.lookup y = some .free := by
      have no : ∀ k, scope.names.lookup y = some k → ¬ (k = .local ∨ k = .cell) := fun k hk hh => by
        rcases ok.blk.own _ (PySem.mem_of_lookup hk) hh with e' | e'
        · obtain ⟨p, hp, hpy⟩ := List.mem_map.mp e'
          have e4 := ok.blk.ix p hp
          have : p.1 = y := hpy
          rw [this] at e4
          exact hne (List.mem_map.mpr ⟨p, hp, nodup_ix hN e4 e1⟩)
        · exact e' (List.mem_of_getElem? e1)
      rcases (show Vis scope y from e3) with e3 | e3 | e3
      · exact absurd (.inl rfl) (no _ e3)
      · exact absurd (.inr rfl) (no _ e3)
      · exact e3
    obtain ⟨m, _, hl⟩ := I.loc
    have fy := PySem.mem_of_lookup key
    have hvis : Vis X.env.scope y := (ok.blk.free _ fy rfl).elim (fun k => .inr (.inl k)) (fun k => .inr (.inr k))
    obtain ⟨u, r, q⟩ := hl i y v e1 e2 hvis
    refine ⟨u, r, .inr ⟨.inr key, ?_⟩⟩
    obtain ⟨c, h1⟩ := has fy
    rcases q with ⟨k, _⟩ | ⟨_, c', e', z⟩
    · have k : X.env.scope.names.lookup y = some .local := k
      rcases ok.blk.free _ fy rfl with k' | k' <;> rw [show X.env.scope.names.lookup y = _ from k'] at k <;> cases k
    · have h2 := (cm h1).1
      rw [h2] at e'
      cases e'
      exact ⟨c, h1, z.keeps kp⟩
  · obtain ⟨v, z⟩ := I.cell y c (cm e).1
    exact ⟨v, z.keeps kp⟩
  · have hp' : p = (h'.objs.size, oG) := by simpa using hp
    subst hp'
    have nl : s.heap.objs.size ≤ h'.objs.size := by omega
    refine ⟨Heap.get?_push_size _ fG, I.hok.fresh nl, by show h'.objs.size ≠ s.heap.objs.size; omega, fun z => ?_, hG⟩
    rcases List.mem_cons.mp (I.stkSub _ z) with z | z
    · have := I.lt
      rw [← z] at this
      exact Nat.lt_irrefl _ (Nat.lt_of_lt_of_le this nl)
    · exact I.nofs nl z
end
/-! ### the generator's turns -/
abbrev gxl (X : Cx) (Ag : Around) (elt tg iter : Expr) (ifs : List Expr) (scope : Scope) (gpos : Pos) (it : Addr) (ce : Env) (s3 : Shared) (H3 : Hp) (fp : List Addr) : Cx :=
  gxc X (Ag.over (.compLoop (.GeneratorExp elt [⟨tg, iter, ifs, 0⟩] scope gpos) 0 (.ref it) .none ce) []) s3 H3 ce fp
/-- what stands between two turns: at most m turns are left, the i-th is next -/
def GTurns (J : It) (g : TG) (tt : TT) (te : TE) (vs : List Nat) (σ : L2.St) (W : Nat → Nat → Hp → Prop) (Out : Nat → Nat → V → Hp → Prop) (Fin : Hp → Prop) : Prop :=
  ∀ i m H, W i m H → (J.stop i H ∧ Fin H) ∨ (J.go i H ∧ ∀ x H', J.yld i H x H' → g x (wipe σ vs) H' fun σ2 H2 => wipe σ2 vs = wipe σ vs ∧ tt σ2 H2 fun b H3 =>
    if b = true then te σ2 H3 fun y H4 => Out i m y H4 else ∃ m', m' < m ∧ W (i + 1) m' H3)
def gxY (IG : Hp → Shared → Prop) (tn : Nat → Heap → Prop) (fp : List Addr) (W : Nat → Nat → Hp → Prop) (Out : Nat → Nat → V → Hp → Prop) (gn : Nat) : Protocol := fun n _ v s kap =>
  ∃ i m y H, RelV y v ∧ IG H s ∧ tn (i + 1) s.heap ∧ (∀ b ∈ fp, H b = none) ∧ Out i m y H ∧ gn < s.gens.size ∧ m ≤ n ∧
    ∀ m', m' < m → W (i + 1) m' H → ∀ s'' : Shared, IG H s'' → tn (i + 1) s''.heap → gn < s''.gens.size → kap (.send .none) s''
def gxR (IG : Hp → Shared → Prop) (Fin : Hp → Prop) : Nat → Shared → Shared → Prop := fun _ _ s1 => ∃ H, IG H s1 ∧ Fin H
section
variable {X : Cx} {σ : L2.St} {Ag : Around} {tg elt iter : Expr} {ifs : List Expr} {scope : Scope} {gpos : Pos} {it a : Addr} {oG : Obj} {ce : Env} {fp : List Addr} {s3 : Shared} {H3 : Hp} {tn : Nat → Heap → Prop} {J : It} {vs : List Nat} {gn : Nat}
  {g : TG} {tt : TT} {te : TE} {W : Nat → Nat → Hp → Prop} {Out : Nat → Nat → V → Hp → Prop} {Fin : Hp → Prop}
theorem gx_stat {σ' : L2.St} {H' : Hp} {s' : Shared} {A' : Around} (I' : Inv (gxc X A' s3 H3 ce fp) [(a, oG)] σ' H' s') (na : a ∉ fp) (hn : ∀ b ∈ fp, H' b = none) : ∀ b ∈ fp, FpOk (gxc X A' s3 H3 ce fp) [(a, oG)] H' b := fun b hb => by
  refine ⟨hn b hb, (I'.ok.exf b hb).1, I'.ok.exfs b hb, .inl hb, fun x c e => (I'.ok.exf b hb).2 x c e, fun p hp z => ?_⟩
  have hp' : p = (a, oG) := by simpa using hp
  subst hp'
  have z' : a = b := z
  exact na (z' ▸ hb)
theorem gx_seg (T : Turn X.prog X.w X.K tg J fp it tn) (na : a ∉ fp) (hco : ce.scope.isCoroutine = false)
    (pg : PG (gxl X Ag elt tg iter ifs scope gpos it ce s3 H3 fp) tg g)
    (pt : PTs (gxl X Ag elt tg iter ifs scope gpos it ce s3 H3 fp) ifs tt)
    (pe : PE (gxl X Ag elt tg iter ifs scope gpos it ce s3 H3 fp) elt te)
    (turn : GTurns J g tt te vs σ W Out Fin) (IG : Hp → Shared → Prop)
    (hIG : IG = fun H s => Inv (gxl X Ag elt tg iter ifs scope gpos it ce s3 H3 fp) [(a, oG)] (wipe σ vs) H s) :
    ∀ (m n i : Nat) (H : Hp) (s s0 : Shared), m < n → IG H s → tn i s.heap → (∀ b ∈ fp, H b = none) → W i m H → gn < s.gens.size →
      Seg (model X.prog X.w) Ag (fun n s0 r s1 => r = .ok .next ∧ gxR IG Fin n s0 s1) (gxY IG tn fp W Out gn) n s0
        (.compLoop (.GeneratorExp elt [⟨tg, iter, ifs, 0⟩] scope gpos) 0 (.ref it) .none ce)
        ((model X.prog X.w).den (.compLoop (.GeneratorExp elt [⟨tg, iter, ifs, 0⟩] scope gpos) 0 (.ref it) .none ce)) [] s := by
  intro m
  induction m using Nat.strongRecOn with
  | ind m ih =>
  intro n i H s s0 hmn I0 st n0 w0 hg
  have I : Inv (gxl X Ag elt tg iter ifs scope gpos it ce s3 H3 fp) [(a, oG)] (wipe σ vs) H s := by
    rw [hIG] at I0
    exact I0
  show Seg _ Ag _ _ _ s0 _ ((compTurn (.GeneratorExp elt [⟨tg, iter, ifs, 0⟩] scope gpos) 0 (.ref it) .none ce).onRaise (leaving ce)) [] s
  rw [compTurn_gen, Sem.onRaise_eq_wrap]
  refine seg_bind_wrap (wpAny_standAt ?_)
  rcases turn i m H w0 with ⟨stop, fin⟩ | ⟨go, step⟩
  · refine seg_bind_wrap (thnF (T.done (gxl X Ag elt tg iter ifs scope gpos it ce s3 H3 fp) rfl rfl rfl rfl i [(a, oG)] s _ H (fun _ _ => False) I (gx_stat I na n0) st stop) fun r s6 ⟨hr, I6⟩ => ?_)
    subst hr
    exact seg_end (.ok .next) ⟨rfl, H, by rw [hIG]; exact I6, fin⟩
  · refine seg_bind_wrap (GenW.wpAny_gsz hg (thnF (T.item (gxl X Ag elt tg iter ifs scope gpos it ce s3 H3 fp) rfl rfl rfl rfl i [(a, oG)] s _ H (fun _ _ => False) I (gx_stat I na n0) st go) fun r s6 ⟨u, hr, h6⟩ hg6 => ?_))
    subst hr
    refine seg_bind_wrap (GenW.wpAny_gsz hg6 (thnF h6 fun _ s7 ⟨x, H7, I7, r7, y7, st7, n7⟩ hg7 => ?_))
    have I7' := I7.pinned (gx_stat I7 na n7) (T.obj _ _ st7)
    refine seg_bind_wrap (GenW.wpAny_gsz hg7 (thnF (pg.run _ s7 _ H7 x u _ I7' r7 (step x H7 y7)) fun _ s8 ⟨σ8, H8, I8, hw8, q8⟩ hg8 => ?_))
    refine seg_bind_wrap (GenW.wpAny_gsz hg8 (thnF (pt.run _ s8 σ8 H8 _ I8 q8) fun b s9 ⟨H9, I9, q9⟩ hg9 => ?_))
    have hl : (wipe σ vs).length = σ8.length := by rw [← hw8, wipe_length]
    have back : ∀ {s' : Shared} {H' : Hp}, Inv (gxl X Ag elt tg iter ifs scope gpos it ce s3 H3 fp) ([(a, oG)] ++ pinsAt fp s7.heap) σ8 H' s' →
        IG H' s' ∧ tn (i + 1) s'.heap ∧ ∀ b ∈ fp, H' b = none := fun {s' H'} I' => by
      have pin' : ∀ b ∈ fp, ∀ o, s7.heap.get? b = some o → s'.heap.get? b = some o ∧ H' b = none := fun b hb o e =>
        let z := I'.pin (b, o) (List.mem_append_right _ (List.mem_append_right _ (mem_pinsAt hb e)))
        ⟨z.1, z.2.1⟩
      refine ⟨?_, T.keep _ _ _ st7 fun b hb o e => (pin' b hb o e).1, fun b hb => ?_⟩
      · rw [hIG]
        refine I'.unpinned.weak hl fun j v e => ?_
        rw [← hw8] at e
        exact (wipe_some e).1
      · obtain ⟨o, e, _⟩ := T.obj _ _ st7 b hb
        exact (pin' b hb o e).2
    cases b with
    | false =>
      simp only [Bool.false_eq_true, if_false] at q9 ⊢
      obtain ⟨m', hm, w'⟩ := q9
      obtain ⟨b1, b2, b3⟩ := back I9
      exact seg_again rfl (ih m' hm n (i + 1) H9 s9 s0 (Nat.lt_trans hm hmn) b1 b2 b3 w' hg9)
    | true =>
      simp only [if_true] at q9 ⊢
      have hy : ∀ v, yieldOut ce v = yieldValue v := fun v => by simp only [yieldOut, hco, Bool.false_eq_true, if_false]
      simp only [hy]
      rw [Sem.bind_eq_wrap', Sem.bind_eq_wrap', Sem.wrap_wrap, Sem.wrap_wrap]
      obtain ⟨n', rfl⟩ : ∃ n', n = n' + 1 := ⟨n - 1, by omega⟩
      refine seg_wrap (GenW.wpAny_gsz hg9 (thnF (pe.run _ s9 σ8 H9 _ I9 q9) fun z s10 ⟨yv, H10, I10, r10, out⟩ hg10 => ?_))
      obtain ⟨b1, b2, b3⟩ := back I10
      refine seg_at (seg_yield rfl rfl rfl ⟨i, m, yv, H10, r10, b1, b2, b3, out, hg10, by omega, fun m' hm w' s'' I'' st'' hg'' => ?_⟩)
      exact seg_again rfl (ih m' hm n' (i + 1) H10 s'' s'' (by omega) I'' st'' b3 w' hg'')
theorem gx_seg0 (T : Turn X.prog X.w X.K tg J fp it tn) {n : Nat} {s0 s : Shared} {R : GenEnd} {Y : Protocol} (st : tn 0 s.heap)
    (loop : Seg (model X.prog X.w) Ag R Y n s0 (.compLoop (.GeneratorExp elt [⟨tg, iter, ifs, 0⟩] scope gpos) 0 (.ref it) .none ce)
        ((model X.prog X.w).den (.compLoop (.GeneratorExp elt [⟨tg, iter, ifs, 0⟩] scope gpos) 0 (.ref it) .none ce)) [] s) :
    Seg (model X.prog X.w) Ag R Y n s0 (.compStart (.GeneratorExp elt [⟨tg, iter, ifs, 0⟩] scope gpos) 0 (.ref it) .none ce)
      ((model X.prog X.w).den (.compStart (.GeneratorExp elt [⟨tg, iter, ifs, 0⟩] scope gpos) 0 (.ref it) .none ce)) [] s := by
  show Seg _ Ag _ _ _ s0 _ ((compStart (.GeneratorExp elt [⟨tg, iter, ifs, 0⟩] scope gpos) 0 (.ref it) .none ce).onRaise (leaving ce)) [] s
  unfold compStart
  rw [Sem.onRaise_eq_wrap]
  show Seg _ Ag _ _ _ s0 _ ((ask >>= _).wrap _ _ _ _) [] s
  refine seg_bind_wrap (wpAny_askSetting ?_)
  split
  · exact seg_again rfl loop
  · refine seg_bind_wrap (wpAny_rule ?_)
    show Seg _ Ag _ _ _ s0 _ ((standAt iter.pos >>= _).wrap _ _ _ _) [] s
    exact seg_bind_wrap (wpAny_standAt (seg_bind_wrap (T.self _ 0 s _ _ st (seg_again rfl loop))))
end
/-! ### the generator asked for its next -/
structure IGok (X : Cx) (pins : List (Addr × Obj)) (σ : L2.St) (a : Addr) (gn : Nat) (IG : Hp → Shared → Prop) : Prop where
  bare : ∀ {H s}, IG H s → AllBare s.gens
  gens : ∀ {H s g'}, IG H s → AllBare g' → IG H { s with gens := g' }
  kept : ∀ {H : Hp} {s : Shared} {h' : Heap} {tk : Nat}, IG H s → (∀ b o, s.heap.get? b = some o → h'.get? b = some o) → IG H { s with heap := h', toks := tk }
  isgen : ∀ {H s}, IG H s → s.heap.IsGen a gn
  nolim : ∀ {H s}, IG H s → s.heap.NoLimit
  back : ∀ {H s}, IG H s → Inv X pins σ H s
def GRun (X : Cx) (Ac : Around) (IG : Hp → Shared → Prop) (tn : Nat → Heap → Prop) (fp : List Addr) (W : Nat → Nat → Hp → Prop) (Out : Nat → Nat → V → Hp → Prop) (Fin : Hp → Prop) (gn i m n : Nat) (H : Hp) (s : Shared) : Prop :=
  IG H s ∧ tn i s.heap ∧ (∀ b ∈ fp, H b = none) ∧ W i m H ∧ ∃ gs, s.gens[gn]? = some gs ∧ m < n ∧ ∀ s'' : Shared, IG H s'' → tn i s''.heap → gn < s''.gens.size →
    gs.Goes (model X.prog X.w) Ac.in1 (fun n s0 r s1 => r = .ok .next ∧ gxR IG Fin n s0 s1) (gxY IG tn fp W Out gn) n (.send .none) s''
theorem bare_set {s : Shared} {gn : Nat} {x : GenState} (h : AllBare s.gens) (hx : x.bare = true) : AllBare (s.setGen gn x).gens := by
  intro y hy
  have hy' : y ∈ s.gens.setIfInBounds gn x := hy
  rcases Array.mem_or_eq_of_mem_setIfInBounds hy' with h1 | h1
  · exact h y h1
  · rw [h1]; exact hx
section
variable {X : Cx} {pins : List (Addr × Obj)} {σ : L2.St} {Ac : Around} {IG : Hp → Shared → Prop} {tn : Nat → Heap → Prop} {fp : List Addr} {W : Nat → Nat → Hp → Prop} {Out : Nat → Nat → V → Hp → Prop} {Fin : Hp → Prop} {a : Addr} {gn : Nat}
theorem GRun.lt {i m n : Nat} {H : Hp} {s : Shared} (G : GRun X Ac IG tn fp W Out Fin gn i m n H s) : gn < s.gens.size := by
  obtain ⟨_, _, _, _, gs, h, _⟩ := G
  exact (Array.getElem?_eq_some_iff.mp h).1
/-- what a consumer lays beside it changes nothing -/
theorem GRun.kept (ig : IGok X pins σ a gn IG) (hk : ∀ i h h', tn i h → (∀ b o, h.get? b = some o → h'.get? b = some o) → tn i h') {i m n : Nat} {H : Hp} {s : Shared} {h' : Heap} {tk : Nat} (G : GRun X Ac IG tn fp W Out Fin gn i m n H s)
    (k : ∀ b o, s.heap.get? b = some o → h'.get? b = some o) : GRun X Ac IG tn fp W Out Fin gn i m n H { s with heap := h', toks := tk } := by
  obtain ⟨g1, g2, g3, g4, gs, g5, g6, g7⟩ := G
  exact ⟨ig.kept g1 k, hk _ _ _ g2 k, g3, g4, gs, g5, g6, g7⟩
theorem gx_next {E : Value → Shared → Prop} {Q : Option Value → Shared → Prop} {i m n : Nat} {H : Hp} {s : Shared} (ig : IGok X pins σ a gn IG) (hA : Ac.handled = none) (hd : Ac.depth < recursionLimit) (G : GRun X Ac IG tn fp W Out Fin gn i m n H s)
    (hout : ∀ v y H' s' i' m', RelV y v → Out i' m' y H' → IG H' s' → (∀ m'', m'' < m' → W (i' + 1) m'' H' → GRun X Ac IG tn fp W Out Fin gn (i' + 1) m'' (n - 1) H' s') → Q (some v) s')
    (hfin : ∀ H' s', Fin H' → IG H' s' → Q none s') : wpAny (model X.prog X.w) Ac (pyNext (.ref a)) Q E s := by
  have lt := G.lt
  obtain ⟨g1, g2, g3, g4, gs, g5, g6, g7⟩ := G
  have run : IG H (s.setGen gn .running) := ig.gens g1 (bare_set (ig.bare g1) rfl)
  refine wpAny_pyNext_genexpQ (P := gxR IG Fin) hA (ig.nolim g1) hd (ig.isgen g1) g5 (g7 _ run g2 (by rw [GenW.setGen_size]; exact lt)) (fun v s1 gs' hb hv => ?_) fun s1 hp h' hk => ?_
  · obtain ⟨i', m', y, H', r, I1, st1, nf, out, hg1, hmn, kap⟩ := hv
    have I2 : IG H' (s1.setGen gn gs') := ig.gens I1 (bare_set (ig.bare I1) hb)
    refine hout v y H' _ i' m' r out I2 fun m'' hm w' => ⟨I2, st1, nf, w', gs', ?_, by omega, fun s'' J'' st'' hg'' => ?_⟩
    · show (s1.gens.setIfInBounds gn gs')[gn]? = some gs'
      rw [Array.getElem?_setIfInBounds_self_of_lt hg1]
    · have q := kap m'' hm w' s'' J'' st'' hg''
      cases n with
      | zero => exact q.elim
      | succ n => exact q
  · obtain ⟨H', I1, fin⟩ := hp
    exact hfin H' _ fin (ig.kept (tk := (s1.setGen gn .finished).toks) (ig.gens I1 (bare_set (ig.bare I1) rfl)) hk)
end
/-! ### the generator made -/
section
variable {X : Cx} {pins : List (Addr × Obj)} {σ : L2.St} {H : Hp} {s : Shared}
theorem over_gen {Ag : Around} {stack : List Env} {elt tg iter : Expr} {ifs : List Expr} {scope : Scope} {gpos : Pos} {it : Value} {ce : Env} (hf : Ag.frames = some stack) :
    (Ag.over (.compLoop (.GeneratorExp elt [⟨tg, iter, ifs, 0⟩] scope gpos) 0 it .none ce) []).frames = some (ce :: stack) := by
  show pushEnvs [ce] (pushEnvs [] Ag.frames) = _
  rw [hf]
  rfl
theorem room_gen {Ag : Around} {k : Nat} {elt tg iter : Expr} {ifs : List Expr} {scope : Scope} {gpos : Pos} {it : Value} {ce : Env} (h1 : Ag.handled = none) (h2 : Ag.depth + 1 + 3 * k + 5 < recursionLimit) (h3 : Ag.units + 3 + 16 * k + 200 < cLine) :
    Room k (Ag.over (.compLoop (.GeneratorExp elt [⟨tg, iter, ifs, 0⟩] scope gpos) 0 it .none ce) []) := by
  refine ⟨h1, ?_, ?_⟩
  · show Ag.depth + 0 + 1 + 3 * k + 5 < _
    omega
  · show Ag.units + 0 + 3 + 16 * k + 200 < _
    omega
/-- a generator expression is made; Ac: where it will be asked -/
theorem gx_mk {c T : Addr} {elt tg iter : Expr} {ifs : List Expr} {scope : Scope} {own : List (Str × Nat)} {gpos : Pos} {wi : TI} {g : TG} {tt : TT} {te : TE} {k : Nat} {Q' : Value → Shared → Prop} {Outf : (Nat → Nat → Hp → Prop) → Nat → Nat → V → Hp → Prop} {Fin : Hp → Prop}
    (Ac : Around) (hA : Ac.handled = none) (hfr : Ac.frames = some X.stack) (hd : Ac.depth ≤ X.A.depth) (hu : Ac.units ≤ X.A.units + 8) (hr : Room (k + 1) X.A) (hc : X.calm = true) (hN : X.N.Nodup) (TB : GxR.TabB X.base X.mg c T) (hcode : X.env.code = .ref c) (ok : GOk X.N X.env.scope scope own) (hi : PI X tg iter wi)
    (hg : ∀ (A' : Around) (s3 : Shared) (H3 : Hp) (C : Addr) (code : Value) (fp : List Addr), PG (gxc X A' s3 H3 (genE X scope C code) fp) tg g)
    (ht : ∀ (A' : Around) (s3 : Shared) (H3 : Hp) (C : Addr) (code : Value) (fp : List Addr), Room k A' → PTs (gxc X A' s3 H3 (genE X scope C code) fp) ifs tt)
    (he : ∀ (A' : Around) (s3 : Shared) (H3 : Hp) (C : Addr) (code : Value) (fp : List Addr), Room k A' → PE (gxc X A' s3 H3 (genE X scope C code) fp) elt te)
    (hs : ∀ v, genFold iter X.env v = pure v) (I : Inv X pins σ H s)
    (h : wi σ H fun J H1 => GxR.TabG H1 T ∧ ∀ H2, GxR.Tabbed T H1 H2 → ∃ W, (∃ m, W 0 m H2) ∧ GTurns J g tt te (own.map (·.2)) σ W (Outf W) Fin)
    (hQ : ∀ (IG : Hp → Shared → Prop) (tn : Nat → Heap → Prop) (fp : List Addr) W (a : Addr) (gn m : Nat) (H2 : Hp) (s5 : Shared), IGok X pins σ a gn IG → (∀ i h h', tn i h → (∀ b o, h.get? b = some o → h'.get? b = some o) → tn i h') →
      GRun X Ac IG tn fp W (Outf W) Fin gn 0 m (m + 1) H2 s5 → Q' (.ref a) s5) :
    wpAny (model X.prog X.w) X.A (eval (.GeneratorExp elt [⟨tg, iter, ifs, 0⟩] scope gpos) X.env) Q' X.xe s := by
  have free := gx_free I ok
  refine wpAny_GeneratorExp_make ok.co (closure_ok free) ok.cell ok.dot ok.blk.kind (Nat.lt_of_le_of_lt (by omega : X.A.depth ≤ X.A.depth + 3 * (k + 1) + 5) hr.dp) ?_ hs
  refine thn (hi.run pins s σ H _ I h) fun xv s1 h1 => thn h1 fun itv s2 h2 => ?_
  obtain ⟨it, fp, tn, J, H1, rfl, J1, TU, st2, f2, ⟨ps, hT, hok⟩, q⟩ := h2
  have gT : s2.heap.get? T = some (PySem.W.tabObj ps) := J1.hok T _ hT
  have cd : PySem.W.CodeHd s2.heap c T := TB.code.keeps J1.bk
  refine ⟨J1.nolimit, ?_⟩
  have lts : ∀ b ∈ fp, b < s2.heap.objs.size := fun b hb => by
    obtain ⟨o, e, _⟩ := TU.obj _ _ st2 b hb
    exact Heap.lt_size e
  have nfT : ∀ b ∈ fp, b ≠ T := fun b hb z => by
    have := (f2 b hb).1
    rw [z, hT] at this
    cases this
  -- behind the code object
  have on : ∀ (code : Value) (h3 : Heap) (tk : Nat) (more : Array Value), Heap.ExtBut T s2.heap h3 → s2.heap.objs.size ≤ h3.objs.size → h3.get? T = some (PySem.W.tabObj (ps ++ more)) → TriplesOk (ps ++ more).toList →
      wpAny (model X.prog X.w) X.A (builtinsFor X.env.globals X.env.builtins) (fun bi s4 =>
        ∀ h', h'.Ns s4.heap.objs.size (fun y => if y = ".0" then some (.ref it) else none) → Heap.SameBut s4.heap.objs.size (s4.heap.push { cls := .type "frame", data := .dict #[] }) h' →
          Q' (.ref h'.objs.size) { s4 with
            gens := s4.gens.push (.fresh (.compStart (.GeneratorExp elt [⟨tg, iter, ifs, 0⟩] scope gpos) 0 (.ref it) .none (genEnv scope (cloFrom X.env.cells scope.names []) s4.heap.objs.size code bi X.env))),
            toks := s4.toks + 1 + 1 + 1,
            heap := h'.push { cls := .type "generator", data := .fields #[.int s4.gens.size 0, .str "<genexpr>" (s4.toks + 1), .str (X.env.qual ++ "<genexpr>") (s4.toks + 1 + 1)] } }) X.xe { s2 with heap := h3, toks := tk } := by
    intro code h3 tk more ext ge3 gT3 ok3
    have J3 : Inv X pins σ (upd H1 T (.tbl (ps ++ more))) { s2 with heap := h3, toks := tk } := GxR.inv_tab (g' := s2.gens) (d' := s2.drawn) J1 hT ext gT3 J1.bare
    have tb : GxR.Tabbed T H1 (upd H1 T (.tbl (ps ++ more))) := ⟨⟨_, upd_same, ok3⟩, fun b nb => upd_ne nb⟩
    obtain ⟨W, ⟨m0, w0⟩, turn⟩ := q _ tb
    obtain ⟨bm, ob, e1, e2, _, e4, e5, e6, e7, e8⟩ := TB.bm
    refine wpAny_builtinsFor (m := X.mg) (by rw [J3.ok.glob]; exact J3.mod.glob.keeps J3.bk) e1 e2 (ext _ _ e4 (J1.bk _ _ e5)) e6 e7 e8 ?_
    intro h' hn hsb
    have f3 : ∀ b ∈ fp, FpOk X pins (upd H1 T (.tbl (ps ++ more))) b ∧ b < h3.objs.size := fun b hb => by
      refine ⟨⟨?_, (f2 b hb).2⟩, Nat.lt_of_lt_of_le (lts b hb) ge3⟩
      rw [upd_ne (nfT b hb)]
      exact (f2 b hb).1
    have st3 : tn 0 h3 := TU.keep _ _ _ st2 fun b hb o e => ext b o (nfT b hb) e
    have nf3 : ∀ b ∈ fp, (upd H1 T (.tbl (ps ++ more))) b = none := fun b hb => (f3 b hb).1.1
    generalize hH3 : upd H1 T (.tbl (ps ++ more)) = H3 at J3 w0 f3 nf3
    generalize hs3 : ({ s2 with heap := h3, toks := tk } : Shared) = s3 at J3 hn hsb ⊢
    have eh : s3.heap = h3 := by rw [← hs3]
    have szh : h'.objs.size = s3.heap.objs.size + 1 := by rw [hsb.1, Heap.size_push]
    have kp : ∀ b o, s3.heap.get? b = some o → h'.get? b = some o := fun b o e => hsb.extBut b o (Nat.ne_of_lt (Heap.lt_size e)) (Heap.get?_push_of_some _ e)
    generalize hoG : ({ cls := .type "generator", data := .fields #[.int s3.gens.size 0, .str "<genexpr>" (s3.toks + 1), .str (X.env.qual ++ "<genexpr>") (s3.toks + 1 + 1)] } : Obj) = oG
    have na : h'.objs.size ∉ fp := fun z => by
      have := (f3 _ z).2
      rw [← eh] at this
      exact Nat.lt_irrefl _ (Nat.lt_of_lt_of_le this (by rw [szh]; exact Nat.le_succ _))
    have start := gx_start (A' := Ac.in1.over (.compLoop (.GeneratorExp elt [⟨tg, iter, ifs, 0⟩] scope gpos) 0 (.ref it) .none (genE X scope s3.heap.objs.size code)) []) (code := code) (it := .ref it) (oG := oG)
      (g' := s3.gens.push (.fresh (.compStart (.GeneratorExp elt [⟨tg, iter, ifs, 0⟩] scope gpos) 0 (.ref it) .none (genE X scope s3.heap.objs.size code)))) (t' := s3.toks + 1 + 1 + 1) J3 ok hN (fun b hb => ⟨(f3 b hb).1, by rw [eh]; exact (f3 b hb).2⟩) hA (over_gen hfr) hn hsb
      (fun v => by rw [← hoG]; exact fun z => nomatch z) (J3.bare.push rfl) (by rw [← hoG]; rfl)
    have rm : Room k (Ac.in1.over (.compLoop (.GeneratorExp elt [⟨tg, iter, ifs, 0⟩] scope gpos) 0 (.ref it) .none (genE X scope s3.heap.objs.size code)) []) :=
      room_gen hA (by have := hr.dp; show Ac.depth + 1 + 3 * k + 5 < _; omega) (by have := hr.un; show Ac.units + 1 + 3 + 16 * k + 200 < _; omega)
    refine hQ (fun H' s' => Inv (gxl X Ac.in1 elt tg iter ifs scope gpos it (genE X scope s3.heap.objs.size code) s3 H3 fp) [(h'.objs.size, oG)] (wipe σ (own.map (·.2))) H' s') tn fp W h'.objs.size s3.gens.size m0 H3 _ ?_ (fun i h h' st kk => TU.keep _ _ _ st fun b _ o e => kk b o e) ?_
    · refine ⟨fun I' => I'.bare, fun I' hb => ⟨I'.ok, I'.os, hb, I'.base, I'.loc, I'.cell, I'.free, I'.freeC, I'.pin, I'.hok, I'.len⟩, fun I' kk => I'.kept kk, fun I' => ?_, fun I' => I'.nolimit, fun I' => ?_⟩
      · have z := (I'.pin (h'.objs.size, oG) (by simp)).1
        rw [← hoG] at z
        exact ⟨_, _, _, z, rfl, rfl, rfl⟩
      · exact J3.call' (ch := fp) I'.os I'.base I'.hok I'.bare fun b hb => ⟨(f3 b hb).1.2.2.2.1, (f3 b hb).1.2.1, (f3 b hb).1.2.2.2.2.1, (f3 b hb).1.2.2.2.2.2⟩
    · refine ⟨start, TU.keep _ _ _ st3 fun b hb o e => Heap.get?_push_of_some _ (kp b o (by rw [eh]; exact e)), nf3, w0, _, Array.getElem?_push_size .., Nat.lt_succ_self _, fun s'' I'' st'' hg'' => ⟨rfl, ?_⟩⟩
      exact gx_seg0 TU st'' (gx_seg TU na ok.co (hg _ s3 H3 _ code fp) (ht _ s3 H3 _ code fp rm) (he _ s3 H3 _ code fp rm) turn _ rfl m0 (m0 + 1) 0 H3 s'' s'' (Nat.lt_succ_self _) I'' st'' nf3 w0 hg'')
  cases among : codeAmong gpos ps.toList with
  | some cv =>
    refine wpAny_genexprCode_hit hcode (cd.code gT hok) among ?_
    exact on cv s2.heap s2.toks #[] (Heap.ExtBut.refl _ _) (Nat.le_refl _) (by rw [Array.append_empty]; exact gT) (by rw [Array.append_empty]; exact hok)
  | none =>
    refine wpAny_genexprCodeX hcode (cd.code gT hok) (cd.tab gT) among fun c' h' tk hx hge hlt isC _ tab' _ => ?_
    obtain ⟨_, _, _, _, _, _, _, _, _, _, _, _, _, _, _, _, _, _, _, ok', _⟩ := isC
    exact on _ h' tk _ hx (Nat.le_trans hge (Nat.le_of_lt hlt)) tab'.2 ok'
end
/-! ### all(..) of a generator expression -/
def tAllG (T : Addr) (wi : TI) (g : TG) (tt : TT) (te : TE) (vs : List Nat) : TE := fun σ H Q => wi σ H fun J H1 => GxR.TabG H1 T ∧ ∀ H2, GxR.Tabbed T H1 H2 → ∃ W : Nat → Nat → Hp → Prop, (∃ m, W 0 m H2) ∧
  GTurns J g tt te vs σ W (fun i m y H' => ∃ k, y = .bl k ∧ (if k = true then ∃ m', m' < m ∧ W (i + 1) m' H' else Q (.bl false) H')) (fun H' => Q (.bl true) H')
section
variable {X : Cx} {pins : List (Addr × Obj)} {σ : L2.St}
theorem all_loop {IG : Hp → Shared → Prop} {tn : Nat → Heap → Prop} {fp : List Addr} {W : Nat → Nat → Hp → Prop} {a : Addr} {gn : Nat} {Q : VK} {R : Result → Shared → Prop} (ig : IGok X pins σ a gn IG) (hA : X.A.handled = none) (hd : X.A.depth < recursionLimit)
    (hR : ∀ b H s, Q (.bl b) H → IG H s → R (.ok (.ret (.bool b))) s) : ∀ (n i m : Nat) (H : Hp) (s : Shared),
    GRun X X.A.in1 IG tn fp W (fun i m y H' => ∃ k, y = .bl k ∧ (if k = true then ∃ m', m' < m ∧ W (i + 1) m' H' else Q (.bl false) H')) (fun H' => Q (.bl true) H') gn i m n H s →
    codeAny (model X.prog X.w) X.A (.builtin "all.loop" ⟨[.ref a], []⟩) R s := by
  intro n
  induction n with
  | zero =>
    intro i m H s G
    obtain ⟨_, _, _, _, gs, _, h, _⟩ := G
    exact absurd h (Nat.not_lt_zero _)
  | succ n ih =>
    intro i m H s G
    refine codeAny_builtin F.entry_all_loop ?_
    rw [Around.under_plainId F.plain_all_loop _]
    show wpAny _ X.A.in1 (pyNext (.ref a) >>= _) _ _ s
    refine wpAny_bind (gx_next ig hA hd G (fun v y H' s' i' m' r out I' cont => ?_) fun H' s' fin I' => ?_)
    · obtain ⟨k, rfl, hk⟩ := out
      obtain rfl : v = .bool k := r
      refine wpAny_bind (wpAny_holding (wpAny_truthy_bool ?_))
      refine wpAny_bind (wpAny_letGo ?_)
      cases k with
      | true =>
        obtain ⟨m'', hm, w'⟩ := hk
        exact wpAny_pure ⟨plainId_quiet F.plain_all_loop _, ih (i' + 1) m'' H' s' (cont m'' hm w')⟩
      | false =>
        refine wpAny_bind (wpAny_rule (wpAny_pure ?_))
        exact hR false H' s' hk I'
    · refine wpAny_bind (wpAny_rule (wpAny_pure ?_))
      exact hR true H' s' fin I'
theorem pe_allG {c T : Addr} {elt tg iter : Expr} {ifs : List Expr} {scope : Scope} {own : List (Str × Nat)} {gpos p pos : Pos} {wi : TI} {g : TG} {tt : TT} {te : TE} {k : Nat}
    (hr : Room (k + 1) X.A) (hgl : Gl X "all") (hm : X.mg "all" = none) (hc : X.calm = true) (hN : X.N.Nodup) (TB : GxR.TabB X.base X.mg c T) (hcode : X.env.code = .ref c) (ok : GOk X.N X.env.scope scope own) (hi : PI X tg iter wi)
    (hg : ∀ (A' : Around) (s3 : Shared) (H3 : Hp) (C : Addr) (code : Value) (fp : List Addr), PG (gxc X A' s3 H3 (genE X scope C code) fp) tg g)
    (ht : ∀ (A' : Around) (s3 : Shared) (H3 : Hp) (C : Addr) (code : Value) (fp : List Addr), Room k A' → PTs (gxc X A' s3 H3 (genE X scope C code) fp) ifs tt)
    (he : ∀ (A' : Around) (s3 : Shared) (H3 : Hp) (C : Addr) (code : Value) (fp : List Addr), Room k A' → PE (gxc X A' s3 H3 (genE X scope C code) fp) elt te)
    (hs : ∀ v, genFold iter X.env v = pure v := by intro _; rfl)
    (hst : starEach [.GeneratorExp elt [⟨tg, iter, ifs, 0⟩] scope gpos] X.env = (false, eval (.GeneratorExp elt [⟨tg, iter, ifs, 0⟩] scope gpos) X.env) :: starEach [] X.env := by rfl) :
    PE X (.Call (.Name "all" p) [.GeneratorExp elt [⟨tg, iter, ifs, 0⟩] scope gpos] [] pos) (tAllG T wi g tt te (own.map (·.2))) := by
  refine ⟨fun pins s σ H Q I h => wpAny_Call_Name_kw (ld_blt I hgl hm (show bootBuiltins "all" = some (.builtin "all") by decide +kernel) ?_)⟩
  refine PyProof.Rows.callWith_builtin1 ?_ hst (by rfl)
  rw [hst]
  have hA := I.ok.hd hc
  have hf := I.ok.frames
  refine Calls.spliced_cons (gx_mk (Outf := fun W i m y H' => ∃ k, y = .bl k ∧ (if k = true then ∃ m', m' < m ∧ W (i + 1) m' H' else Q (.bl false) H')) (Fin := fun H' => Q (.bl true) H')
    X.A.in1 hA hf (Nat.le_refl _) (by show X.A.units + 1 ≤ _; omega) hr hc hN TB hcode ok hi hg ht he hs I h ?_)
  · intro IG tn fp W a gn m H2 s5 ig hk G
    refine Calls.spliced_nil ?_
    refine call_function_tree F.kind_all F.plain_all F.entry_all (F.args_all1 _) ?_
    unfold Builtin.«all»
    refine wpAny_bind (m := oneArg "all" _) (wpAny_pure ?_)
    refine wpAny_bind (wpAny_pyIter_gen (ig.isgen G.1) ?_)
    exact wpAny_pure ⟨plainId_quiet F.plain_all_loop _, all_loop ig hA (Nat.lt_of_le_of_lt (by omega : X.A.depth ≤ X.A.depth + 3 * (k + 1) + 5) hr.dp) (fun b H s q I' => ⟨.bl b, H, ig.back I', rfl, q⟩) _ _ _ _ _ G⟩
end
/-! ### len(set(t)) of a tuple of texts -/
/-- the texts, each once -/
def once : List Str → List Str := fun xs => xs.foldl (fun acc x => if acc.contains x = true then acc else acc ++ [x]) []
theorem once_snoc (xs : List Str) (x : Str) : once (xs ++ [x]) = if (once xs).contains x = true then once xs else once xs ++ [x] := by
  unfold once
  rw [List.foldl_append]
  rfl
theorem once_le (l : List Str) : (once l).length ≤ l.length := by
  have more : ∀ (l acc : List Str), (l.foldl (fun acc x => if acc.contains x = true then acc else acc ++ [x]) acc).length ≤ acc.length + l.length := by
    intro l
    induction l with
    | nil => intro acc; exact Nat.le_refl _
    | cons x r ih =>
      intro acc
      refine Nat.le_trans (ih _) ?_
      show (if acc.contains x = true then acc else acc ++ [x]).length + r.length ≤ acc.length + (r.length + 1)
      by_cases h : acc.contains x = true
      · rw [if_pos h]; omega
      · rw [if_neg h, List.length_append]; show acc.length + 1 + r.length ≤ _; omega
  have h := more l []
  have z : (once l).length ≤ ([] : List Str).length + l.length := h
  simpa using z
section
variable {prog : Program} {w : World} {A : Around}
theorem set_texts_loop {R : Result → Shared → Prop} {it : Addr} {fp wr : List Addr} {G : Array GenState → Array GenState → Prop} {n : Nat} {P : Nat → Value → Prop} {St : Nat → Shared → Prop} (W : WalksS prog w A.in1 it fp wr G n P St) (S : Addr) (nS : S ∉ fp) (xs : List Str)
    (len : xs.length = n) (big : n + 1 < scanBound) (val : ∀ i v, P i v → ∃ t, v = .str (xs.getD i Str.empty) t) :
    ∀ (k i : Nat) (s : Shared), n - i = k → i ≤ n → St i s → s.heap.SetOf (PySem.strKind prog w) S (fun x => (once (xs.take i)).contains x) (once (xs.take i)).length →
      (∀ s', Moved (S :: wr) G s s' → s'.heap.SetOf (PySem.strKind prog w) S (fun x => (once xs).contains x) (once xs).length → R (.ok (.ret .none)) s') →
      codeAny (model prog w) A (.builtin "set.update.loop" ⟨[.ref S, .ref it], []⟩) R s := by
  have nW : S ∉ wr := fun h => nS (W.sub _ h)
  have up : ∀ b ∈ wr, b ∈ S :: wr := fun b hb => List.mem_cons_of_mem _ hb
  have stay : ∀ {s s' : Shared} {f : Str → Bool} {c : Nat}, Moved wr G s s' → s.heap.SetOf (PySem.strKind prog w) S f c → s'.heap.SetOf (PySem.strKind prog w) S f c := fun mv ⟨o, es, ep, t, ho, r⟩ => ⟨o, es, ep, t, mv.heap S _ nW ho, r⟩
  have most := once_le
  intro k
  induction k with
  | zero =>
    intro i s hk hi st hS hR
    obtain rfl : i = n := by omega
    refine codeAny_builtin PyProof.Rows.F.entry_set_update_loop ?_
    rw [Around.under_plainId PyProof.Rows.F.plain_set_update_loop _]
    show wpAny _ A.in1 (pyNext (.ref it) >>= _) _ _ s
    refine wpAny_bind (W.done s _ _ st fun s' mv => ?_)
    rw [List.take_of_length_le (Nat.le_of_eq len)] at hS
    exact wpAny_pure (hR s' (mv.mono up) (stay mv hS))
  | succ k ih =>
    intro i s hk hi st hS hR
    have lt : i < n := by omega
    refine codeAny_builtin PyProof.Rows.F.entry_set_update_loop ?_
    rw [Around.under_plainId PyProof.Rows.F.plain_set_update_loop _]
    show wpAny _ A.in1 (pyNext (.ref it) >>= _) _ _ s
    refine wpAny_bind (W.item i s _ _ lt st fun v s' hP st' mv => ?_)
    obtain ⟨t, rfl⟩ := val i v hP
    show wpAny _ A.in1 (holding [Value.str (xs.getD i Str.empty) t] (setAdd S (.str (xs.getD i Str.empty) t)) >>= _) _ _ s'
    refine wpAny_bind (wpAny_holding ?_)
    unfold setAdd
    refine wpAny_holding (wpAny_bind ((PySem.strKind prog w).pyHash (k := xs.getD i Str.empty) (strKind_is _ _ _ _) ?_))
    have small : (once (xs.take i)).length + 1 < scanBound := by
      have h := most (xs.take i)
      rw [List.length_take] at h
      omega
    refine wpAny_setAddHashed_of (knd := PySem.strKind prog w) (s := { s' with toks := s'.toks + 1 }) (strKind_is _ _ _ _) rfl (show s'.heap.SetOf _ S _ _ from stay mv hS) small fun h' sb hS2 => ?_
    have hx : xs.take (i + 1) = xs.take i ++ [xs.getD i Str.empty] := by
      have hl : i < xs.length := by omega
      rw [List.take_add_one, List.getElem?_eq_getElem hl, List.getD_eq_getElem?_getD, List.getElem?_eq_getElem hl]
      rfl
    have hS3 : h'.SetOf (PySem.strKind prog w) S (fun x => (once (xs.take (i + 1))).contains x) (once (xs.take (i + 1))).length := by
      rw [hx, once_snoc]
      revert hS2
      generalize xs.getD i Str.empty = z
      generalize once (xs.take i) = L
      intro hS2
      by_cases e : L.contains z = true
      · rw [if_pos e] at hS2 ⊢
        refine SetOf_congr hS2 (fun y => ?_) rfl
        by_cases q : y = z
        · rw [q, e]; rfl
        · rw [decide_eq_false q, Bool.or_false]
      · rw [if_neg e] at hS2 ⊢
        refine SetOf_congr hS2 (fun y => ?_) (by rw [List.length_append]; rfl)
        rw [List.contains_append]
        by_cases q : y = z
        · rw [q, decide_eq_true rfl]; simp
        · rw [decide_eq_false q]; simp [q]
    refine wpAny_pure ⟨plainId_quiet PyProof.Rows.F.plain_set_update_loop _, ih (i + 1) _ (by omega) lt (W.frame _ s' _ _ st' (Nat.le_succ _) fun b hb o e => ?_) hS3 fun s'' mv'' hS'' => ?_⟩
    · rw [sb.2 b (fun z : b = S => nS (by rw [← z]; exact hb))]
      exact e
    · refine hR s'' (Moved.trans W.gtrans ((mv.mono up).then_heap (Nat.le_succ _) fun b o hb e => ?_) mv'') hS''
      rw [sb.2 b (fun z : b = S => hb (by rw [z]; exact List.mem_cons_self))]
      exact e
abbrev set0 (led : Bool) : Obj := { cls := .type "set", dict := none, data := .set #[] 0 (.fresh 0 0 led) }
set_option maxHeartbeats 3200000 in
theorem set_of_texts {E : Value → Shared → Prop} {s : Shared} {l : Addr} {items : Array Value} {xs : List Str} {Q : Value → Shared → Prop} (hh : A.handled = none) (hl : s.heap.IsTuple l items) (hi : PyProof.Rows.StrsAre items.toList xs) (big : xs.length + 1 < scanBound)
    (h : ∀ (h' : Heap) (tk : Nat), h'.SetOf (PySem.strKind prog w) s.heap.objs.size (fun x => (once xs).contains x) (once xs).length →
      (∀ b o, b < s.heap.objs.size → s.heap.get? b = some o → h'.get? b = some o) → Q (.ref s.heap.objs.size) { s with heap := h', toks := tk }) :
    wpAny (model prog w) A (call (.type "set") [.ref l]) Q E s := by
  obtain ⟨c, tl, hmro⟩ := PySem.F.called_set.mro
  have hmade := PySem.F.called_set.made
  have hsub := PySem.F.called_set.sub
  refine wpAny_call (codeAny_of_tree ?_)
  show wpAny _ _ (callAny (.type "set") _) _ _ _
  refine wpAny_pure ⟨Code.quiet_builtin _ (by decide +kernel), codeAny_builtin PySem.F.entry_type_call ?_⟩
  rw [Around.under_plain (weight_type_call_type "set" [.ref l] []) rfl]
  have h1 := PySem.F.called_set.notType
  have h2 := PySem.F.called_set.canCreate
  have hct := PySem.F.typeCall_set_1 (.ref l)
  repeat (any_goals (first | assumption | wp_step))
  refine codeAny_mono (code_set_new_1 (.ref l) (E := E) (Q₁ := fun obj s₁ => ∃ led : Bool, obj = .ref s.heap.objs.size ∧ s₁ = { s with heap := s.heap.push { cls := .type "set", dict := none, data := .set #[] 0 (.fresh 0 0 led) } }) fun led => ⟨led, rfl, rfl⟩) fun r s₁ hr => ?_
  cases r with
  | error e => exact hr
  | ok fl =>
    cases fl with
    | ret obj =>
      obtain ⟨led, rfl, rfl⟩ := hr
      have fresh : (set0 led).isFreed = false := rfl
      have hS : (s.heap.push (set0 led)).get? s.heap.objs.size = some (set0 led) := Heap.get?_push_size _ fresh
      have hT : Shared.TypeIs { s with heap := s.heap.push (set0 led) } (.ref s.heap.objs.size) "set" := ⟨_, hS, rfl⟩
      have hli := PySem.F.called_set.init.lookup
      have hbi := PySem.F.called_set.init.bind (.ref s.heap.objs.size)
      repeat (any_goals (first | assumption | wp_step))
      refine codeAny_mono (codeAny_call_builtin (R := wants (fun r s₂ => r = .none ∧ ∃ h' tk, s₂ = { s with heap := h', toks := tk } ∧
          h'.SetOf (PySem.strKind prog w) s.heap.objs.size (fun x => (once xs).contains x) (once xs).length ∧
          (∀ b o, b < s.heap.objs.size → s.heap.get? b = some o → h'.get? b = some o)) E) PySem.F.called_set.init.plain PySem.F.entry_set_init (check_set_init_1 hT ?_)) fun r₂ s₂ hr₂ => ?_
      · obtain ⟨⟨ocls, odict, odata, oslots⟩, hol, hcl, nl, hdl⟩ := hl
        simp only at hcl hdl
        subst hcl; subst hdl
        have hol' : (s.heap.push (set0 led)).get? l = some { cls := .type "tuple", dict := odict, data := .seq items nl, slots := oslots } := Heap.get?_push_of_some _ hol
        have hsls := PySem.F.sub_tuple_set
        have hslf := PySem.F.sub_tuple_frozenset
        have hne : (Value.type "tuple" == Value.type "dict") = false := by decide
        have hl1 : (s.heap.push (set0 led)).IsTuple l items := ⟨_, hol', rfl, nl, rfl⟩
        unfold Builtin.«set.__init__» noKeywords Builtin.Frozenset.updateFrom
        generalize hPI : pyIter = PI
        wp_walk
        subst hPI
        refine wpAny_pyIter_tuple hl1 ?_
        refine wpAny_bind (wpAny_runValue ?_)
        have ltl : l < s.heap.objs.size := Heap.lt_size hol
        have szP : (s.heap.push (set0 led)).objs.size = s.heap.objs.size + 1 := Heap.size_push ..
        have hh3 : A.in1.in1.in1.handled = none := hh
        have neI : l ≠ (s.heap.push (set0 led)).objs.size := by rw [szP]; exact Nat.ne_of_lt (Nat.lt_succ_of_lt ltl)
        have len : xs.length = items.size := by rw [← StrsAre.len_eq hi, Array.length_toList]
        refine set_texts_loop ((Walks.tuple hh3 _ l neI items).toS) s.heap.objs.size ?n xs len (by rw [← len]; exact big)
          (fun i v hv => SS.strs_at hi i v (by rw [Array.getElem?_toList]; exact hv)) (items.size - 0) 0 _ (by omega) (Nat.zero_le _) ⟨⟨_, Heap.get?_push_size _ rfl, rfl, rfl⟩, (hl1.push _)⟩ ?z ?r
        case n =>
          rw [szP]
          simp only [List.mem_cons, List.not_mem_nil, or_false, not_or]
          exact ⟨Nat.ne_of_lt (Nat.lt_succ_self _), Nat.ne_of_gt ltl⟩
        case z =>
          refine PyProof.Rows.SetOf_congr ((PyProof.Rows.setObjOf_fresh (knd := PySem.strKind prog w) led).setOf (Heap.get?_push_of_some _ hS) (by unfold scanBound; omega)) (fun _ => rfl) rfl
        case r =>
          intro s' mv hS'
          obtain ⟨h', g', d', tk', os'⟩ := s'
          obtain rfl : g' = s.gens := mv.gens
          obtain rfl : d' = s.drawn := mv.drawn
          obtain rfl : os' = s.os := mv.os
          refine wpAny_pure ?_
          show wpAny _ _ (ret Value.none) _ _ _
          refine wpAny_pure ⟨rfl, h', tk', rfl, hS', fun b o hb e => mv.heap b o ?_ (Heap.get?_push_of_some _ (Heap.get?_push_of_some _ e))⟩
          rw [szP]
          simp only [List.mem_cons, List.not_mem_nil, or_false, not_or]
          exact ⟨Nat.ne_of_lt hb, Nat.ne_of_lt (Nat.lt_succ_of_lt hb)⟩
      · cases r₂ with
        | error e => exact hr₂
        | ok fl₂ =>
          cases fl₂ with
          | ret r =>
            obtain ⟨rfl, h', tk, rfl, hS', hk'⟩ := hr₂
            repeat (any_goals (first | assumption | wp_step))
            exact h _ _ hS' hk'
          | _ => exact hr₂.elim
    | _ => exact hr.elim
end
def tLenSetX (K : PySem.W.Frag) (ta : TE) : TE := fun σ H Q => ta σ H fun x H1 => ∃ l, ∃ xs : List Str, x = .ref l ∧ SqT K H1 l (xs.map V.str) ∧ xs.length ≤ 1000 ∧ Q (.int (once xs).length) H1
theorem pe_lenSetX {X : Cx} {a : Expr} {ta : TE} {p p2 q pos : Pos} (hc : X.calm = true) (hg : Gl X "len") (hm : X.mg "len" = none) (hg2 : Gl X "set") (hm2 : X.mg "set" = none) (ha : PE X a ta)
    (na : starEach [a] X.env = (false, eval a X.env) :: starEach [] X.env := by rfl) : PE X (.Call (.Name "len" p) [.Call (.Name "set" p2) [a] [] q] [] pos) (tLenSetX X.K ta) := by
  refine ⟨fun pins s σ H Q I h => Call_ (ld_blt I hg hm boot_len (PyProof.Rows.callWith_builtin1 (PyProof.Rows.args_cons ?_ rfl) rfl rfl))⟩
  refine Call_ (ld_blt I hg2 hm2 boot_set (PyProof.Rows.callWith_type1 (PyProof.Rows.args_cons (thn (ha.run pins s σ H _ I h) fun v s1 ⟨x, H1, I1, r1, q1⟩ => PyProof.Rows.args_nil ?_) na) na rfl))
  obtain ⟨l, xs, rfl, hq, le, q1⟩ := q1
  cases r1
  obtain ⟨its, r, pl, hz⟩ := I1.tuple hq
  refine set_of_texts (I1.ok.hd hc) pl (by simpa using strsAre_of r) (by unfold scanBound; omega) fun h' tk hS hk => PyProof.Rows.args_nil ?_
  obtain ⟨o, es, ep, t, ho, hex, hd, _, _, _, hf, hn⟩ := hS
  have I2 : Inv X pins σ H1 { s1 with heap := h', toks := tk } := I1.kept fun b o e => hk b o (Heap.lt_size e) e
  have most := once_le xs
  exact call_len_set ho hex hd hf (by rw [hn] <;> omega) ⟨.int (once xs).length, H1, I2.tok _, ⟨_, by rw [hn]⟩, q1⟩
/-! ### entries that are entries -/
abbrev TB2 (T1 T2 : Addr) (H H' : Hp) : Prop := (∀ b o, H b = some o → b ≠ T1 → b ≠ T2 → H' b = some o) ∧ GxR.TabG H' T1 ∧ GxR.TabG H' T2
theorem TB2.tr {T1 T2 : Addr} {H H1 H2 : Hp} (a : TB2 T1 T2 H H1) (b : TB2 T1 T2 H1 H2) : TB2 T1 T2 H H2 := ⟨fun c o e n1 n2 => b.1 c o (a.1 c o e n1 n2) n1 n2, b.2⟩
theorem tabg_same {H H' : Hp} {T : Addr} (b : Same H H') (t : GxR.TabG H T) : GxR.TabG H' T := by
  obtain ⟨ps, e, ok⟩ := t
  exact ⟨ps, b T _ e, ok⟩
theorem TB2.same {T1 T2 : Addr} {H H' : Hp} (t1 : GxR.TabG H T1) (t2 : GxR.TabG H T2) (h : Same H H') : TB2 T1 T2 H H' := ⟨fun b o e _ _ => h b o e, tabg_same h t1, tabg_same h t2⟩
theorem TB2.one {T1 T2 : Addr} {H H' : Hp} (ne : T1 ≠ T2) (t2 : GxR.TabG H T2) (h : GxR.Tabbed T1 H H') : TB2 T1 T2 H H' := by
  obtain ⟨ps, e, ok⟩ := t2
  exact ⟨fun b o e n1 _ => (h.2 b n1).trans e, h.1, ps, (h.2 T2 ne.symm).trans e, ok⟩
theorem TB2.two {T1 T2 : Addr} {H H' : Hp} (ne : T1 ≠ T2) (t1 : GxR.TabG H T1) (h : GxR.Tabbed T2 H H') : TB2 T1 T2 H H' := by
  obtain ⟨ps, e, ok⟩ := t1
  exact ⟨fun b o e _ n2 => (h.2 b n2).trans e, ⟨ps, (h.2 T1 ne).trans e, ok⟩, h.1⟩
/-- what is no table stays -/
theorem TB2.keep {T1 T2 : Addr} {H H' : Hp} (h : TB2 T1 T2 H H') (t1 : GxR.TabG H T1) (t2 : GxR.TabG H T2) {a : Addr} {o : HO} (e : H a = some o) (n : ∀ ps, o ≠ .tbl ps) : H' a = some o := by
  obtain ⟨p1, e1, _⟩ := t1
  obtain ⟨p2, e2, _⟩ := t2
  exact h.1 a o e (ne_of e e1 (n p1)) (ne_of e e2 (n p2))
def nmV : V → Bool
  | .str z => nameB z
  | _ => false
def bnd (x : Str) : Int × Int := if x = "moment" then (0, 9999) else if x = "many" then (1, 1000000000) else (0, 1000000000)
def inB (x : Str) : V → Bool
  | .int i => decide ((bnd x).1 ≤ i) && decide (i ≤ (bnd x).2)
  | _ => false
def fitB (v : V) (x : Str) : Bool := if x = "name" then nmV v else if x = "end" then (decide (v = .str "") || nmV v) else inB x v
def Part (v : V) : Prop := (∃ z : Str, v = .str z ∧ z.length ≤ 1000) ∨ ∃ i, v = .int i
def sorts4 : List Str := ["moment", "many", "counted", "price"]
def sorts6 : List Str := ["name", "end", "moment", "many", "counted", "price"]
def spWhole : Sp := fun vs H Q _ => ∃ v : V, vs = [v] ∧ Part v ∧ Q (.bl (match v with | .int _ => true | _ => false)) H
def spFits (T1 : Addr) : Sp := fun vs H Q _ => ∃ (v : V) (x : Str), vs = [v, .str x] ∧ Part v ∧ x ∈ sorts6 ∧ GxR.TabG H T1 ∧ ∀ H', GxR.Tabbed T1 H H' → Q (.bl (fitB v x)) H'
namespace Ent
def sorts : Ent → List Str
  | come .. => ["name", "moment", "name", "name", "many", "price"]
  | go .. => ["name", "moment", "name", "name", "many"]
  | move .. => ["name", "moment", "name", "name", "name", "many"]
  | some_ .. => ["name", "moment", "name", "name", "end"]
  | swap .. => ["name", "moment", "name", "name"]
  | count .. => ["name", "moment", "name", "name", "counted", "name"]
  | look .. => ["name", "moment", "name", "name"]
def parts (e : Ent) : List V := .str e.name :: .int e.moment :: e.rest
def places : Ent → List Str
  | come _ _ _ p _ _ => [p]
  | go _ _ _ p _ => [p]
  | move _ _ _ o t _ => [o, t]
  | some_ _ _ _ o t => if t = "" then [o] else [o, t]
  | swap _ _ o t => [o, t]
  | count _ _ _ p _ _ => [p]
  | look _ _ _ p => [p]
def goodV : Ent → V
  | come _ _ g _ _ _ => .str g
  | go _ _ g _ _ => .str g
  | move _ _ g _ _ _ => .str g
  | some_ _ _ g _ _ => .str g
  | swap _ _ _ _ => .non
  | count _ _ g _ _ _ => .str g
  | look _ _ g _ => .str g
structure Fine (e : Ent) : Prop where
  fit : ∀ (i : Nat) (v : V) (x : Str), e.parts[i]? = some v → e.sorts[i]? = some x → Part v ∧ fitB v x = true
  apart : e.places.Nodup
theorem len_parts (e : Ent) : e.parts.length = e.sorts.length := by cases e <;> rfl
theorem sorts_in (e : Ent) : ∀ x ∈ e.sorts, x ∈ sorts6 := by
  cases e <;> (intro x hx; simp only [sorts, sorts6, List.mem_cons, List.not_mem_nil, or_false] at hx ⊢; rcases hx with rfl | rfl | rfl | rfl | rfl | rfl <;> simp) 
end Ent
def spPlaces : Sp := fun vs H Q _ => ∃ (a : Addr) (e : Ent), vs = [.ref a] ∧ H a = some (.tup e.vals) ∧ ∀ (tp : Addr) (H' : Hp), Same H H' → H' tp = some (.tup (e.places.map V.str)) → Q (.ref tp) H'
def spGood : Sp := fun vs H Q _ => ∃ (a : Addr) (e : Ent), vs = [.ref a] ∧ H a = some (.tup e.vals) ∧ Q e.goodV H
def spDay : Sp := fun vs H Q _ => ∃ m : Int, vs = [.int m] ∧ Q (.int (m / 100)) H
def spIsEntry (T1 T2 : Addr) : Sp := fun vs H Q _ => ∃ (a : Addr) (e : Ent), vs = [.ref a] ∧ H a = some (.tup e.vals) ∧ e.Fine ∧ GxR.TabG H T1 ∧ GxR.TabG H T2 ∧ ∀ H', TB2 T1 T2 H H' → Q (.bl true) H'
section
variable {P : Program} {w : World} {K : PySem.W.Frag} {mg : Str → Option Value} {base : Heap}
theorem scWhole : FnScope ["thing"] ["thing"] (defScope sWhole) := ⟨rfl, rfl, rfl, by decide +kernel, rfl, by decide +kernel, by decide +kernel⟩
theorem scFits : FnScope ["part", "sort", "low", "high"] ["part", "sort"] (defScope sFits) := ⟨rfl, rfl, rfl, by decide +kernel, rfl, by decide +kernel, by decide +kernel⟩
theorem scPlacesOf : FnScope ["entry", "word"] ["entry"] (defScope sPlacesOf) := ⟨rfl, rfl, rfl, by decide +kernel, rfl, by decide +kernel, by decide +kernel⟩
theorem at0 (e : Ent) : atI e.vals 0 = some (.str e.word) := atI_nat (j := 0) rfl
theorem at2 (e : Ent) : atI e.vals 2 = some (.int e.moment) := atI_nat (j := 2) rfl
theorem ok_whole {f : Addr} {fd : FuncData} (F : Fun K "is_whole" "is_whole" sWhole f fd) (mi : mg "isinstance" = none) (m1 : mg "int" = none) (m2 : mg "bool" = none) : FnOk P w K mg base CX0 1 f fd ["thing"] spWhole := by
  refine F.ok scWhole (fun vs H Q E h => ?_) (fun cdv A outer s H vs Q E hr h => ?_)
  · obtain ⟨v, rfl, _⟩ := h
    rfl
  · obtain ⟨v, rfl, pt, q⟩ := h
    refine ⟨_, pss_one (ps_ret (pe_and (pe_callB call_isi (by rfl) mi (by decide +kernel) (pa_cons (pv 0) (pa_cons (pe_bltn (v := .ty "int") (u := .type "int") (by rfl) m1 (by decide +kernel) rfl) pa_nil)))
      (pe_one (pe_not (pe_callB call_isi (by rfl) mi (by decide +kernel) (pa_cons (pv 0) (pa_cons (pe_bltn (v := .ty "bool") (u := .type "bool") (by rfl) m2 (by decide +kernel) rfl) pa_nil))))))), ?_⟩
    rcases pt with ⟨z, rfl, _⟩ | ⟨i, rfl⟩
    · exact ⟨_, rfl, _, _, _, _, false, rfl, .ty "int", .base (.str z), kit_ty (by decide +kernel), _, rfl, iteF q⟩
    · exact ⟨_, rfl, _, _, _, _, true, rfl, .ty "int", .base (.int i), kit_ty (by decide +kernel), _, rfl, iteT ⟨_, rfl, _, _, _, _, false, rfl, .ty "bool", .base (.int i), kit_ty (by decide +kernel), _, rfl, q⟩⟩
theorem at3 {e : Ent} (h : e.goodV ≠ .non) : atI e.vals 3 = some e.goodV := by
  cases e <;> first | exact atI_nat (j := 3) rfl | exact absurd rfl h
theorem sw_word (e : Ent) : e.word = "swap" ↔ e.goodV = .non := by
  have k1 : ("come" : Str) ≠ "swap" := by decide +kernel
  have k2 : ("go" : Str) ≠ "swap" := by decide +kernel
  have k3 : ("move" : Str) ≠ "swap" := by decide +kernel
  have k4 : ("some" : Str) ≠ "swap" := by decide +kernel
  have k6 : ("count" : Str) ≠ "swap" := by decide +kernel
  have k7 : ("look" : Str) ≠ "swap" := by decide +kernel
  cases e
  · exact ⟨fun h => absurd h k1, fun h => nomatch h⟩
  · exact ⟨fun h => absurd h k2, fun h => nomatch h⟩
  · exact ⟨fun h => absurd h k3, fun h => nomatch h⟩
  · exact ⟨fun h => absurd h k4, fun h => nomatch h⟩
  · exact ⟨fun _ => rfl, fun _ => rfl⟩
  · exact ⟨fun h => absurd h k6, fun h => nomatch h⟩
  · exact ⟨fun h => absurd h k7, fun h => nomatch h⟩
theorem ok_fits {f fN fW aB T1 : Addr} {fd dN dW : FuncData} (F : Fun K "fits" "fits" sFits f fd) (N : DefT P w K mg base "is_name" 1 fN dN ["thing"] (spName K T1)) (W : DefT P w K mg base "is_whole" 1 fW dW ["thing"] spWhole)
    (mB : mg "BOUNDS" = some (.ref aB)) (hB : ∀ x ∈ sorts4, ∃ aT, KDct K w aB x (.ref aT) ∧ ∀ H, SqT K H aT [.int (bnd x).1, .int (bnd x).2]) : FnOk P w K mg base CX0 2 f fd ["part", "sort"] (spFits T1) := by
  refine F.ok scFits (fun vs H Q E h => ?_) (fun cdv A outer s H vs Q E hr h => ?_)
  · obtain ⟨v, x, rfl, _⟩ := h
    rfl
  · obtain ⟨v, x, rfl, pt, hx, tg, q⟩ := h
    have nd := scFits.nd
    refine ⟨_, pss_cons (ps_if (pt_cmpR op_eq (pv 1) pe_str (nomark _)) (pss_one (ps_ret (pe_call N.ok hr (by rfl) N.g N.kp N.b .nil pass0 (pa_cons (pv 0) pa_nil)))) pss_nil)
      (pss_cons (ps_if (pt_cmpR op_eq (pv 1) pe_str (nomark _)) (pss_one (ps_ret (pe_or (pe_cmpR op_eq (pv 0) pe_str (nomark _)) (pe_one (pe_call N.ok hr (by rfl) N.g N.kp N.b .nil pass0 (pa_cons (pv 0) pa_nil)))))) pss_nil)
      (pss_cons (ps_asg (pe_ix ix_kdict (pe_glob (v := .ref aB) rfl mB rfl) (pv 1) (fun _ _ => rfl)) (pg_tup (by rfl) (pgs_cons (pg_name (i := 2) nd rfl (Or.inl rfl)) (pgs_cons (pg_name (i := 3) nd rfl (Or.inl rfl)) pgs_nil))))
      (pss_one (ps_ret (pe_and (pe_call W.ok hr (by rfl) W.g W.kp W.b .nil pass0 (pa_cons (pv 0) pa_nil)) (pe_one (pe_chain op_le op_le (pv 2) (pv 0) (pv 3)))))))), ?_⟩
    have same0 : GxR.Tabbed T1 H H := ⟨tg, fun _ _ => rfl⟩
    -- is_name of the part
    have nm : ∀ (Q1 : VK), (∀ H2, GxR.Tabbed T1 H H2 → Q1 (.bl (nmV v)) H2) → spName K T1 ([v] ++ []) H Q1 E0 := fun Q1 h1 => by
      rcases pt with ⟨z, rfl, lz⟩ | ⟨i, rfl⟩
      · exact ⟨_, rfl, tg, .inl ⟨z, rfl, small_sz lz, h1⟩⟩
      · exact ⟨_, rfl, tg, .inr ⟨"int", .base (.int i), by decide +kernel, h1 H same0⟩⟩
    refine ⟨_, rfl, rfl, _, rfl, ite2 (fun e => ?_) (fun e => ?_)⟩
    · have e' : x = "name" := V.str.inj (of_decide_eq_true e)
      refine ⟨_, rfl, nm _ fun H2 tb => ?_⟩
      have z := q H2 tb
      unfold fitB at z
      rw [if_pos e'] at z
      exact z
    · have e1 : ¬ x = "name" := fun h => e (decide_eq_true (congrArg V.str h))
      refine ⟨_, rfl, rfl, _, rfl, ite2 (fun e => ?_) (fun e => ?_)⟩
      · have e' : x = "end" := V.str.inj (of_decide_eq_true e)
        have fe : fitB v x = (decide (v = .str "") || nmV v) := by
          unfold fitB
          rw [if_neg e1, if_pos e']
        have fl : scal v (V.str "") = true := by
          rcases pt with ⟨z, rfl, _⟩ | ⟨i, rfl⟩ <;> rfl
        rw [fe] at q
        refine ⟨_, rfl, fl, decide (v = .str ""), rfl, ?_⟩
        cases hd : decide (v = V.str "") with
        | true =>
          rw [hd] at q
          exact iteT (q H same0)
        | false =>
          rw [hd] at q
          exact iteF ⟨_, rfl, nm _ fun H2 tb => q H2 tb⟩
      · have e2 : ¬ x = "end" := fun h => e (decide_eq_true (congrArg V.str h))
        have x4 : x ∈ sorts4 := by
          simp only [sorts6, sorts4, List.mem_cons, List.not_mem_nil, or_false] at hx ⊢
          rcases hx with h | h | h | h | h | h
          · exact absurd h e1
          · exact absurd h e2
          · exact .inl h
          · exact .inr (.inl h)
          · exact .inr (.inr (.inl h))
          · exact .inr (.inr (.inr h))
        obtain ⟨aT, kd, sq⟩ := hB x x4
        have fe : fitB v x = inB x v := by
          unfold fitB
          rw [if_neg e1, if_neg e2]
        rw [fe] at q
        have q0 := q H same0
        refine ⟨_, rfl, aB, x, _, rfl, rfl, kd, aT, _, rfl, sq H, rfl, _, _, rfl, _, _, rfl, rfl, _, rfl, v, rfl, pt, ?_⟩
        rcases pt with ⟨z, rfl, lz⟩ | ⟨i, rfl⟩
        · exact ⟨_, rfl, iteF q0⟩
        · refine ⟨_, rfl, iteT ⟨_, rfl, _, rfl, (bnd x).1, i, rfl, rfl, _, rfl, ite2 (fun a1 => ?_) (fun a1 => ?_)⟩⟩
          · refine ⟨_, rfl, i, (bnd x).2, rfl, rfl, ?_⟩
            have z : inB x (.int i) = decide (i ≤ (bnd x).2) := by
              show (decide ((bnd x).1 ≤ i) && decide (i ≤ (bnd x).2)) = _
              rw [a1, Bool.true_and]
            rw [z] at q0
            exact q0
          · have z : inB x (.int i) = false := by
              show (decide ((bnd x).1 ≤ i) && decide (i ≤ (bnd x).2)) = _
              rw [Bool.eq_false_iff.mpr a1, Bool.false_and]
            rw [z] at q0
            exact q0
end
/-! ### places_of, is_entry -/
theorem cut_mid {xs : List V} {i j : Nat} (h : j ≤ xs.length) (hi : i ≤ j) : cutV xs (some (i : Int)) (some (j : Int)) = (xs.drop i).take (j - i) := by
  unfold cutV
  rw [HT.sIx_nat, HT.sIx_nat, Nat.min_eq_left h, Nat.min_eq_left (Nat.le_trans hi h)]
theorem no_whole {n i j : Nat} (h : i ≤ n) (hi : 0 < i) : ¬ (HT.sIx n 0 (some (i : Int)) = 0 ∧ HT.sIx n n (some (j : Int)) = n) := by
  rw [HT.sIx_nat, Nat.min_eq_left h]
  omega
section
variable {P : Program} {w : World} {K : PySem.W.Frag} {mg : Str → Option Value} {base : Heap}
theorem bl_of {a b : Str} {k : Bool} (h : decide (V.str a = V.str b) = k) : V.bl (decide (V.str a = V.str b)) = V.bl k := congrArg V.bl h
theorem ok_placesOf {f : Addr} {fd : FuncData} (F : Fun K "places_of" "places_of" sPlacesOf f fd) : FnOk P w K mg base CX0 1 f fd ["entry"] spPlaces := by
  refine F.ok scPlacesOf (fun vs H Q E h => ?_) (fun cdv A outer s H vs Q E hr h => ?_)
  · obtain ⟨a, e, rfl, _⟩ := h
    rfl
  · obtain ⟨a, e, rfl, ha, q⟩ := h
    have nd := scPlacesOf.nd
    refine ⟨_, pss_cons (ps_set (i := 1) nd rfl (Or.inl rfl) (pe_ix ix_tup (pv 0) pe_int (fun _ _ => rfl)))
      (pss_cons (ps_if (pt_cmpR op_eq (pv 1) pe_str (nomark _)) (pss_one (ps_ret (pe_slice sl_tup (pv 0) (po_some pe_int) (po_some pe_int)))) pss_nil)
      (pss_cons (ps_if (PW.pt (pw_or (pt_cmpR op_eq (pv 1) pe_str (nomark _)) (pw_or1 (PW.pt (pw_and (pt_cmpR op_eq (pv 1) pe_str (nomark _)) (pw_and1 (pt_cmpR op_ne (pe_ix ix_tup (pv 0) pe_int (fun _ _ => rfl)) pe_str (nomark _)))))))) (pss_one (ps_ret (pe_slice sl_tup (pv 0) (po_some pe_int) (po_some pe_int)))) pss_nil)
      (pss_one (ps_ret (pe_slice sl_tup (pv 0) (po_some pe_int) (po_some pe_int)))))), ?_⟩
    refine ⟨_, rfl, a, _, 0, _, rfl, rfl, SqT.of ha, at0 e, ?_⟩
    have c1 : decide (V.str "come" = V.str "swap") = false := by decide +kernel
    have c2 : decide (V.str "go" = V.str "swap") = false := by decide +kernel
    have c3 : decide (V.str "move" = V.str "swap") = false := by decide +kernel
    have c4 : decide (V.str "some" = V.str "swap") = false := by decide +kernel
    have c6 : decide (V.str "count" = V.str "swap") = false := by decide +kernel
    have c7 : decide (V.str "look" = V.str "swap") = false := by decide +kernel
    have m1 : decide (V.str "come" = V.str "move") = false := by decide +kernel
    have m2 : decide (V.str "go" = V.str "move") = false := by decide +kernel
    have m4 : decide (V.str "some" = V.str "move") = false := by decide +kernel
    have m6 : decide (V.str "count" = V.str "move") = false := by decide +kernel
    have m7 : decide (V.str "look" = V.str "move") = false := by decide +kernel
    have s1 : decide (V.str "come" = V.str "some") = false := by decide +kernel
    have s2 : decide (V.str "go" = V.str "some") = false := by decide +kernel
    have s6 : decide (V.str "count" = V.str "some") = false := by decide +kernel
    have s7 : decide (V.str "look" = V.str "some") = false := by decide +kernel
    cases e with
    | come nme mo g pl many price =>
      refine ⟨_, rfl, rfl, false, bl_of c1, iteF ⟨_, rfl, rfl, false, bl_of m1, iteF ⟨_, rfl, rfl, false, bl_of s1, iteF ?_⟩⟩⟩
      exact ⟨_, rfl, 4, rfl, 5, rfl, a, _, rfl, SqT.of ha, no_whole (i := 4) (j := 5) (by show 4 ≤ 7; decide) (by decide), fun p np => q p _ (same_new np) (by rw [upd_same]; rfl)⟩
    | go nme mo g pl many =>
      refine ⟨_, rfl, rfl, false, bl_of c2, iteF ⟨_, rfl, rfl, false, bl_of m2, iteF ⟨_, rfl, rfl, false, bl_of s2, iteF ?_⟩⟩⟩
      exact ⟨_, rfl, 4, rfl, 5, rfl, a, _, rfl, SqT.of ha, no_whole (i := 4) (j := 5) (by show 4 ≤ 6; decide) (by decide), fun p np => q p _ (same_new np) (by rw [upd_same]; rfl)⟩
    | move nme mo g one other many =>
      refine ⟨_, rfl, rfl, false, bl_of c3, iteF ⟨_, rfl, rfl, true, bl_of (decide_eq_true rfl), iteT ?_⟩⟩
      exact ⟨_, rfl, 4, rfl, 6, rfl, a, _, rfl, SqT.of ha, no_whole (i := 4) (j := 6) (by show 4 ≤ 7; decide) (by decide), fun p np => q p _ (same_new np) (by rw [upd_same]; rfl)⟩
    | some_ nme mo g one other =>
      refine ⟨_, rfl, rfl, false, bl_of c4, iteF ⟨_, rfl, rfl, false, bl_of m4, iteF ⟨_, rfl, rfl, true, bl_of (decide_eq_true rfl), iteT ?_⟩⟩⟩
      refine ⟨_, rfl, a, _, 5, .str other, rfl, rfl, SqT.of ha, atI_nat (j := 5) rfl, rfl, !decide (V.str other = V.str ""), rfl, ?_⟩
      by_cases z : other = ""
      · rw [decide_eq_true (congrArg V.str z)]
        refine iteF ⟨_, rfl, 4, rfl, 5, rfl, a, _, rfl, SqT.of ha, no_whole (i := 4) (j := 5) (by show 4 ≤ 6; decide) (by decide), fun p np => q p _ (same_new np) ?_⟩
        rw [upd_same]
        show some (HO.tup [V.str one]) = some (HO.tup ((if other = "" then [one] else [one, other]).map V.str))
        rw [if_pos z]
        rfl
      · rw [decide_eq_false fun h => z (V.str.inj h)]
        refine iteT ⟨_, rfl, 4, rfl, 6, rfl, a, _, rfl, SqT.of ha, no_whole (i := 4) (j := 6) (by show 4 ≤ 6; decide) (by decide), fun p np => q p _ (same_new np) ?_⟩
        rw [upd_same]
        show some (HO.tup [V.str one, V.str other]) = some (HO.tup ((if other = "" then [one] else [one, other]).map V.str))
        rw [if_neg z]
        rfl
    | swap nme mo one other =>
      refine ⟨_, rfl, rfl, true, bl_of (decide_eq_true rfl), iteT ?_⟩
      exact ⟨_, rfl, 3, rfl, 5, rfl, a, _, rfl, SqT.of ha, no_whole (i := 3) (j := 5) (by show 3 ≤ 5; decide) (by decide), fun p np => q p _ (same_new np) (by rw [upd_same]; rfl)⟩
    | count nme mo g pl many hand =>
      refine ⟨_, rfl, rfl, false, bl_of c6, iteF ⟨_, rfl, rfl, false, bl_of m6, iteF ⟨_, rfl, rfl, false, bl_of s6, iteF ?_⟩⟩⟩
      exact ⟨_, rfl, 4, rfl, 5, rfl, a, _, rfl, SqT.of ha, no_whole (i := 4) (j := 5) (by show 4 ≤ 7; decide) (by decide), fun p np => q p _ (same_new np) (by rw [upd_same]; rfl)⟩
    | look nme mo g pl =>
      refine ⟨_, rfl, rfl, false, bl_of c7, iteF ⟨_, rfl, rfl, false, bl_of m7, iteF ⟨_, rfl, rfl, false, bl_of s7, iteF ?_⟩⟩⟩
      exact ⟨_, rfl, 4, rfl, 5, rfl, a, _, rfl, SqT.of ha, no_whole (i := 4) (j := 5) (by show 4 ≤ 5; decide) (by decide), fun p np => q p _ (same_new np) (by rw [upd_same]; rfl)⟩
theorem once_nodup : ∀ {xs : List Str}, xs.Nodup → once xs = xs := by
  intro xs
  have key : ∀ (l acc : List Str), (acc ++ l).Nodup → l.foldl (fun acc x => if acc.contains x = true then acc else acc ++ [x]) acc = acc ++ l := by
    intro l
    induction l with
    | nil => intro acc _; rw [List.append_nil]; rfl
    | cons x r ih =>
      intro acc h
      have nx : ¬ acc.contains x = true := fun z => by
        have hx : x ∈ acc := by simpa using z
        rw [List.nodup_append] at h
        exact h.2.2 x hx x List.mem_cons_self rfl
      rw [List.foldl_cons, if_neg nx]
      have e : acc ++ x :: r = (acc ++ [x]) ++ r := by rw [List.append_assoc]; rfl
      rw [e] at h ⊢
      exact ih _ h
  intro h
  exact key xs [] h
abbrev isN : List Str := ["thing", "sorts", "places", "part", "sort"]
theorem scIs : FnScope isN ["thing"] (defScope sIsEntry) := ⟨rfl, rfl, rfl, by decide +kernel, rfl, by decide +kernel, by decide +kernel⟩
theorem vals_cut (e : Ent) : cutV e.vals (some 1) none = e.parts := by
  have h : cutV e.vals (some ((1 : Nat) : Int)) none = e.parts := by
    unfold cutV
    rw [HT.sIx_nat, HT.sIx_none]
    have l : 1 ≤ e.vals.length := by show 1 ≤ _ + 1; omega
    rw [Nat.min_eq_left l]
    show (e.parts).take (e.parts.length + 1 - 1) = e.parts
    rw [Nat.add_sub_cancel]
    exact List.take_length
  exact h
theorem places_le (e : Ent) : e.places.length ≤ 2 := by
  cases e with
  | some_ n m g o t =>
    by_cases z : t = ""
    · rw [show Ent.places (.some_ n m g o t) = [o] from if_pos z]
      exact Nat.le_succ 1
    · rw [show Ent.places (.some_ n m g o t) = [o, t] from if_neg z]
      exact Nat.le_refl 2
  | move _ _ _ _ _ _ => exact Nat.le_refl 2
  | swap _ _ _ _ => exact Nat.le_refl 2
  | come _ _ _ _ _ _ => exact Nat.le_succ 1
  | go _ _ _ _ _ => exact Nat.le_succ 1
  | count _ _ _ _ _ _ => exact Nat.le_succ 1
  | look _ _ _ _ => exact Nat.le_succ 1
theorem ok_isEntry {f cE T1 T2 aF fF fP : Addr} {dF dP : FuncData} {oc kV doc pm ct : Value} {od an : Option Addr} {osl : Array (Option Value)} {es : Array DictEntry} {nE : Nat}
    (lk : K.lookup f = some ⟨oc, od, .func (PySem.W.fnOf "is_entry" "is_entry" (defArgs sIsEntry) (defBody sIsEntry) (defScope sIsEntry) .none kV doc pm an (.ref cE) ct), osl⟩) (cdI : PySem.W.codeIn K (.ref cE) "is_entry" = true)
    (TB : GxR.TabB base mg cE T2) (ne : T1 ≠ T2) (FI : DefT P w K mg base "fits" 2 fF dF ["part", "sort"] (spFits T1)) (PO : DefT P w K mg base "places_of" 1 fP dP ["entry"] spPlaces)
    (mi : mg "isinstance" = none) (mt : mg "tuple" = none) (ml : mg "len" = none) (mst : mg "str" = none) (ma : mg "all" = none) (mz : mg "zip" = none) (ms : mg "set" = none) (mF : mg "FORMS" = some (.ref aF)) (D : KDict K w aF es nE)
    (hF : ∀ e : Ent, ∃ aS, KDct K w aF e.word (.ref aS) ∧ ∀ H, SqT K H aS (e.sorts.map V.str)) :
    FnOk P w K mg base CX0 4 f (PySem.W.fnOf "is_entry" "is_entry" (defArgs sIsEntry) (defBody sIsEntry) (defScope sIsEntry) .none kV doc pm an (.ref cE) ct) ["thing"] (spIsEntry T1 T2) := by
  refine fn_of lk cdI scIs (fun vs H Q E h => ?_) (fun A outer s H vs Q E hr h => ?_)
  · obtain ⟨a, e, rfl, _⟩ := h
    rfl
  · obtain ⟨a, e, rfl, ha, fine, t1, t2, q⟩ := h
    have nd := scIs.nd
    have hr1 : Room 1 _ := hr.mono (by decide)
    refine ⟨_, pss_cons (ps_if (PW.pt (pw_or (pt_not (pt_val (pe_callB call_isi (by rfl) mi (by decide +kernel) (pa_cons (pv 0) (pa_cons (pe_bltn (v := .ty "tuple") (u := .type "tuple") (by rfl) mt (by decide +kernel) rfl) pa_nil)))))
          (pw_or1 (pt_cmpR op_eq (pe_callB call_len_seq (by rfl) ml PySem.boot_len (pa_cons (pv 0) pa_nil)) pe_int (nomark _))))) (pss_one (ps_ret pe_bl)) pss_nil)
      (pss_cons (ps_if (PW.pt (pw_or (pt_not (pt_val (pe_callB call_isi (by rfl) mi (by decide +kernel) (pa_cons (pe_ix ix_tup (pv 0) pe_int (fun _ _ => rfl)) (pa_cons (pe_bltn (v := .ty "str") (u := .type "str") (by rfl) mst (by decide +kernel) rfl) pa_nil)))))
          (pw_or1 (pt_cmpR (op_notIn_kd D) (pe_ix ix_tup (pv 0) pe_int (fun _ _ => rfl)) (pe_glob (v := .ref aF) rfl mF rfl) (by rfl))))) (pss_one (ps_ret pe_bl)) pss_nil)
      (pss_cons (ps_set (i := 1) nd rfl (Or.inl rfl) (pe_ix ix_kdict (pe_glob (v := .ref aF) rfl mF rfl) (pe_ix ix_tup (pv 0) pe_int (fun _ _ => rfl)) (fun _ _ => rfl)))
      (pss_cons (ps_if (pt_cmpR op_ne (pe_callB call_len_seq (by rfl) ml PySem.boot_len (pa_cons (pv 0) pa_nil)) (pe_op op_add (pe_callB call_len_seq (by rfl) ml PySem.boot_len (pa_cons (pv 1) pa_nil)) pe_int) (nomark _)) (pss_one (ps_ret pe_bl)) pss_nil)
      (pss_cons (ps_if (pt_not (pt_val (pe_allG (T := T2) (c := cE) (k := 2) (own := [("part", 3), ("sort", 4)]) (g := gTup K 2 (gCons (gName 3) (gCons (gName 4) gNil))) (tt := tYes) (te := tCall (spFits T1) [] E0 (tCons (tVar 3) (tCons (tVar 4) tNil)))
          hr (by rfl) ma rfl nd TB rfl ⟨blkOk_by (N := isN) (sc := defScope sIsEntry) (by decide +kernel), rfl, by decide +kernel, rfl⟩
          (RZ.pi_zipA (by rfl) mz (pa_cons (pe_slice sl_tup (pv 0) (po_some pe_int) po_none) (pa_cons (pv 1) pa_nil)))
          (fun _ _ _ _ _ _ => pg_tup (by rfl) (pgs_cons (pg_name (i := 3) nd rfl (Or.inl rfl)) (pgs_cons (pg_name (i := 4) nd rfl (Or.inl rfl)) pgs_nil)))
          (fun _ _ _ _ _ _ _ => pts_nil) (fun _ _ _ _ _ _ hr' => pe_call FI.ok hr' (by rfl) FI.g FI.kp FI.b .nil pass0 (pa_cons (pv 3) (pa_cons (pv 4) pa_nil)))))) (pss_one (ps_ret pe_bl)) pss_nil)
      (pss_cons (ps_set (i := 2) nd rfl (Or.inl rfl) (pe_call PO.ok hr1 (by rfl) PO.g PO.kp PO.b .nil pass0 (pa_cons (pv 0) pa_nil)))
      (pss_one (ps_ret (pe_cmpR op_eq (pe_lenSetX rfl (by rfl) ml (by rfl) ms (pv 2)) (pe_callB call_len_seq (by rfl) ml PySem.boot_len (pa_cons (pv 2) pa_nil)) (nomark _))))))))), ?_⟩
    obtain ⟨aS, kd, sq⟩ := hF e
    -- a tuple, not empty
    refine ⟨_, rfl, _, _, _, _, true, rfl, .ty "tuple", .base (.tup ha), kit_ty (by decide +kernel), _, rfl, iteF ?_⟩
    refine ⟨_, rfl, a, _, rfl, .inr (SqT.of ha), rfl, false, congrArg V.bl (decide_eq_false fun z => ?_), iteF ?_⟩
    · have z' : ((e.vals.length : Nat) : Int) = 0 := V.int.inj z
      have : e.vals.length = e.parts.length + 1 := rfl
      omega
    -- a word of the forms
    refine ⟨_, rfl, a, _, 0, _, rfl, rfl, SqT.of ha, at0 e, _, _, _, _, true, rfl, .ty "str", .base (.str e.word), kit_ty (by decide +kernel), _, rfl, iteF ?_⟩
    obtain ⟨es', n', u, hl, hlit, hns, ru⟩ := id kd
    refine ⟨_, rfl, a, _, 0, _, rfl, rfl, SqT.of ha, at0 e, e.word, some u, rfl, rfl, hns, _, rfl, iteF ?_⟩
    -- the sorts
    refine ⟨_, rfl, a, _, 0, _, rfl, rfl, SqT.of ha, at0 e, aF, e.word, _, rfl, rfl, kd, ?_⟩
    refine ⟨_, rfl, a, _, rfl, .inr (SqT.of ha), _, rfl, aS, _, rfl, .inr (sq H), _, 1, rfl, rfl, rfl, false, ?_, iteF ?_⟩
    · refine congrArg V.bl ?_
      have l1 : (e.vals.length : Int) = ((e.sorts.map V.str).length : Int) + 1 := by
        have : e.vals.length = e.parts.length + 1 := rfl
        rw [this, e.len_parts, List.length_map]
        rfl
      rw [l1, decide_eq_true rfl]
      rfl
    -- all fit
    refine ⟨_, rfl, 1, rfl, a, _, rfl, SqT.of ha, ?_, fun pp npp => ?_⟩
    · rintro ⟨z, _⟩
      rw [show HT.sIx e.vals.length 0 (some 1) = min 1 e.vals.length from HT.sIx_nat _ _ 1] at z
      have : e.vals.length = e.parts.length + 1 := rfl
      omega
    have sp := @same_new _ _ (.tup (cutV e.vals (some 1) none)) npp
    refine ⟨_, rfl, pp, aS, cutV e.vals (some 1) none, e.sorts.map V.str, rfl, .inr ⟨SqT.of upd_same, sq _, tabg_same sp t2, fun H2 tb2 => ?_⟩⟩
    have hpp : (upd H pp (.tup (cutV e.vals (some 1) none))) pp = some (.tup e.parts) := by rw [upd_same, vals_cut]
    have b0 : TB2 T1 T2 H H2 := (TB2.same t1 t2 sp).tr (.two ne (tabg_same sp t1) tb2)
    have b1 : TB2 T1 T2 (upd H pp (.tup (cutV e.vals (some 1) none))) H2 := .two ne (tabg_same sp t1) tb2
    have hp2 : H2 pp = some (.tup e.parts) := b1.keep (tabg_same sp t1) (tabg_same sp t2) hpp (by intro ps z; cases z)
    refine ⟨fun i m H' => m = e.parts.length - i ∧ i ≤ e.parts.length ∧ H' pp = some (.tup e.parts) ∧ TB2 T1 T2 H H', ⟨_, rfl, Nat.zero_le _, hp2, b0⟩, ?_⟩
    rintro i m H3 ⟨rfl, hi, hp3, b3⟩
    by_cases lt : i < e.parts.length
    · refine .inr ⟨⟨e.parts, e.sorts.map V.str, e.parts[i], .str (e.sorts[i]'(by rw [← e.len_parts]; exact lt)), SqT.of hp3, sq _, List.getElem?_eq_getElem lt, ?_⟩, fun v H4 y => ?_⟩
      · rw [List.getElem?_map, List.getElem?_eq_getElem (by rw [← e.len_parts]; exact lt)]
        rfl
      · obtain ⟨TT, x', y', rfl, nT, rfl, f1, f2⟩ := y
        have g1 := f1 e.parts (SqT.of hp3)
        have g2 := f2 (e.sorts.map V.str) (sq _)
        rw [List.getElem?_map] at g2
        obtain ⟨srt, hsrt, rfl⟩ := Option.map_eq_some_iff.mp g2
        obtain ⟨prt, fit⟩ := fine.fit i x' srt g1 hsrt
        have s4 := @same_new _ _ (.tup [x', V.str srt]) nT
        have b4 : TB2 T1 T2 H (upd H3 TT (.tup [x', V.str srt])) := b3.tr (.same b3.2.1 b3.2.2 s4)
        refine ⟨TT, _, rfl, SqT.of upd_same, rfl, _, _, rfl, _, _, rfl, rfl, rfl, yesT ?_⟩
        refine ⟨_, rfl, _, rfl, x', srt, rfl, prt, e.sorts_in srt (List.mem_of_getElem? hsrt), b4.2.1, fun H5 tb5 => ?_⟩
        have b5 : TB2 T1 T2 H H5 := b4.tr (.one ne b4.2.2 tb5)
        have b45 : TB2 T1 T2 (upd H3 TT (.tup [x', V.str srt])) H5 := .one ne b4.2.2 tb5
        rw [fit]
        exact ⟨true, rfl, iteT ⟨_, by omega, rfl, lt, b45.keep b4.2.1 b4.2.2 (s4 _ _ hp3) (by intro ps z; cases z), b5⟩⟩
    · have ei : i = e.parts.length := by omega
      refine .inl ⟨⟨e.parts, e.sorts.map V.str, SqT.of hp3, sq _, .inl (by omega)⟩, ?_⟩
      refine ⟨true, rfl, iteF ?_⟩
      -- unlike places
      have ha3 : H3 a = some (.tup e.vals) := b3.keep t1 t2 ha (by intro ps z; cases z)
      refine ⟨_, rfl, a, e, rfl, ha3, fun tp H4 s4 ht => ?_⟩
      refine ⟨_, rfl, tp, e.places, rfl, SqT.of ht, Nat.le_trans (places_le e) (by decide), _, rfl, tp, _, rfl, .inr (SqT.of ht), rfl, ?_⟩
      rw [once_nodup fine.apart, List.length_map, decide_eq_true rfl]
      exact q H4 (b3.tr (.same b3.2.1 b3.2.2 s4))
end
/-! ### what is drawn is fine -/
theorem name_len {y : Str} (h : nameB y = true) : 1 ≤ y.length ∧ y.length ≤ 8 := by
  unfold nameB at h
  rw [Bool.and_eq_true, Bool.and_eq_true, decide_eq_true_eq, decide_eq_true_eq] at h
  exact h.1
theorem name_ne {y : Str} (h : nameB y = true) : y ≠ "" := fun z => by
  have := (name_len h).1
  rw [z] at this
  exact absurd this (by decide +kernel)
theorem kmn : ¬ ("moment" : Str) = "name" := by decide +kernel
theorem kme : ¬ ("moment" : Str) = "end" := by decide +kernel
theorem kyn : ¬ ("many" : Str) = "name" := by decide +kernel
theorem kye : ¬ ("many" : Str) = "end" := by decide +kernel
theorem kym : ¬ ("many" : Str) = "moment" := by decide +kernel
theorem kcn : ¬ ("counted" : Str) = "name" := by decide +kernel
theorem kce : ¬ ("counted" : Str) = "end" := by decide +kernel
theorem kcm : ¬ ("counted" : Str) = "moment" := by decide +kernel
theorem kcy : ¬ ("counted" : Str) = "many" := by decide +kernel
theorem kpn : ¬ ("price" : Str) = "name" := by decide +kernel
theorem kpe : ¬ ("price" : Str) = "end" := by decide +kernel
theorem kpm : ¬ ("price" : Str) = "moment" := by decide +kernel
theorem kpy : ¬ ("price" : Str) = "many" := by decide +kernel
theorem ken : ¬ ("end" : Str) = "name" := by decide +kernel
theorem fit_name {y : Str} (h : nameB y = true) : Part (.str y) ∧ fitB (.str y) "name" = true := by
  refine ⟨.inl ⟨y, rfl, by have := (name_len h).2; omega⟩, ?_⟩
  unfold fitB
  rw [if_pos rfl]
  exact h
theorem fit_end {y : Str} (h : y = "" ∨ nameB y = true) : Part (.str y) ∧ fitB (.str y) "end" = true := by
  have e : fitB (.str y) "end" = (decide (V.str y = .str "") || nameB y) := by
    unfold fitB
    rw [if_neg ken, if_pos rfl]
    rfl
  rcases h with rfl | h
  · exact ⟨.inl ⟨_, rfl, Nat.zero_le _⟩, by rw [e, decide_eq_true rfl]; rfl⟩
  · exact ⟨.inl ⟨y, rfl, by have := (name_len h).2; omega⟩, by rw [e, h, Bool.or_true]⟩
theorem fit_moment {m : Int} (h0 : 0 ≤ m) (h1 : m ≤ 9999) : Part (.int m) ∧ fitB (.int m) "moment" = true := by
  refine ⟨.inr ⟨m, rfl⟩, ?_⟩
  unfold fitB inB bnd
  rw [if_neg kmn, if_neg kme, if_pos rfl]
  simp [h0, h1]
theorem fit_many {m : Int} (h0 : 1 ≤ m) (h1 : m ≤ 1000000000) : Part (.int m) ∧ fitB (.int m) "many" = true := by
  refine ⟨.inr ⟨m, rfl⟩, ?_⟩
  unfold fitB inB bnd
  rw [if_neg kyn, if_neg kye, if_neg kym, if_pos rfl]
  simp [h0, h1]
theorem fit_counted {m : Int} (h0 : 0 ≤ m) (h1 : m ≤ 1000000000) : Part (.int m) ∧ fitB (.int m) "counted" = true := by
  refine ⟨.inr ⟨m, rfl⟩, ?_⟩
  unfold fitB inB bnd
  rw [if_neg kcn, if_neg kce, if_neg kcm, if_neg kcy]
  simp [h0, h1]
theorem fit_price {m : Int} (h0 : 0 ≤ m) (h1 : m ≤ 1000000000) : Part (.int m) ∧ fitB (.int m) "price" = true := by
  refine ⟨.inr ⟨m, rfl⟩, ?_⟩
  unfold fitB inB bnd
  rw [if_neg kpn, if_neg kpe, if_neg kpm, if_neg kpy]
  simp [h0, h1]
theorem nd1 (x : Str) : [x].Nodup := List.nodup_cons.mpr ⟨fun z => (nomatch z), List.nodup_nil⟩
theorem zip_at {α β : Type} {xs : List α} {ys : List β} {i : Nat} {x : α} {y : β} (h1 : xs[i]? = some x) (h2 : ys[i]? = some y) : (x, y) ∈ xs.zip ys :=
  List.mem_of_getElem? (List.getElem?_zip_eq_some.mpr ⟨h1, h2⟩)
theorem fine_of {PL GL HL : List Str} {e : Ent} (h : e.From PL GL HL) (nd : PL.Nodup) (np : ∀ y ∈ PL, nameB y = true) (ng : ∀ y ∈ GL, nameB y = true) (nh : ∀ y ∈ HL, nameB y = true) (nn : nameB e.name = true) (m0 : 0 ≤ e.moment) (m1 : e.moment ≤ 9999) :
    e.Fine ∧ ∀ y ∈ e.places, nameB y = true := by
  have two : ∀ {o t : Str}, o ≠ t → [o, t].Nodup := fun h => List.nodup_cons.mpr ⟨fun z => h (List.mem_singleton.mp z), nd1 _⟩
  cases e with
  | come n m g p k r =>
    obtain ⟨h1, h2, h3, h4, h5, h6⟩ := h
    refine ⟨⟨fun i v x hv hx => ?_, nd1 _⟩, fun y hy => by rw [List.mem_singleton.mp hy]; exact np p h2⟩
    have hz := zip_at hv hx
    simp only [Ent.parts, Ent.sorts, Ent.rest, List.zip_cons_cons, List.zip_nil_left, List.mem_cons, List.not_mem_nil, or_false, Prod.mk.injEq] at hz
    rcases hz with ⟨rfl, rfl⟩ | ⟨rfl, rfl⟩ | ⟨rfl, rfl⟩ | ⟨rfl, rfl⟩ | ⟨rfl, rfl⟩ | ⟨rfl, rfl⟩
    · exact fit_name nn
    · exact fit_moment m0 m1
    · exact fit_name (ng g h1)
    · exact fit_name (np p h2)
    · exact fit_many h3 h4
    · exact fit_price h5 h6
  | go n m g p k =>
    obtain ⟨h1, h2, h3, h4⟩ := h
    refine ⟨⟨fun i v x hv hx => ?_, nd1 _⟩, fun y hy => by rw [List.mem_singleton.mp hy]; exact np p h2⟩
    have hz := zip_at hv hx
    simp only [Ent.parts, Ent.sorts, Ent.rest, List.zip_cons_cons, List.zip_nil_left, List.mem_cons, List.not_mem_nil, or_false, Prod.mk.injEq] at hz
    rcases hz with ⟨rfl, rfl⟩ | ⟨rfl, rfl⟩ | ⟨rfl, rfl⟩ | ⟨rfl, rfl⟩ | ⟨rfl, rfl⟩
    · exact fit_name nn
    · exact fit_moment m0 m1
    · exact fit_name (ng g h1)
    · exact fit_name (np p h2)
    · exact fit_many h3 h4
  | move n m g o t k =>
    obtain ⟨h1, h2, h3, h4, h5, h6⟩ := h
    refine ⟨⟨fun i v x hv hx => ?_, two (h4 nd)⟩, fun y hy => ?_⟩
    · have hz := zip_at hv hx
      simp only [Ent.parts, Ent.sorts, Ent.rest, List.zip_cons_cons, List.zip_nil_left, List.mem_cons, List.not_mem_nil, or_false, Prod.mk.injEq] at hz
      rcases hz with ⟨rfl, rfl⟩ | ⟨rfl, rfl⟩ | ⟨rfl, rfl⟩ | ⟨rfl, rfl⟩ | ⟨rfl, rfl⟩ | ⟨rfl, rfl⟩
      · exact fit_name nn
      · exact fit_moment m0 m1
      · exact fit_name (ng g h1)
      · exact fit_name (np o h2)
      · exact fit_name (np t h3)
      · exact fit_many h5 h6
    · simp only [Ent.places, List.mem_cons, List.not_mem_nil, or_false] at hy
      rcases hy with rfl | rfl
      · exact np _ h2
      · exact np _ h3
  | some_ n m g o t =>
    obtain ⟨h1, h2, h3⟩ := h
    refine ⟨⟨fun i v x hv hx => ?_, ?_⟩, fun y hy => ?_⟩
    · have hz := zip_at hv hx
      simp only [Ent.parts, Ent.sorts, Ent.rest, List.zip_cons_cons, List.zip_nil_left, List.mem_cons, List.not_mem_nil, or_false, Prod.mk.injEq] at hz
      rcases hz with ⟨rfl, rfl⟩ | ⟨rfl, rfl⟩ | ⟨rfl, rfl⟩ | ⟨rfl, rfl⟩ | ⟨rfl, rfl⟩
      · exact fit_name nn
      · exact fit_moment m0 m1
      · exact fit_name (ng g h1)
      · exact fit_name (np o h2)
      · exact fit_end (h3.imp id fun z => np t z.1)
    · show (if t = "" then [o] else [o, t]).Nodup
      by_cases z : t = ""
      · rw [if_pos z]; exact nd1 _
      · rw [if_neg z]; exact two ((h3.resolve_left z).2 nd)
    · have hy' : y ∈ (if t = "" then [o] else [o, t]) := hy
      by_cases z : t = ""
      · rw [if_pos z] at hy'
        rw [List.mem_singleton.mp hy']
        exact np o h2
      · rw [if_neg z] at hy'
        simp only [List.mem_cons, List.not_mem_nil, or_false] at hy'
        rcases hy' with rfl | rfl
        · exact np _ h2
        · exact np _ (h3.resolve_left z).1
  | swap n m o t =>
    obtain ⟨h1, h2, h3⟩ := h
    refine ⟨⟨fun i v x hv hx => ?_, two (h3 nd)⟩, fun y hy => ?_⟩
    · have hz := zip_at hv hx
      simp only [Ent.parts, Ent.sorts, Ent.rest, List.zip_cons_cons, List.zip_nil_left, List.mem_cons, List.not_mem_nil, or_false, Prod.mk.injEq] at hz
      rcases hz with ⟨rfl, rfl⟩ | ⟨rfl, rfl⟩ | ⟨rfl, rfl⟩ | ⟨rfl, rfl⟩
      · exact fit_name nn
      · exact fit_moment m0 m1
      · exact fit_name (np o h1)
      · exact fit_name (np t h2)
    · simp only [Ent.places, List.mem_cons, List.not_mem_nil, or_false] at hy
      rcases hy with rfl | rfl
      · exact np _ h1
      · exact np _ h2
  | count n m g p k hd =>
    obtain ⟨h1, h2, h3, h4, h5⟩ := h
    refine ⟨⟨fun i v x hv hx => ?_, nd1 _⟩, fun y hy => by rw [List.mem_singleton.mp hy]; exact np p h2⟩
    have hz := zip_at hv hx
    simp only [Ent.parts, Ent.sorts, Ent.rest, List.zip_cons_cons, List.zip_nil_left, List.mem_cons, List.not_mem_nil, or_false, Prod.mk.injEq] at hz
    rcases hz with ⟨rfl, rfl⟩ | ⟨rfl, rfl⟩ | ⟨rfl, rfl⟩ | ⟨rfl, rfl⟩ | ⟨rfl, rfl⟩ | ⟨rfl, rfl⟩
    · exact fit_name nn
    · exact fit_moment m0 m1
    · exact fit_name (ng g h1)
    · exact fit_name (np p h2)
    · exact fit_counted h3 h4
    · exact fit_name (nh hd h5)
  | look n m g p =>
    obtain ⟨h1, h2⟩ := h
    refine ⟨⟨fun i v x hv hx => ?_, nd1 _⟩, fun y hy => by rw [List.mem_singleton.mp hy]; exact np p h2⟩
    have hz := zip_at hv hx
    simp only [Ent.parts, Ent.sorts, Ent.rest, List.zip_cons_cons, List.zip_nil_left, List.mem_cons, List.not_mem_nil, or_false, Prod.mk.injEq] at hz
    rcases hz with ⟨rfl, rfl⟩ | ⟨rfl, rfl⟩ | ⟨rfl, rfl⟩ | ⟨rfl, rfl⟩
    · exact fit_name nn
    · exact fit_moment m0 m1
    · exact fit_name (ng g h1)
    · exact fit_name (np p h2)
/-! ### the law's own places -/
theorem name_ok {y : Str} (h : nameB y = true) : PyData.strOk y = true := by
  have all : y.cps.toList.all signB = true := by
    unfold nameB at h
    rw [Bool.and_eq_true] at h
    exact h.2
  have low : ∀ c ∈ abc.cps.toList, c < 0x110000 := by decide +kernel
  unfold PyData.strOk
  rw [← Array.all_toList, List.all_eq_true]
  intro c hc
  exact decide_eq_true (low c (of_decide_eq_true (List.all_eq_true.mp all c hc)))
/-! ### entries told by their parts -/
def snB : V → Bool
  | .int _ => true
  | .str _ => true
  | _ => false
theorem vals_sn (e : Ent) : ∀ v ∈ e.vals, (∃ i, v = .int i) ∨ ∃ s, v = .str s := by
  have h : e.vals.all snB = true := by cases e <;> rfl
  intro v hv
  have := List.all_eq_true.mp h v hv
  cases v with
  | int i => exact .inl ⟨i, rfl⟩
  | str s => exact .inr ⟨s, rfl⟩
  | _ => exact nomatch this
theorem wno {a b : String} (h : (Str.ofString a == Str.ofString b) = false) : ¬ (Str.ofString a = Str.ofString b) := fun e => by rw [e] at h; exact absurd (beq_self_eq_true (Str.ofString b)) (by rw [h]; exact fun z => nomatch z)
theorem vals_inj {e f : Ent} (h : e.vals = f.vals) : e = f := by
  have w2 : ∀ x ∈ words7, ∀ y ∈ words7, V.str x = V.str y → x = y := fun x _ y _ z => V.str.inj z
  have hw : e.word = f.word := by
    have := (List.cons.inj h).1
    exact V.str.inj this
  cases e <;> cases f <;> first
    | (simpa [Ent.vals, Ent.rest, Ent.name, Ent.moment, Ent.word] using h)
    | (exact absurd hw (wno (by decide +kernel)))
/-! ### is_entry, asked of anything -/
/-- a thing of the usual kinds -/
inductive Thg (H : Hp) : V → Prop where
  | str (z : Str) (h : z.length ≤ 1000) : Thg H (.str z)
  | int (i : Int) : Thg H (.int i)
  | bl (b : Bool) : Thg H (.bl b)
  | non : Thg H .non
  | lst {a : Addr} {xs : List V} (h : H a = some (.lst xs)) : Thg H (.ref a)
  | tup {a : Addr} {xs : List V} (h : H a = some (.tup xs)) : Thg H (.ref a)
  | dct {a : Addr} {kvs : List (Key × V)} (h : H a = some (.dK kvs)) : Thg H (.ref a)
theorem Thg.on {H H' : Hp} {v : V} (k : ∀ a o, v = .ref a → H a = some o → (∀ ps, o ≠ .tbl ps) → H' a = some o) (t : Thg H v) : Thg H' v := by
  cases t with
  | str z h => exact .str z h
  | int i => exact .int i
  | bl b => exact .bl b
  | non => exact .non
  | lst h => exact .lst (k _ _ rfl h fun ps z => nomatch z)
  | tup h => exact .tup (k _ _ rfl h fun ps z => nomatch z)
  | dct h => exact .dct (k _ _ rfl h fun ps z => nomatch z)
theorem Thg.of_part {H : Hp} {v : V} (p : Part v) : Thg H v := by
  rcases p with ⟨z, rfl, h⟩ | ⟨i, rfl⟩
  · exact .str z h
  · exact .int i
/-- the built-in kind of a thing -/
theorem Thg.ty {K : PySem.W.Frag} {H : Hp} {v : V} (t : Thg H v) : ∃ n : String, TyX K H v (.type n) ∧ n ∈ ["str", "int", "bool", "NoneType", "list", "tuple", "dict"] ∧ (n = "str" ↔ ∃ z, v = .str z) ∧ (n = "tuple" ↔ ∃ a xs, v = .ref a ∧ H a = some (.tup xs)) := by
  have no : ∀ {p q : Prop}, ¬ p → ¬ q → (p ↔ q) := fun a b => ⟨fun x => absurd x a, fun x => absurd x b⟩
  cases t with
  | str z h => exact ⟨"str", .base (.str z), by decide, ⟨fun _ => ⟨z, rfl⟩, fun _ => rfl⟩, no (by decide) (fun ⟨_, _, e, _⟩ => nomatch e)⟩
  | int i => exact ⟨"int", .base (.int i), by decide, no (by decide) (fun ⟨_, e⟩ => nomatch e), no (by decide) (fun ⟨_, _, e, _⟩ => nomatch e)⟩
  | bl b => exact ⟨"bool", .base (.bl b), by decide, no (by decide) (fun ⟨_, e⟩ => nomatch e), no (by decide) (fun ⟨_, _, e, _⟩ => nomatch e)⟩
  | non => exact ⟨"NoneType", .base .non, by decide, no (by decide) (fun ⟨_, e⟩ => nomatch e), no (by decide) (fun ⟨_, _, e, _⟩ => nomatch e)⟩
  | lst h => exact ⟨"list", .base (.lst h), by decide, no (by decide) (fun ⟨_, e⟩ => nomatch e), no (by decide) (fun ⟨_, _, e, h2⟩ => by cases e; rw [h] at h2; exact nomatch h2)⟩
  | tup h => exact ⟨"tuple", .base (.tup h), by decide, no (by decide) (fun ⟨_, e⟩ => nomatch e), ⟨fun _ => ⟨_, _, rfl, h⟩, fun _ => rfl⟩⟩
  | dct h => exact ⟨"dict", .base (.dK h), by decide, no (by decide) (fun ⟨_, e⟩ => nomatch e), no (by decide) (fun ⟨_, _, e, h2⟩ => by cases e; rw [h] at h2; exact nomatch h2)⟩
theorem kit_str {n : String} (m : n ∈ ["str", "int", "bool", "NoneType", "list", "tuple", "dict"]) : kitB n "str" = some (decide (n = "str")) := by
  simp only [List.mem_cons, List.not_mem_nil, or_false] at m
  rcases m with rfl | rfl | rfl | rfl | rfl | rfl | rfl <;> decide +kernel
theorem kit_tup {n : String} (m : n ∈ ["str", "int", "bool", "NoneType", "list", "tuple", "dict"]) : kitB n "tuple" = some (decide (n = "tuple")) := by
  simp only [List.mem_cons, List.not_mem_nil, or_false] at m
  rcases m with rfl | rfl | rfl | rfl | rfl | rfl | rfl <;> decide +kernel
namespace EqE
open PySem PySem.Spec in
theorem no_str (t : Str) (u : Tok) (l : Addr) (es : Array DictEntry) (n : Nat) (od : Option Addr) (sl : Array (Option Value)) :
    Meets (Builtin.«str.__eq__» ⟨[.str t u, .ref l], []⟩) (fun _ R z => z.heap.get? l = some ⟨.type "dict", od, .dict es n, sl⟩ ∧ R (.ok (.ret .notImplemented)) z) := by
  refine .of_wp fun prog w A R z h => ?_
  obtain ⟨hp, g, d, tk, os⟩ := z
  obtain ⟨hl, h⟩ := h
  wp_walk using wpAny_loadPart' hl, wpAny_load hl
  exact ⟨_, rfl, h⟩
theorem no_dict (t : Str) (u : Tok) (l : Addr) (es : Array DictEntry) (n : Nat) (od : Option Addr) (sl : Array (Option Value)) :
    Meets (Builtin.«dict.__eq__» ⟨[.ref l, .str t u], []⟩) (fun _ R z => z.heap.get? l = some ⟨.type "dict", od, .dict es n, sl⟩ ∧ R (.ok (.ret .notImplemented)) z) := by
  refine .of_wp fun prog w A R z h => ?_
  obtain ⟨hp, g, d, tk, os⟩ := z
  obtain ⟨hl, h⟩ := h
  have f1 := F.sub_str_dict
  wp_walk using wpAny_loadPart' hl, wpAny_load hl
  exact ⟨_, rfl, h⟩
theorem dict_txt {prog : Program} {w : World} {A : Around} {E : Value → Shared → Prop} {z : Shared} {Q : Value → Shared → Prop} {t : Str} {u : Tok} {l : Addr} {es : Array DictEntry} {n : Nat} {od : Option Addr} {sl : Array (Option Value)} (ho : z.heap.get? l = some ⟨.type "dict", od, .dict es n, sl⟩) (hu : A.units < cLine) (h : Q (.bool false) z) :
    wpAny (model prog w) A (compareOp .Eq (.ref l) (.str t u)) Q E z :=
  SeqAt.rc_eq_decline_or (k := false) ⟨_, ho, rfl⟩ (typeIs_str z t u) (by decide) F.sub_str_dict F.slot_dict_eq F.slot_str_eq_refl
    (fun _ hq => call_meets F.slot_dict_eq ⟨_, ho, rfl⟩ F.entry_dict_eq (F.args_dict_eq_2 _ _) (no_dict t u l es n od sl) ⟨ho, hq⟩)
    (fun _ hq => call_meets F.slot_str_eq_refl (typeIs_str z t u) F.entry_str_eq (F.args_str_eq_2 _ _) (no_str t u l es n od sl) ⟨ho, hq⟩)
    (fun _ hq => wpAny_of_eq (rfl : isSame (.ref l) (.str t u) = pure false) hq) (.inr hu) h
def rEqE : R2 := fun x y G W => ∃ s, y = V.str s ∧ Thg G x ∧ W (V.bl (decide (x = V.str s))) G
theorem op_eqE {X : Cx} (hu : X.A.units + 64 < cLine) : OpR X (compareOp .Eq) rEqE := by
  rintro pins z τ G x y v u W I rx ry ⟨s, rfl, th, q⟩
  obtain ⟨t, rfl⟩ : ∃ t, u = Value.str s t := ry
  cases th with
  | str z' h => exact op_eq pins z τ G (V.str z') (V.str s) v _ W I rx ⟨t, rfl⟩ ⟨rfl, q⟩
  | int i => exact op_eq pins z τ G (V.int i) (V.str s) v _ W I rx ⟨t, rfl⟩ ⟨rfl, q⟩
  | bl i => exact op_eq pins z τ G (V.bl i) (V.str s) v _ W I rx ⟨t, rfl⟩ ⟨rfl, q⟩
  | non => exact op_eq pins z τ G V.non (V.str s) v _ W I rx ⟨t, rfl⟩ ⟨rfl, q⟩
  | @lst a xs h =>
    obtain rfl : v = Value.ref a := rx
    rw [decide_eq_false fun q => nomatch q] at q
    obtain ⟨its, rv, pl, hz⟩ := I.list (SqL.of h)
    exact SeqAt.RcAt.list_str s t pl.isList (by omega) _ _ _ _ ⟨.bl false, G, I, rfl, q⟩
  | @tup a xs h =>
    obtain rfl : v = Value.ref a := rx
    rw [decide_eq_false fun q => nomatch q] at q
    obtain ⟨its, rv, pl, hz⟩ := I.tuple (SqT.of h)
    exact SeqAt.RcAt.tuple_str s t pl (by omega) _ _ _ _ ⟨.bl false, G, I, rfl, q⟩
  | @dct a kvs h =>
    obtain rfl : v = Value.ref a := rx
    rw [decide_eq_false fun q => nomatch q] at q
    obtain ⟨_, _, vs, _, o, es, ep, h1, h2, h3, _⟩ := (show ObjOk X.prog X.w G z.heap a (.dK kvs) from I.hok a _ h)
    obtain ⟨oc, od, dt, sl⟩ := o
    have z1 := h2.1
    dsimp only at z1 h3
    subst z1 h3
    exact dict_txt h1 (by omega) ⟨.bl false, G, I, rfl, q⟩
end EqE
/-- the words of the forms alone are keys -/
theorem forms_only {K : PySem.W.Frag} {a : Addr} {es : Array DictEntry} {n : Nat} (h : K.lookup a = some ⟨.type "dict", none, .dict es n, #[]⟩) (k : (es.toList.all fun e => match e.key with | .str s _ => words7.any fun y => s == y | _ => false) = true) (z : Str) (nz : z ∉ words7) : PySem.W.nsIn K a z = some none := by
  have all := List.all_eq_true.mp k
  have ks : ∀ e ∈ es.toList, ∃ s t, e.key = .str s t ∧ s ∈ words7 := fun e he => by
    have := all e he
    cases ek : e.key with
    | str s t =>
      rw [ek] at this
      obtain ⟨y, hy, e2⟩ := List.any_eq_true.mp this
      exact ⟨s, t, rfl, by rw [eq_of_beq e2]; exact hy⟩
    | _ => rw [ek] at this; exact nomatch this
  unfold PySem.W.nsIn
  rw [h]
  dsimp only
  have f1 : es.toList.find? (fun e => e.key.isStr z) = none := by
    rw [List.find?_eq_none]
    intro e he q
    obtain ⟨s, t, ek, hs⟩ := ks e he
    rw [ek] at q
    have q2 : (s == z) = true := q
    exact nz (by rw [← eq_of_beq q2]; exact hs)
  rw [f1]
  have f2 : es.toList.any (fun e => e.refKey) = false := by
    rw [List.any_eq_false]
    intro e he q
    obtain ⟨s, t, ek, hs⟩ := ks e he
    unfold DictEntry.refKey at q
    rw [ek] at q
    exact Bool.false_ne_true q
  dsimp only
  rw [f2]
  rfl
def spWholeA : Sp := fun vs H Q _ => ∃ v : V, vs = [v] ∧ Thg H v ∧ Q (.bl (match v with | .int _ => true | _ => false)) H
def spFitsA (T1 : Addr) : Sp := fun vs H Q _ => ∃ (v : V) (x : Str), vs = [v, .str x] ∧ Thg H v ∧ x ∈ sorts6 ∧ GxR.TabG H T1 ∧ ∀ H', GxR.Tabbed T1 H H' → Q (.bl (fitB v x)) H'
/-- the parts of an entry -/
def IsE (xs : List V) : Prop := ∃ e : Ent, e.Fine ∧ xs = e.vals
/-- what is an entry, and what is none -/
def spIsEntryA (T1 T2 : Addr) : Sp := fun vs H Q _ => ∃ v : V, vs = [v] ∧ GxR.TabG H T1 ∧ GxR.TabG H T2 ∧
  ((Thg H v ∧ (∀ a xs, v = .ref a → H a ≠ some (.tup xs)) ∧ ∀ H', TB2 T1 T2 H H' → Q (.bl false) H') ∨
   ∃ (a : Addr) (xs : List V), v = .ref a ∧ H a = some (.tup xs) ∧ xs.length ≤ 1000 ∧ (∀ x ∈ xs, Thg H x) ∧ (IsE xs → ∀ H', TB2 T1 T2 H H' → Q (.bl true) H') ∧ (¬ IsE xs → ∀ H', TB2 T1 T2 H H' → Q (.bl false) H'))
theorem vals_len (e : Ent) : e.vals.length = e.sorts.length + 1 := by cases e <;> rfl
theorem sorts_word {e f : Ent} (h : e.word = f.word) : e.sorts = f.sorts := by
  cases e <;> cases f <;> first
    | rfl
    | (exact absurd h (wno (by decide +kernel)))
theorem word_of {z : Str} (h : z ∈ words7) : ∃ e : Ent, e.word = z := by
  simp only [words7, List.mem_cons, List.not_mem_nil, or_false] at h
  rcases h with rfl | rfl | rfl | rfl | rfl | rfl | rfl
  · exact ⟨.come "" 0 "" "" 0 0, rfl⟩
  · exact ⟨.go "" 0 "" "" 0, rfl⟩
  · exact ⟨.move "" 0 "" "" "" 0, rfl⟩
  · exact ⟨.some_ "" 0 "" "" "", rfl⟩
  · exact ⟨.swap "" 0 "" "", rfl⟩
  · exact ⟨.count "" 0 "" "" 0 "", rfl⟩
  · exact ⟨.look "" 0 "" "", rfl⟩
theorem fit_str {v : V} {x : Str} (h : fitB v x = true) (hx : x = "name" ∨ x = "end") : ∃ s, v = .str s := by
  rcases hx with rfl | rfl
  · unfold fitB at h
    rw [if_pos rfl] at h
    cases v with
    | str s => exact ⟨s, rfl⟩
    | _ => exact nomatch h
  · unfold fitB at h
    rw [if_neg ken, if_pos rfl] at h
    cases v with
    | str s => exact ⟨s, rfl⟩
    | int i => simp [nmV] at h
    | bl i => simp [nmV] at h
    | non => simp [nmV] at h
    | ref i => simp [nmV] at h
    | _ => simp [nmV] at h
theorem fit_int {v : V} {x : Str} (h : fitB v x = true) (hx : x ∈ sorts4) : ∃ i, v = .int i := by
  have n1 : x ≠ "name" ∧ x ≠ "end" := by
    simp only [sorts4, List.mem_cons, List.not_mem_nil, or_false] at hx
    rcases hx with rfl | rfl | rfl | rfl
    · exact ⟨kmn, kme⟩
    · exact ⟨kyn, kye⟩
    · exact ⟨kcn, kce⟩
    · exact ⟨kpn, kpe⟩
  unfold fitB at h
  rw [if_neg n1.1, if_neg n1.2] at h
  cases v with
  | int i => exact ⟨i, rfl⟩
  | _ => exact nomatch h
theorem fit_part {H : Hp} {v : V} {x : Str} (t : Thg H v) (h : fitB v x = true) (hx : x ∈ sorts6) : Part v := by
  have : (∃ s, v = .str s) ∨ ∃ i, v = .int i := by
    simp only [sorts6, List.mem_cons, List.not_mem_nil, or_false] at hx
    rcases hx with rfl | rfl | rfl | rfl | rfl | rfl
    · exact .inl (fit_str h (.inl rfl))
    · exact .inl (fit_str h (.inr rfl))
    · exact .inr (fit_int h (by simp [sorts4]))
    · exact .inr (fit_int h (by simp [sorts4]))
    · exact .inr (fit_int h (by simp [sorts4]))
    · exact .inr (fit_int h (by simp [sorts4]))
  rcases this with ⟨s, rfl⟩ | ⟨i, rfl⟩
  · cases t with
    | str _ h => exact .inl ⟨s, rfl, h⟩
  · exact .inr ⟨i, rfl⟩
/-- parts that fit are those of an entry -/
theorem ent_of {f : Ent} {ps : List V} (l : ps.length = f.sorts.length) (h : ∀ (i : Nat) (v : V) (x : Str), ps[i]? = some v → f.sorts[i]? = some x → fitB v x = true) : ∃ e : Ent, e.word = f.word ∧ e.parts = ps := by
  have s : ∀ (i : Nat) (x : Str), f.sorts[i]? = some x → x = "name" ∨ x = "end" → ∃ s, ps[i]? = some (.str s) := fun i x hx k => by
    have lt : i < ps.length := by rw [l]; exact (List.getElem?_eq_some_iff.mp hx).1
    obtain ⟨s, e⟩ := fit_str (h i _ x (List.getElem?_eq_getElem lt) hx) k
    exact ⟨s, by rw [List.getElem?_eq_getElem lt, e]⟩
  have n : ∀ (i : Nat) (x : Str), f.sorts[i]? = some x → x ∈ sorts4 → ∃ j, ps[i]? = some (.int j) := fun i x hx k => by
    have lt : i < ps.length := by rw [l]; exact (List.getElem?_eq_some_iff.mp hx).1
    obtain ⟨s, e⟩ := fit_int (h i _ x (List.getElem?_eq_getElem lt) hx) k
    exact ⟨s, by rw [List.getElem?_eq_getElem lt, e]⟩
  have m4 : ("moment" : Str) ∈ sorts4 ∧ ("many" : Str) ∈ sorts4 ∧ ("counted" : Str) ∈ sorts4 ∧ ("price" : Str) ∈ sorts4 := by simp [sorts4]
  cases f with
  | come =>
    match ps, l with
    | [p0, p1, p2, p3, p4, p5], _ =>
      obtain ⟨a0, e0⟩ := s 0 _ rfl (.inl rfl); obtain ⟨a1, e1⟩ := n 1 _ rfl m4.1; obtain ⟨a2, e2⟩ := s 2 _ rfl (.inl rfl); obtain ⟨a3, e3⟩ := s 3 _ rfl (.inl rfl); obtain ⟨a4, e4⟩ := n 4 _ rfl m4.2.1; obtain ⟨a5, e5⟩ := n 5 _ rfl m4.2.2.2
      cases e0; cases e1; cases e2; cases e3; cases e4; cases e5
      exact ⟨.come a0 a1 a2 a3 a4 a5, rfl, rfl⟩
  | go =>
    match ps, l with
    | [p0, p1, p2, p3, p4], _ =>
      obtain ⟨a0, e0⟩ := s 0 _ rfl (.inl rfl); obtain ⟨a1, e1⟩ := n 1 _ rfl m4.1; obtain ⟨a2, e2⟩ := s 2 _ rfl (.inl rfl); obtain ⟨a3, e3⟩ := s 3 _ rfl (.inl rfl); obtain ⟨a4, e4⟩ := n 4 _ rfl m4.2.1
      cases e0; cases e1; cases e2; cases e3; cases e4
      exact ⟨.go a0 a1 a2 a3 a4, rfl, rfl⟩
  | move =>
    match ps, l with
    | [p0, p1, p2, p3, p4, p5], _ =>
      obtain ⟨a0, e0⟩ := s 0 _ rfl (.inl rfl); obtain ⟨a1, e1⟩ := n 1 _ rfl m4.1; obtain ⟨a2, e2⟩ := s 2 _ rfl (.inl rfl); obtain ⟨a3, e3⟩ := s 3 _ rfl (.inl rfl); obtain ⟨a4, e4⟩ := s 4 _ rfl (.inl rfl); obtain ⟨a5, e5⟩ := n 5 _ rfl m4.2.1
      cases e0; cases e1; cases e2; cases e3; cases e4; cases e5
      exact ⟨.move a0 a1 a2 a3 a4 a5, rfl, rfl⟩
  | some_ =>
    match ps, l with
    | [p0, p1, p2, p3, p4], _ =>
      obtain ⟨a0, e0⟩ := s 0 _ rfl (.inl rfl); obtain ⟨a1, e1⟩ := n 1 _ rfl m4.1; obtain ⟨a2, e2⟩ := s 2 _ rfl (.inl rfl); obtain ⟨a3, e3⟩ := s 3 _ rfl (.inl rfl); obtain ⟨a4, e4⟩ := s 4 _ rfl (.inr rfl)
      cases e0; cases e1; cases e2; cases e3; cases e4
      exact ⟨.some_ a0 a1 a2 a3 a4, rfl, rfl⟩
  | swap =>
    match ps, l with
    | [p0, p1, p2, p3], _ =>
      obtain ⟨a0, e0⟩ := s 0 _ rfl (.inl rfl); obtain ⟨a1, e1⟩ := n 1 _ rfl m4.1; obtain ⟨a2, e2⟩ := s 2 _ rfl (.inl rfl); obtain ⟨a3, e3⟩ := s 3 _ rfl (.inl rfl)
      cases e0; cases e1; cases e2; cases e3
      exact ⟨.swap a0 a1 a2 a3, rfl, rfl⟩
  | count =>
    match ps, l with
    | [p0, p1, p2, p3, p4, p5], _ =>
      obtain ⟨a0, e0⟩ := s 0 _ rfl (.inl rfl); obtain ⟨a1, e1⟩ := n 1 _ rfl m4.1; obtain ⟨a2, e2⟩ := s 2 _ rfl (.inl rfl); obtain ⟨a3, e3⟩ := s 3 _ rfl (.inl rfl); obtain ⟨a4, e4⟩ := n 4 _ rfl m4.2.2.1; obtain ⟨a5, e5⟩ := s 5 _ rfl (.inl rfl)
      cases e0; cases e1; cases e2; cases e3; cases e4; cases e5
      exact ⟨.count a0 a1 a2 a3 a4 a5, rfl, rfl⟩
  | look =>
    match ps, l with
    | [p0, p1, p2, p3], _ =>
      obtain ⟨a0, e0⟩ := s 0 _ rfl (.inl rfl); obtain ⟨a1, e1⟩ := n 1 _ rfl m4.1; obtain ⟨a2, e2⟩ := s 2 _ rfl (.inl rfl); obtain ⟨a3, e3⟩ := s 3 _ rfl (.inl rfl)
      cases e0; cases e1; cases e2; cases e3
      exact ⟨.look a0 a1 a2 a3, rfl, rfl⟩
theorem once_len_nd {e : Ent} (h : ¬ e.places.Nodup) : (once e.places).length ≠ e.places.length := by
  have two : ∀ o t : Str, ¬ [o, t].Nodup → (once [o, t]).length ≠ 2 := fun o t h => by
    have e : o = t := Classical.byContradiction fun z => h (List.nodup_cons.mpr ⟨fun q => z (List.mem_singleton.mp q), nd1 _⟩)
    subst e
    have : once [o, o] = [o] := by
      show (if ([o] : List Str).contains o = true then [o] else [o] ++ [o]) = [o]
      rw [if_pos (by simp)]
    rw [this]
    exact fun z => by cases z
  cases e with
  | some_ n m g o t =>
    by_cases z : t = ""
    · rw [show Ent.places (.some_ n m g o t) = [o] from if_pos z] at h
      exact absurd (nd1 _) h
    · rw [show Ent.places (.some_ n m g o t) = [o, t] from if_neg z] at h ⊢
      exact two o t h
  | move n m g o t k => exact two o t h
  | swap n m o t => exact two o t h
  | come => exact absurd (nd1 _) h
  | go => exact absurd (nd1 _) h
  | count => exact absurd (nd1 _) h
  | look => exact absurd (nd1 _) h
section
variable {P : Program} {w : World} {K : PySem.W.Frag} {mg : Str → Option Value} {base : Heap}
theorem ok_wholeA {f : Addr} {fd : FuncData} (F : Fun K "is_whole" "is_whole" sWhole f fd) (mi : mg "isinstance" = none) (m1 : mg "int" = none) (m2 : mg "bool" = none) : FnOk P w K mg base CX0 1 f fd ["thing"] spWholeA := by
  refine F.ok scWhole (fun vs H Q E h => ?_) (fun cdv A outer s H vs Q E hr h => ?_)
  · obtain ⟨v, rfl, _⟩ := h
    rfl
  · obtain ⟨v, rfl, pt, q⟩ := h
    refine ⟨_, pss_one (ps_ret (pe_and (pe_callB call_isi (by rfl) mi (by decide +kernel) (pa_cons (pv 0) (pa_cons (pe_bltn (v := .ty "int") (u := .type "int") (by rfl) m1 (by decide +kernel) rfl) pa_nil)))
      (pe_one (pe_not (pe_callB call_isi (by rfl) mi (by decide +kernel) (pa_cons (pv 0) (pa_cons (pe_bltn (v := .ty "bool") (u := .type "bool") (by rfl) m2 (by decide +kernel) rfl) pa_nil))))))), ?_⟩
    cases pt with
    | str z h => exact ⟨_, rfl, _, _, _, _, false, rfl, .ty "int", .base (.str z), kit_ty (by decide +kernel), _, rfl, iteF q⟩
    | int i => exact ⟨_, rfl, _, _, _, _, true, rfl, .ty "int", .base (.int i), kit_ty (by decide +kernel), _, rfl, iteT ⟨_, rfl, _, _, _, _, false, rfl, .ty "bool", .base (.int i), kit_ty (by decide +kernel), _, rfl, q⟩⟩
    | bl b => exact ⟨_, rfl, _, _, _, _, true, rfl, .ty "int", .base (.bl b), kit_ty (by decide +kernel), _, rfl, iteT ⟨_, rfl, _, _, _, _, true, rfl, .ty "bool", .base (.bl b), kit_ty (by decide +kernel), _, rfl, q⟩⟩
    | non => exact ⟨_, rfl, _, _, _, _, false, rfl, .ty "int", .base .non, kit_ty (by decide +kernel), _, rfl, iteF q⟩
    | lst h => exact ⟨_, rfl, _, _, _, _, false, rfl, .ty "int", .base (.lst h), kit_ty (by decide +kernel), _, rfl, iteF q⟩
    | tup h => exact ⟨_, rfl, _, _, _, _, false, rfl, .ty "int", .base (.tup h), kit_ty (by decide +kernel), _, rfl, iteF q⟩
    | dct h => exact ⟨_, rfl, _, _, _, _, false, rfl, .ty "int", .base (.dK h), kit_ty (by decide +kernel), _, rfl, iteF q⟩
theorem ok_fitsA {f fN fW aB T1 : Addr} {fd dN dW : FuncData} (F : Fun K "fits" "fits" sFits f fd) (N : DefT P w K mg base "is_name" 1 fN dN ["thing"] (spName K T1)) (W : DefT P w K mg base "is_whole" 1 fW dW ["thing"] spWholeA)
    (mB : mg "BOUNDS" = some (.ref aB)) (hB : ∀ x ∈ sorts4, ∃ aT, KDct K w aB x (.ref aT) ∧ ∀ H, SqT K H aT [.int (bnd x).1, .int (bnd x).2]) : FnOk P w K mg base CX0 2 f fd ["part", "sort"] (spFitsA T1) := by
  refine F.ok scFits (fun vs H Q E h => ?_) (fun cdv A outer s H vs Q E hr h => ?_)
  · obtain ⟨v, x, rfl, _⟩ := h
    rfl
  · obtain ⟨v, x, rfl, pt, hx, tg, q⟩ := h
    have nd := scFits.nd
    have hu64 := hr.units
    refine ⟨_, pss_cons (ps_if (pt_cmpR op_eq (pv 1) pe_str (nomark _)) (pss_one (ps_ret (pe_call N.ok hr (by rfl) N.g N.kp N.b .nil pass0 (pa_cons (pv 0) pa_nil)))) pss_nil)
      (pss_cons (ps_if (pt_cmpR op_eq (pv 1) pe_str (nomark _)) (pss_one (ps_ret (pe_or (pe_cmpR (EqE.op_eqE hu64) (pv 0) pe_str (nomark _)) (pe_one (pe_call N.ok hr (by rfl) N.g N.kp N.b .nil pass0 (pa_cons (pv 0) pa_nil)))))) pss_nil)
      (pss_cons (ps_asg (pe_ix ix_kdict (pe_glob (v := .ref aB) rfl mB rfl) (pv 1) (fun _ _ => rfl)) (pg_tup (by rfl) (pgs_cons (pg_name (i := 2) nd rfl (Or.inl rfl)) (pgs_cons (pg_name (i := 3) nd rfl (Or.inl rfl)) pgs_nil))))
      (pss_one (ps_ret (pe_and (pe_call W.ok hr (by rfl) W.g W.kp W.b .nil pass0 (pa_cons (pv 0) pa_nil)) (pe_one (pe_chain op_le op_le (pv 2) (pv 0) (pv 3)))))))), ?_⟩
    have same0 : GxR.Tabbed T1 H H := ⟨tg, fun _ _ => rfl⟩
    -- is_name of the part
    have nm : ∀ (Q1 : VK), (∀ H2, GxR.Tabbed T1 H H2 → Q1 (.bl (nmV v)) H2) → spName K T1 ([v] ++ []) H Q1 E0 := fun Q1 h1 => by
      obtain ⟨n, ty, m, st, _⟩ := pt.ty (K := K)
      by_cases z : n = "str"
      · obtain ⟨s, rfl⟩ := st.mp z
        cases pt with
        | str _ lz => exact ⟨_, rfl, tg, .inl ⟨s, rfl, small_sz lz, h1⟩⟩
      · have e : nmV v = false := by
          cases v with
          | str s => exact absurd (st.mpr ⟨s, rfl⟩) z
          | _ => rfl
        rw [e] at h1
        exact ⟨_, rfl, tg, .inr ⟨n, ty, by rw [kit_str m, decide_eq_false z], h1 H same0⟩⟩
    refine ⟨_, rfl, rfl, _, rfl, ite2 (fun e => ?_) (fun e => ?_)⟩
    · have e' : x = "name" := V.str.inj (of_decide_eq_true e)
      refine ⟨_, rfl, nm _ fun H2 tb => ?_⟩
      have z := q H2 tb
      unfold fitB at z
      rw [if_pos e'] at z
      exact z
    · have e1 : ¬ x = "name" := fun h => e (decide_eq_true (congrArg V.str h))
      refine ⟨_, rfl, rfl, _, rfl, ite2 (fun e => ?_) (fun e => ?_)⟩
      · have e' : x = "end" := V.str.inj (of_decide_eq_true e)
        have fe : fitB v x = (decide (v = .str "") || nmV v) := by
          unfold fitB
          rw [if_neg e1, if_pos e']
        rw [fe] at q
        refine ⟨_, rfl, _, rfl, pt, decide (v = .str ""), rfl, ?_⟩
        cases hd : decide (v = V.str "") with
        | true =>
          rw [hd] at q
          exact iteT (q H same0)
        | false =>
          rw [hd] at q
          exact iteF ⟨_, rfl, nm _ fun H2 tb => q H2 tb⟩
      · have e2 : ¬ x = "end" := fun h => e (decide_eq_true (congrArg V.str h))
        have x4 : x ∈ sorts4 := by
          simp only [sorts6, sorts4, List.mem_cons, List.not_mem_nil, or_false] at hx ⊢
          rcases hx with h | h | h | h | h | h
          · exact absurd h e1
          · exact absurd h e2
          · exact .inl h
          · exact .inr (.inl h)
          · exact .inr (.inr (.inl h))
          · exact .inr (.inr (.inr h))
        obtain ⟨aT, kd, sq⟩ := hB x x4
        have fe : fitB v x = inB x v := by
          unfold fitB
          rw [if_neg e1, if_neg e2]
        rw [fe] at q
        have q0 := q H same0
        refine ⟨_, rfl, aB, x, _, rfl, rfl, kd, aT, _, rfl, sq H, rfl, _, _, rfl, _, _, rfl, rfl, _, rfl, v, rfl, pt, ?_⟩
        cases v with
        | int i =>
          refine ⟨_, rfl, iteT ⟨_, rfl, _, rfl, (bnd x).1, i, rfl, rfl, _, rfl, ite2 (fun a1 => ?_) (fun a1 => ?_)⟩⟩
          · refine ⟨_, rfl, i, (bnd x).2, rfl, rfl, ?_⟩
            have z : inB x (.int i) = decide (i ≤ (bnd x).2) := by
              show (decide ((bnd x).1 ≤ i) && decide (i ≤ (bnd x).2)) = _
              rw [a1, Bool.true_and]
            rw [z] at q0
            exact q0
          · have z : inB x (.int i) = false := by
              show (decide ((bnd x).1 ≤ i) && decide (i ≤ (bnd x).2)) = _
              rw [Bool.eq_false_iff.mpr a1, Bool.false_and]
            rw [z] at q0
            exact q0
        | _ => exact ⟨_, rfl, iteF q0⟩
theorem ok_isEntryA {f cE T1 T2 aF fF fP : Addr} {dF dP : FuncData} {oc kV doc pm ct : Value} {od an : Option Addr} {osl : Array (Option Value)} {es : Array DictEntry} {nE : Nat}
    (lk : K.lookup f = some ⟨oc, od, .func (PySem.W.fnOf "is_entry" "is_entry" (defArgs sIsEntry) (defBody sIsEntry) (defScope sIsEntry) .none kV doc pm an (.ref cE) ct), osl⟩) (cdI : PySem.W.codeIn K (.ref cE) "is_entry" = true)
    (TB : GxR.TabB base mg cE T2) (ne : T1 ≠ T2) (FI : DefT P w K mg base "fits" 2 fF dF ["part", "sort"] (spFitsA T1)) (PO : DefT P w K mg base "places_of" 1 fP dP ["entry"] spPlaces)
    (mi : mg "isinstance" = none) (mt : mg "tuple" = none) (ml : mg "len" = none) (mst : mg "str" = none) (ma : mg "all" = none) (mz : mg "zip" = none) (ms : mg "set" = none) (mF : mg "FORMS" = some (.ref aF)) (D : KDict K w aF es nE)
    (hF : ∀ e : Ent, ∃ aS, KDct K w aF e.word (.ref aS) ∧ ∀ H, SqT K H aS (e.sorts.map V.str)) (hO : ∀ z : Str, z ∉ words7 → PySem.W.nsIn K aF z = some none) :
    FnOk P w K mg base CX0 4 f (PySem.W.fnOf "is_entry" "is_entry" (defArgs sIsEntry) (defBody sIsEntry) (defScope sIsEntry) .none kV doc pm an (.ref cE) ct) ["thing"] (spIsEntryA T1 T2) := by
  refine fn_of lk cdI scIs (fun vs H Q E h => ?_) (fun A outer s H vs Q E hr h => ?_)
  · obtain ⟨v, rfl, _⟩ := h
    rfl
  · obtain ⟨v, rfl, t1, t2, h⟩ := h
    have nd := scIs.nd
    have hr1 : Room 1 _ := hr.mono (by decide)
    refine ⟨_, pss_cons (ps_if (PW.pt (pw_or (pt_not (pt_val (pe_callB call_isi (by rfl) mi (by decide +kernel) (pa_cons (pv 0) (pa_cons (pe_bltn (v := .ty "tuple") (u := .type "tuple") (by rfl) mt (by decide +kernel) rfl) pa_nil)))))
          (pw_or1 (pt_cmpR op_eq (pe_callB call_len_seq (by rfl) ml PySem.boot_len (pa_cons (pv 0) pa_nil)) pe_int (nomark _))))) (pss_one (ps_ret pe_bl)) pss_nil)
      (pss_cons (ps_if (PW.pt (pw_or (pt_not (pt_val (pe_callB call_isi (by rfl) mi (by decide +kernel) (pa_cons (pe_ix ix_tup (pv 0) pe_int (fun _ _ => rfl)) (pa_cons (pe_bltn (v := .ty "str") (u := .type "str") (by rfl) mst (by decide +kernel) rfl) pa_nil)))))
          (pw_or1 (pt_cmpR (op_notIn_kd D) (pe_ix ix_tup (pv 0) pe_int (fun _ _ => rfl)) (pe_glob (v := .ref aF) rfl mF rfl) (by rfl))))) (pss_one (ps_ret pe_bl)) pss_nil)
      (pss_cons (ps_set (i := 1) nd rfl (Or.inl rfl) (pe_ix ix_kdict (pe_glob (v := .ref aF) rfl mF rfl) (pe_ix ix_tup (pv 0) pe_int (fun _ _ => rfl)) (fun _ _ => rfl)))
      (pss_cons (ps_if (pt_cmpR op_ne (pe_callB call_len_seq (by rfl) ml PySem.boot_len (pa_cons (pv 0) pa_nil)) (pe_op op_add (pe_callB call_len_seq (by rfl) ml PySem.boot_len (pa_cons (pv 1) pa_nil)) pe_int) (nomark _)) (pss_one (ps_ret pe_bl)) pss_nil)
      (pss_cons (ps_if (pt_not (pt_val (pe_allG (T := T2) (c := cE) (k := 2) (own := [("part", 3), ("sort", 4)]) (g := gTup K 2 (gCons (gName 3) (gCons (gName 4) gNil))) (tt := tYes) (te := tCall (spFitsA T1) [] E0 (tCons (tVar 3) (tCons (tVar 4) tNil)))
          hr (by rfl) ma rfl nd TB rfl ⟨blkOk_by (N := isN) (sc := defScope sIsEntry) (by decide +kernel), rfl, by decide +kernel, rfl⟩
          (RZ.pi_zipA (by rfl) mz (pa_cons (pe_slice sl_tup (pv 0) (po_some pe_int) po_none) (pa_cons (pv 1) pa_nil)))
          (fun _ _ _ _ _ _ => pg_tup (by rfl) (pgs_cons (pg_name (i := 3) nd rfl (Or.inl rfl)) (pgs_cons (pg_name (i := 4) nd rfl (Or.inl rfl)) pgs_nil)))
          (fun _ _ _ _ _ _ _ => pts_nil) (fun _ _ _ _ _ _ hr' => pe_call FI.ok hr' (by rfl) FI.g FI.kp FI.b .nil pass0 (pa_cons (pv 3) (pa_cons (pv 4) pa_nil)))))) (pss_one (ps_ret pe_bl)) pss_nil)
      (pss_cons (ps_set (i := 2) nd rfl (Or.inl rfl) (pe_call PO.ok hr1 (by rfl) PO.g PO.kp PO.b .nil pass0 (pa_cons (pv 0) pa_nil)))
      (pss_one (ps_ret (pe_cmpR op_eq (pe_lenSetX rfl (by rfl) ml (by rfl) ms (pv 2)) (pe_callB call_len_seq (by rfl) ml PySem.boot_len (pa_cons (pv 2) pa_nil)) (nomark _))))))))), ?_⟩
    have tb0 : TB2 T1 T2 H H := TB2.same t1 t2 fun _ _ e => e
    rcases h with ⟨th, nt, q⟩ | ⟨a, xs, rfl, ha, lx, hT, qT, qF⟩
    · obtain ⟨n, ty, m, _, tt⟩ := th.ty (K := K)
      have nn : n ≠ "tuple" := fun z => by
        obtain ⟨a, xs, e, h2⟩ := tt.mp z
        exact nt a xs e h2
      exact ⟨_, rfl, _, _, _, _, false, rfl, .ty "tuple", ty, kit_ty (by rw [kit_tup m, decide_eq_false nn]), _, rfl, iteT (q H tb0)⟩
    -- a tuple
    refine ⟨_, rfl, _, _, _, _, true, rfl, .ty "tuple", .base (.tup ha), kit_ty (by decide +kernel), _, rfl, iteF ?_⟩
    match xs, ha, lx, hT, qT, qF with
    | [], ha, lx, hT, qT, qF =>
      refine ⟨_, rfl, a, _, rfl, .inr (SqT.of ha), rfl, true, rfl, iteT (qF ?_ H tb0)⟩
      rintro ⟨e, _, h⟩
      exact nomatch h
    | x0 :: ps, ha, lx, hT, qT, qF =>
    refine ⟨_, rfl, a, _, rfl, .inr (SqT.of ha), rfl, false, congrArg V.bl (decide_eq_false fun z => ?_), iteF ?_⟩
    · have z' : (((x0 :: ps).length : Nat) : Int) = 0 := V.int.inj z
      rw [List.length_cons] at z'
      omega
    have at0x : atI (x0 :: ps) 0 = some x0 := atI_nat (j := 0) rfl
    obtain ⟨n0, ty0, m0, st0, _⟩ := (hT x0 List.mem_cons_self).ty (K := K)
    by_cases zs : n0 = "str"
    rotate_left
    · refine ⟨_, rfl, a, _, 0, _, rfl, rfl, SqT.of ha, at0x, _, _, _, _, false, rfl, .ty "str", ty0, kit_ty (by rw [kit_str m0, decide_eq_false zs]), _, rfl, iteT (qF ?_ H tb0)⟩
      rintro ⟨e, _, h⟩
      exact zs (st0.mpr ⟨e.word, (List.cons.inj h).1⟩)
    obtain ⟨z, rfl⟩ := st0.mp zs
    refine ⟨_, rfl, a, _, 0, _, rfl, rfl, SqT.of ha, at0x, _, _, _, _, true, rfl, .ty "str", ty0, kit_ty (by rw [kit_str m0, decide_eq_true zs]), _, rfl, iteF ?_⟩
    by_cases zw : z ∈ words7
    rotate_left
    · refine ⟨_, rfl, a, _, 0, _, rfl, rfl, SqT.of ha, at0x, z, none, rfl, rfl, hO z zw, _, rfl, iteT (qF ?_ H tb0)⟩
      rintro ⟨e, _, h⟩
      have : z = e.word := V.str.inj (List.cons.inj h).1
      exact zw (this ▸ e.word_in)
    obtain ⟨f0, rfl⟩ := word_of zw
    obtain ⟨aS, kd, sq⟩ := hF f0
    obtain ⟨es', n', u, hl, hlit, hns, ru⟩ := id kd
    refine ⟨_, rfl, a, _, 0, _, rfl, rfl, SqT.of ha, at0x, f0.word, some u, rfl, rfl, hns, _, rfl, iteF ?_⟩
    refine ⟨_, rfl, a, _, 0, _, rfl, rfl, SqT.of ha, at0x, aF, f0.word, _, rfl, rfl, kd, ?_⟩
    by_cases ll : ps.length = f0.sorts.length
    rotate_left
    · refine ⟨_, rfl, a, _, rfl, .inr (SqT.of ha), _, rfl, aS, _, rfl, .inr (sq H), _, 1, rfl, rfl, rfl, true, ?_, iteT (qF ?_ H tb0)⟩
      · refine congrArg V.bl ?_
        have l1 : ¬ ((((V.str f0.word) :: ps).length : Nat) : Int) = ((f0.sorts.map V.str).length : Int) + 1 := by
          rw [List.length_cons, List.length_map]
          omega
        rw [decide_eq_false fun q => l1 (V.int.inj q)]
        rfl
      · rintro ⟨e, _, h⟩
        have w0 : e.word = f0.word := V.str.inj (List.cons.inj h).1.symm
        have := congrArg List.length h
        rw [vals_len, sorts_word w0, List.length_cons] at this
        omega
    refine ⟨_, rfl, a, _, rfl, .inr (SqT.of ha), _, rfl, aS, _, rfl, .inr (sq H), _, 1, rfl, rfl, rfl, false, ?_, iteF ?_⟩
    · refine congrArg V.bl ?_
      have l1 : ((((V.str f0.word) :: ps).length : Nat) : Int) = ((f0.sorts.map V.str).length : Int) + 1 := by
        rw [List.length_cons, List.length_map, ll]
        rfl
      rw [l1, decide_eq_true rfl]
      rfl
    -- all fit
    have cut : cutV ((V.str f0.word) :: ps) (some 1) none = ps := by
      have h : cutV ((V.str f0.word) :: ps) (some ((1 : Nat) : Int)) none = ps := by
        unfold cutV
        rw [HT.sIx_nat, HT.sIx_none, Nat.min_eq_left (by rw [List.length_cons]; omega)]
        show ps.take (ps.length + 1 - 1) = ps
        rw [Nat.add_sub_cancel]
        exact List.take_length
      exact h
    refine ⟨_, rfl, 1, rfl, a, _, rfl, SqT.of ha, ?_, fun pp npp => ?_⟩
    · rintro ⟨z, _⟩
      rw [show HT.sIx ((V.str f0.word) :: ps).length 0 (some 1) = min 1 ((V.str f0.word) :: ps).length from HT.sIx_nat _ _ 1, List.length_cons] at z
      omega
    rw [cut]
    have sp := @same_new _ _ (.tup ps) npp
    have hpp := @upd_same H pp (.tup ps)
    generalize upd H pp (.tup ps) = H1 at sp hpp ⊢
    refine ⟨_, rfl, pp, aS, ps, f0.sorts.map V.str, rfl, .inr ⟨SqT.of hpp, sq _, tabg_same sp t2, fun H2 tb2 => ?_⟩⟩
    have b0 : TB2 T1 T2 H H2 := (TB2.same t1 t2 sp).tr (.two ne (tabg_same sp t1) tb2)
    have b1 : TB2 T1 T2 H1 H2 := .two ne (tabg_same sp t1) tb2
    have hp2 : H2 pp = some (.tup ps) := b1.keep (tabg_same sp t1) (tabg_same sp t2) hpp (by intro ps z; cases z)
    refine ⟨fun i m H' => m = ps.length - i ∧ i ≤ ps.length ∧ H' pp = some (.tup ps) ∧ TB2 T1 T2 H H' ∧ ∀ (j : Nat) (v : V) (x : Str), j < i → ps[j]? = some v → f0.sorts[j]? = some x → fitB v x = true, ⟨_, rfl, Nat.zero_le _, hp2, b0, fun j v x hj => absurd hj (Nat.not_lt_zero _)⟩, ?_⟩
    rintro i m H3 ⟨rfl, hi, hp3, b3, hfit⟩
    by_cases lt : i < ps.length
    · refine .inr ⟨⟨ps, f0.sorts.map V.str, ps[i], .str (f0.sorts[i]'(by rw [← ll]; exact lt)), SqT.of hp3, sq _, List.getElem?_eq_getElem lt, ?_⟩, fun v H4 y => ?_⟩
      · rw [List.getElem?_map, List.getElem?_eq_getElem (by rw [← ll]; exact lt)]
        rfl
      · obtain ⟨TT, x', y', rfl, nT, rfl, f1, f2⟩ := y
        have g1 := f1 ps (SqT.of hp3)
        have g2 := f2 (f0.sorts.map V.str) (sq _)
        rw [List.getElem?_map] at g2
        obtain ⟨srt, hsrt, rfl⟩ := Option.map_eq_some_iff.mp g2
        have s4 := @same_new _ _ (.tup [x', V.str srt]) nT
        have b4 : TB2 T1 T2 H (upd H3 TT (.tup [x', V.str srt])) := b3.tr (.same b3.2.1 b3.2.2 s4)
        have hx' : Thg (upd H3 TT (.tup [x', V.str srt])) x' := (hT x' (List.mem_cons_of_mem _ (List.mem_of_getElem? g1))).on fun a' o' _ e' n' => b4.keep t1 t2 e' n'
        refine ⟨TT, _, rfl, SqT.of upd_same, rfl, _, _, rfl, _, _, rfl, rfl, rfl, yesT ?_⟩
        refine ⟨_, rfl, _, rfl, x', srt, rfl, hx', f0.sorts_in srt (List.mem_of_getElem? hsrt), b4.2.1, fun H5 tb5 => ?_⟩
        have b5 : TB2 T1 T2 H H5 := b4.tr (.one ne b4.2.2 tb5)
        have b45 : TB2 T1 T2 (upd H3 TT (.tup [x', V.str srt])) H5 := .one ne b4.2.2 tb5
        cases fit : fitB x' srt with
        | true =>
          refine ⟨true, rfl, iteT ⟨_, by omega, rfl, lt, b45.keep b4.2.1 b4.2.2 (s4 _ _ hp3) (by intro ps z; cases z), b5, fun j v x hj hv hx => ?_⟩⟩
          by_cases ej : j = i
          · subst ej
            rw [g1] at hv
            rw [hsrt] at hx
            rw [← Option.some.inj hv, ← Option.some.inj hx]
            exact fit
          · exact hfit j v x (by omega) hv hx
        | false =>
          refine ⟨false, rfl, iteF ⟨false, rfl, iteT (qF ?_ H5 b5)⟩⟩
          rintro ⟨e, fine, h⟩
          have w0 : e.word = f0.word := V.str.inj (List.cons.inj h).1.symm
          have hps : ps = e.parts := (List.cons.inj h).2
          rw [hps] at g1
          have := (fine.fit i x' srt g1 (by rw [sorts_word w0]; exact hsrt)).2
          rw [fit] at this
          exact nomatch this
    · have ei : i = ps.length := by omega
      subst ei
      obtain ⟨e, we, rfl⟩ := ent_of ll fun j v x hv hx => hfit j v x (List.getElem?_eq_some_iff.mp hv).1 hv hx
      have ev : e.vals = (V.str f0.word) :: e.parts := by
        rw [← we]
        rfl
      refine .inl ⟨⟨e.parts, f0.sorts.map V.str, SqT.of hp3, sq _, .inl (Nat.le_refl _)⟩, ?_⟩
      refine ⟨true, rfl, iteF ?_⟩
      -- unlike places
      rw [← ev] at ha qT qF
      have ha3 : H3 a = some (.tup e.vals) := b3.keep t1 t2 ha (by intro ps z; cases z)
      refine ⟨_, rfl, a, e, rfl, ha3, fun tp H4 s4 ht => ?_⟩
      have b4 := b3.tr (.same b3.2.1 b3.2.2 s4)
      refine ⟨_, rfl, tp, e.places, rfl, SqT.of ht, Nat.le_trans (places_le e) (by decide), _, rfl, tp, _, rfl, .inr (SqT.of ht), rfl, ?_⟩
      by_cases ndp : e.places.Nodup
      · rw [once_nodup ndp, List.length_map, decide_eq_true rfl]
        refine qT ⟨e, ⟨fun j v x hv hx => ?_, ndp⟩, rfl⟩ H4 b4
        have hx2 : f0.sorts[j]? = some x := by rw [← sorts_word we]; exact hx
        have ft := hfit j v x (List.getElem?_eq_some_iff.mp hv).1 hv hx2
        exact ⟨fit_part (hT v (List.mem_cons_of_mem _ (List.mem_of_getElem? hv))) ft (f0.sorts_in x (List.mem_of_getElem? hx2)), ft⟩
      · rw [List.length_map, decide_eq_false fun q => once_len_nd ndp (by have := V.int.inj q; omega)]
        refine qF ?_ H4 b4
        rintro ⟨e', fine, h⟩
        rw [vals_inj h] at ndp
        exact ndp fine.apart
end
/-- of entries the old promise holds -/
theorem isE_old {T1 T2 : Addr} {vs : List V} {H : Hp} {Q : VK} {E : XK} (h : spIsEntry T1 T2 vs H Q E) : spIsEntryA T1 T2 vs H Q E := by
  obtain ⟨a, e, rfl, ha, fine, t1, t2, q⟩ := h
  refine ⟨_, rfl, t1, t2, .inr ⟨a, e.vals, rfl, ha, ?_, fun x hx => ?_, fun _ => q, fun n => absurd ⟨e, fine, rfl⟩ n⟩⟩
  · cases e <;> exact Nat.le_of_ble_eq_true rfl
  · rcases List.mem_cons.mp hx with rfl | hx
    · exact .str _ ((by decide +kernel : ∀ w ∈ words7, w.length ≤ 1000) _ e.word_in)
    · obtain ⟨i, hi⟩ := List.mem_iff_getElem?.mp hx
      have lt := (List.getElem?_eq_some_iff.mp hi).1
      exact .of_part (fine.fit i x _ hi (List.getElem?_eq_getElem (by rw [← e.len_parts]; exact lt))).1
/-! ### defs that are called while nothing is being shown: the guards are known -/
structure FnG (P : Program) (w : World) (K : PySem.W.Frag) (mg : Str → Option Value) (base : Heap) (k : Nat) (f : Addr) (fd : FuncData) (ps : List Str) (sp : Sp) : Prop where
  many : ∀ vs H Q E, sp vs H Q E → vs.length = ps.length
  goes : ∀ (B : Around) (st : List Env) (s : Shared) (H : Hp) (as : Args) (us : List Value) (vs : List V) (Q : VK) (E : XK), B.guards = some [] → Room k B → Env0 P w K mg base B st s H →
    BindsTo s fd as (ps.zip us) → Vals vs us → sp vs H Q E → codeAny (model P w) B (.call (.ref f) as) (CR CX0 st P w H s Q E) s
section
variable {P : Program} {w : World} {K : PySem.W.Frag} {mg : Str → Option Value} {base : Heap}
theorem FnG.of {k : Nat} {f : Addr} {fd : FuncData} {ps : List Str} {sp : Sp} (F : FnOk P w K mg base CX0 k f fd ps sp) : FnG P w K mg base k f fd ps sp :=
  ⟨F.len, fun B st s H as us vs Q E _ => F.run B st s H as us vs Q E⟩
theorem Fun.okG {x qual : Str} {st : Stmt} {f : Addr} {fd : FuncData} {N ps : List Str} {k : Nat} {sp : Sp} (F : Fun K x qual st f fd) (S : FnScope N ps (defScope st)) (many : ∀ vs H Q E, sp vs H Q E → vs.length = ps.length)
    (body : ∀ (cdv : Value) (B : Around) (fs : List Env) (s : Shared) (H : Hp) (vs : List V) (Q : VK) (E : XK), B.guards = some [] → Room k (B.deeper (envOfC qual (defScope st) s.heap.objs.size f cdv)) → sp vs H Q E →
      ∃ t, PSs (cxOf CX0 P w K mg base N qual (defScope st) f cdv B fs s H E).nox (defBody st) t ∧ t { nx := fun _ H' => Q .non H', rt := Q } (start N vs) H) : FnG P w K mg base (k + 1) f fd ps sp := by
  obtain ⟨oc, od, kV, doc, pm, an, cdv, ct, osl, rfl, lk, hcd⟩ := F.ex
  refine ⟨many, fun B fs s H as us vs Q E hg hr e0 hb r hsp => ?_⟩
  have old : ∀ b o, base.get? b = some o → s.heap.get? b = some o := fun b o e => (e0.bs b o e).1
  have KX := e0.mod.kin.keeps old
  obtain ⟨t, pt, ht⟩ := body cdv B fs s H vs Q E hg (hr.deeper _) hsp
  refine codeAny_call_function hr.depth (KX _ _ lk) rfl S.co S.gen rfl (PySem.W.codeRec_of KX hcd) (hb _ _ _ _ ?_)
  refine wpAny_newFunctionEnv_cells S.kind ?_ ?_
  · rintro ⟨n, v⟩ hy
    have hn := (List.of_mem_zip hy).1
    exact (S.par n hn).imp id fun q => ⟨q, PySem.W.cellsFrom_some _ _ _ (.inl q)⟩
  · rintro env rfl s1 x
    have I := inv_start (CX := CX0) (E := E) S hr.hd e0 (many _ _ _ _ hsp) r x
    refine ⟨(e0.mod.nolimit.keeps old).keeps x.toInCall.keep, codeAny_func (wpAny_mono (pt.nox.run [] s1 _ H _ I ht) ?_ fun e s' hs => hs)⟩
    rintro fl s' hs
    cases fl with
    | ret u =>
      obtain ⟨v, σ', H', J, rv, q⟩ := hs
      exact ⟨v, H', J.os, J.bare, J.base, J.hok, rv, q⟩
    | next =>
      obtain ⟨σ', H', J, q⟩ := hs
      exact ⟨.non, H', J.os, J.bare, J.base, J.hok, rfl, q⟩
    | brk =>
      obtain ⟨_, _, _, q⟩ := hs
      exact False.elim q
    | cont =>
      obtain ⟨_, _, _, q⟩ := hs
      exact False.elim q
end
/-- f(e, ..): a def of this kind -/
theorem pe_callG {X : Cx} {k : Nat} {f : Addr} {fd : FuncData} {ps : List Str} {sp : Sp} {x : Str} {p pos : Pos} {e : Expr} {es : List Expr} {t : TA} (F : FnG X.prog X.w X.K X.mg X.base k f fd ps sp) (hG : X.A.guards = some []) (hr : Room k X.A) (hg : Gl X x) (hm : X.mg x = some (.ref f))
    (hk : PySem.W.keepIn X.K (.ref f) = true) (hb : Binds X.K fd ps []) (ha : PA X (e :: es) t) (hdb : (x == ("__debug__" : Str)) = false := by decide) (he : starEach (e :: es) X.env = (false, eval e X.env) :: starEach es X.env := by rfl)
    (hpl : (backTo pos (starEach es X.env)).any (·.1) = false := by rfl) : PE X (.Call (.Name x p) (e :: es) [] pos) (tCall sp [] E0 t) := by
  refine ⟨fun pins s σ H Q I h => wpAny_Call_Name_kw (ld_glob I hg hm ?_ hdb)⟩
  refine PySem.W.callWith_K (h₀ := X.base) I.ok.mod.kin hk (thn (ha.run pos pins s σ H _ I h) ?_) he hpl
  rintro us s1 ⟨vs, H1, I1, r, q⟩
  rw [List.append_nil] at q
  have hl : us.length = ps.length := r.length.symm.trans (F.many _ _ _ _ q)
  have bd := hb s1 us I1.kIn (by rw [List.append_nil]; exact hl)
  rw [List.append_nil] at bd
  refine ⟨I1.kIn, wpAny_call (codeAny_mono (F.goes X.A X.stack s1 H1 ⟨us, []⟩ us vs Q E0 hG hr I1.env0 bd r q) ?_)⟩
  rintro r2 s2 hq
  cases r2 with
  | error e => exact False.elim hq
  | ok fl =>
    cases fl with
    | ret u => exact I1.after hq
    | next => exact False.elim hq
    | brk => exact False.elim hq
    | cont => exact False.elim hq
/-! ### the top's call of the law, for a law that shows things -/
def topH (K : PySem.W.Frag) (a : Addr) (o : Obj) (xs : List V) (cs : List (Addr × Addr)) : Hp := fun b =>
  if b ∈ cs.map (·.2) then some (.tbl #[]) else if b = a ∧ K.lookup a = none then some (.frz o (.lst xs)) else none
section
variable {P : Program} {w : World} {K : PySem.W.Frag} {mg mb : Str → Option Value} {a : Addr} {o : Obj} {cs : List (Addr × Addr)} {s₁ : Shared} {vs : List Value} {ns : List Int}
theorem topH_tab {xs : List V} {p : Addr × Addr} (hp : p ∈ cs) : topH K a o xs cs p.2 = some (.tbl #[]) := if_pos (List.mem_map.mpr ⟨p, hp, rfl⟩)
theorem topH_cases {xs : List V} {b : Addr} {u : HO} (h : topH K a o xs cs b = some u) : (b ∈ cs.map (·.2) ∧ u = .tbl #[]) ∨ (b = a ∧ K.lookup a = none ∧ u = .frz o (.lst xs)) := by
  unfold topH at h
  split at h
  · rename_i hb
    exact .inl ⟨hb, (Option.some.inj h).symm⟩
  · split at h
    · rename_i hb
      exact .inr ⟨hb.1, hb.2, (Option.some.inj h).symm⟩
    · cases h
theorem top_call {fa : Addr} {k : Nat} {fd : FuncData} {x : Str} {sp : Sp}
    (KX : K.In s₁.heap) (hns : s₁.heap.Ns mainGlobals mg) (hb : s₁.heap.Ns builtinsNs mb) (hbb : ∀ x : Str, x ≠ "__name__" → mb x = bootBuiltins x) (hlim : s₁.heap.NoLimit) (hg : s₁.gens = #[])
    (hT : ∀ p ∈ cs, s₁.heap.get? p.2 = some { cls := .none, data := .fields #[] }) (nT : ∀ p ∈ cs, K.lookup p.2 = none) (C : ∀ p ∈ cs, PySem.W.CodeHd s₁.heap p.1 p.2)
    (hbm : ∃ (bm : Addr) (ob : Obj), mg "__builtins__" = some (.ref bm) ∧ bm ≠ builtinsNs ∧ s₁.heap.get? bm = some ob ∧ ob.cls = .type "module" ∧ ob.dict = some builtinsNs ∧ ob.data = .plain)
    (ha : s₁.heap.get? a = some { cls := .type "list", data := .seq vs.toArray }) (hi : IntsAre vs ns) (hl : ns.length ≤ sizeLine) (hr : Room k callerA)
    (F : ∀ base : Heap, K.In base → base.Ns mainGlobals mg → (∀ p ∈ cs, LamX.TabB base mg p.1 p.2) → FnG P w K mg base k fa fd [x] sp) (hbind : ∀ (s : Shared) (u : Value), BindsTo s fd ⟨[u], []⟩ [(x, u)])
    (hsp : ∀ H : Hp, (∀ p ∈ cs, H p.2 = some (.tbl #[])) → SqL K H a (ns.map V.int) → sp [.ref a] H (fun v _ => v = .bl true) fun _ _ _ => False) :
    codeAny (model P w) callerA (.call (.ref fa) ⟨[.ref a], []⟩) (fun r s' => r = .ok (.ret (.bool true)) ∧ OldK s₁.heap s'.heap ∧ s'.os = s₁.os ∧ AllBare s'.gens) s₁ := by
  have tabAt : ∀ b : Addr, b ∈ cs.map (·.2) → s₁.heap.get? b = some { cls := .none, data := .fields #[] } := fun b hb => by
    obtain ⟨p, hp, rfl⟩ := List.mem_map.mp hb
    exact hT p hp
  have naT : a ∉ cs.map (·.2) := fun z => by
    have q := (tabAt a z).symm.trans ha
    cases q
  have rv := vals_ints hi
  let H : Hp := topH K a { cls := .type "list", data := .seq vs.toArray } (ns.map V.int) cs
  have hH : ∀ p ∈ cs, H p.2 = some (.tbl #[]) := fun p hp => topH_tab hp
  -- what is tracked is a list or a table
  have free : ∀ {b : Addr} {ob : Obj}, s₁.heap.get? b = some ob → (∀ us n, ob.data ≠ .seq us n) → ob.data ≠ .fields #[] → H b = none := fun {b ob} e h1 h2 => by
    cases q : H b with
    | none => rfl
    | some u =>
      rcases topH_cases q with ⟨hb, _⟩ | ⟨rfl, _, _⟩
      · rw [tabAt b hb] at e
        cases e
        exact absurd rfl h2
      · rw [ha] at e
        cases e
        exact absurd rfl (h1 _ _)
  have dic : ∀ {b : Addr} {m : Str → Option Value}, s₁.heap.Ns b m → (hidT s₁.heap H).Ns b m := fun {b m} ⟨ob, es, ep, e, d, r⟩ =>
    ⟨ob, es, ep, hidT_get e (free e (fun us n z => by rw [d] at z; cases z) fun z => by rw [d] at z; cases z), d, r⟩
  have hK : K.In (hidT s₁.heap H) := fun b ob e => hidT_get (KX b ob e) (by
    cases q : H b with
    | none => rfl
    | some u =>
      rcases topH_cases q with ⟨hb, _⟩ | ⟨rfl, n, _⟩
      · obtain ⟨p, hp, rfl⟩ := List.mem_map.mp hb
        rw [nT p hp] at e
        cases e
      · rw [n] at e
        cases e)
  have hok : HOk P w H s₁.heap := fun b u q => by
    rcases topH_cases q with ⟨hb, rfl⟩ | ⟨rfl, _, rfl⟩
    · exact tabAt b hb
    · exact ⟨ha, by rw [List.length_map]; exact hl, vs, _, rv, ha⟩
  have hS : SqL K H a (ns.map V.int) := by
    cases hk : K.lookup a with
    | some ob =>
      have e := (KX a ob hk).symm.trans ha
      cases e
      exact .inr ⟨_, vs.toArray, _, hk, rfl, rfl, rfl, by rw [List.size_toArray, hi.length]; exact hl, by simpa using rv⟩
    | none => exact .inl (.inr ⟨{ cls := .type "list", data := .seq vs.toArray }, (if_neg naT).trans (if_pos ⟨rfl, hk⟩)⟩)
  have hM : L2.Mod K mg (hidT s₁.heap H) := ⟨hK, dic hns, ⟨mb, dic hb, hbb⟩, let ⟨mc, h1, h2⟩ := hlim; ⟨mc, dic h1, h2⟩⟩
  have TB : ∀ p ∈ cs, LamX.TabB (hidT s₁.heap H) mg p.1 p.2 := fun p hp => by
    have hTp := hT p hp
    obtain ⟨og, eg, pg, g1, g2, _⟩ := hns
    refine ⟨?_, ?_, fun z => ?_⟩
    · obtain ⟨ob, us, file, tf, flags, tg, inF, text, tt, e1, r1, r2, r3, r4⟩ := C p hp
      refine ⟨ob, us, file, tf, flags, tg, inF, text, tt, hidT_get e1 (free e1 (fun us n z => ?_) fun z => ?_), r1, r2, r3, r4⟩
      · rw [r2] at z
        cases z
      · rw [r2] at z
        cases z
        simp at r3
    · obtain ⟨bm, ob, b1, b2, b3, b4, b5, b6⟩ := hbm
      refine ⟨bm, ob, b1, b2, fun z => ?_, fun z => ?_, hidT_get b3 (free b3 (fun us n z => by rw [b6] at z; cases z) fun z => by rw [b6] at z; cases z), b4, b5, b6⟩
      · rw [z, g1] at b3
        cases b3
        rw [g2] at b6
        cases b6
      · rw [z, hTp] at b3
        cases b3
        cases b6
    · rw [z, hTp] at g1
      cases g1
      cases g2
  have e0 : Env0 P w K mg (hidT s₁.heap H) callerA [] s₁ H := ⟨rfl, hM, fun b ob e => of_hidT e, Nat.le_of_eq (hidT_size _ _), trivial, (fun b hb => nomatch (show b ∈ ([] : List Addr) from hb)), hok, .of_eq hg⟩
  refine codeAny_mono ((F _ hK (dic hns) TB).goes callerA [] s₁ H ⟨[.ref a], []⟩ [.ref a] [.ref a] _ _ rfl hr e0 (hbind s₁ (.ref a)) (.cons rfl .nil) (hsp H hH hS)) ?_
  rintro r s' h
  cases r with
  | error e => exact False.elim h
  | ok fl =>
    cases fl with
    | next => exact False.elim h
    | brk => exact False.elim h
    | cont => exact False.elim h
    | ret u =>
      obtain ⟨v, H', os, bare, un, hok', r', rfl⟩ := h
      obtain rfl : u = Value.bool true := r'
      have stays : ∀ b ob, b ∉ cs.map (·.2) → s₁.heap.get? b = some ob → s'.heap.get? b = some ob := fun b ob nb e => by
        cases q : H b with
        | none => exact un.keep b ob e q (fun z => nomatch (show b ∈ ([] : List Addr) from z)) (by simp)
        | some u =>
          rcases topH_cases q with ⟨z, _⟩ | ⟨rfl, _, rfl⟩
          · exact absurd z nb
          · rw [ha] at e
            cases e
            exact (hok' _ _ (un.frzs _ _ _ q)).1
      have grown : ∀ b ∈ cs.map (·.2), ∃ p ∈ cs, b = p.2 ∧ ∃ more : Array Value, s'.heap.get? b = some { cls := .none, data := .fields more } := fun b hb => by
        obtain ⟨p, hp, rfl⟩ := List.mem_map.mp hb
        obtain ⟨more, z⟩ := un.tbls p.2 #[] (hH p hp)
        exact ⟨p, hp, rfl, _, hok' p.2 _ z⟩
      refine ⟨rfl, ⟨fun b ob e => ?_, fun b ob e => ?_⟩, os, bare⟩
      · by_cases hb : b ∈ cs.map (·.2)
        · obtain ⟨p, hp, rfl, more, hm⟩ := grown b hb
          rw [hT p hp] at e
          cases e
          exact .inr (.inl ⟨((C p hp).tab (hT p hp)).isCodeTable, rfl, #[], more, rfl, by rw [Array.empty_append]; exact hm⟩)
        · exact .inl (stays b ob hb e)
      · by_cases hb : b ∈ cs.map (·.2)
        · obtain ⟨p, hp, rfl, more, hm⟩ := grown b hb
          exact ⟨_, hm⟩
        · exact ⟨ob, stays b ob hb e⟩
end
/-- what is known of a law that shows things -/
def LawG (l : PySem.W.OpenLaw) (w : World) (K : PySem.W.Frag) (k n : Nat) (x : Str) (mg : Str → Option Value) (fa : Addr) (h : Heap) : Prop :=
  ∃ (fd : FuncData) (cs : List (Addr × Addr)) (sp : Sp), ((∀ p ∈ cs, h.get? p.2 = some { cls := .none, data := .fields #[] }) ∧ (∀ p ∈ cs, K.lookup p.2 = none) ∧ ∀ p ∈ cs, PySem.W.CodeHd h p.1 p.2) ∧ (∀ (s : Shared) (u : Value), BindsTo s fd ⟨[u], []⟩ [(x, u)]) ∧
    (∀ (H : Hp) (a : Addr) (ns : List Int), ns.length ≤ n → (∀ p ∈ cs, H p.2 = some (.tbl #[])) → SqL K H a (ns.map V.int) → sp [.ref a] H (fun v _ => v = .bl true) fun _ _ _ => False) ∧
    ∀ base : Heap, K.In base → base.Ns mainGlobals mg → (∀ p ∈ cs, LamX.TabB base mg p.1 p.2) → FnG l.prog w K mg base k fa fd [x] sp
theorem end_G {l : PySem.W.OpenLaw} {n k : Nat} {q : Program} {loose : List Str} {XP : (Str → Option Value) → Heap → Prop} {YP : World → Heap → Prop} {d : PySem.DefRec} {K : Params → PySem.W.Frag} {x : Str}
    (hn : l.most = some n) (hn2 : n ≤ sizeLine) (hdf : d.params.defaults = []) (hr : Room k callerA)
    (hY : ∀ (w : World) (h : Heap), YP w h → (K w.params).In h)
    (F : ∀ (w : World) (s0 : Shared) (mg mb : Str → Option Value) (fa : Addr) (h : Heap), PySem.W.Ground q loose [] XP w s0 mg mb h → (K w.params).In h → mg d.name = some (.ref fa) → LawG l w (K w.params) k n x mg fa h) :
    PySem.W.WalkO q loose XP YP l.row.toRowW d [] (fun f vs => PySem.call f vs) := by
  refine Att.attach_callB hn hdf fun w s0 s1 mg mb fa o pm cd doc a vs ns G Y ho hd hcd hmg hobj hints hlen hbits hg => ?_
  have KX := hY w _ Y
  obtain ⟨fd, cs, sp, ⟨hT, nT, C⟩, hb, hsp, hF⟩ := F w s0 mg mb fa _ G KX hmg
  exact top_call KX G.T.g G.T.b G.T.builtins G.T.nolimit hg hT nT C G.T.bmain hobj hints (Nat.le_trans hlen hn2) hr hF hb (fun H hH hS => hsp H a ns hlen hH hS)
/-! ### what is an entry, part by part -/
def fitsA : List V → List Str → Bool
  | v :: vs, x :: xs => fitB v x && fitsA vs xs
  | _, _ => true
theorem fitsA_of : ∀ (ps : List V) (ss : List Str), (∀ (i : Nat) (v : V) (x : Str), ps[i]? = some v → ss[i]? = some x → fitB v x = true) → fitsA ps ss = true
  | [], _, _ => by unfold fitsA; rfl
  | _ :: _, [], _ => by unfold fitsA; rfl
  | v :: vs, x :: xs, h => by
    show (fitB v x && fitsA vs xs) = true
    rw [h 0 v x rfl rfl, fitsA_of vs xs fun i v x h1 h2 => h (i + 1) v x h1 h2]
    rfl
theorem of_fitsA : ∀ (ps : List V) (ss : List Str), fitsA ps ss = true → ∀ (i : Nat) (v : V) (x : Str), ps[i]? = some v → ss[i]? = some x → fitB v x = true
  | [], _, _, _, _, _, h1, _ => by rw [List.getElem?_nil] at h1; exact nomatch h1
  | _ :: _, [], _, _, _, _, _, h2 => by rw [List.getElem?_nil] at h2; exact nomatch h2
  | v :: vs, x :: xs, h, 0, _, _, h1, h2 => by
    cases h1
    cases h2
    exact (Bool.and_eq_true_iff.mp (show (fitB v x && fitsA vs xs) = true from h)).1
  | v :: vs, x :: xs, h, i + 1, v', x', h1, h2 => of_fitsA vs xs (Bool.and_eq_true_iff.mp (show (fitB v x && fitsA vs xs) = true from h)).2 i v' x' h1 h2
theorem isE_len {f : Ent} {ps : List V} (h : IsE (.str f.word :: ps)) : ps.length = f.sorts.length := by
  obtain ⟨e, _, q⟩ := h
  have w0 : e.word = f.word := V.str.inj (List.cons.inj q).1.symm
  rw [(List.cons.inj q).2, ← sorts_word w0]
  exact e.len_parts
theorem isE_fits {f : Ent} {ps : List V} (h : IsE (.str f.word :: ps)) : fitsA ps f.sorts = true := by
  obtain ⟨e, fi, q⟩ := h
  have w0 : e.word = f.word := V.str.inj (List.cons.inj q).1.symm
  rw [(List.cons.inj q).2, ← sorts_word w0]
  exact fitsA_of _ _ fun i v x h1 h2 => (fi.fit i v x h1 h2).2
theorem isE_mk {H : Hp} {f : Ent} {ps : List V} (hT : ∀ v ∈ ps, Thg H v) (l : ps.length = f.sorts.length) (h : fitsA ps f.sorts = true) (ap : ∀ e : Ent, e.word = f.word → e.parts = ps → e.places.Nodup) : IsE (.str f.word :: ps) := by
  have ft := of_fitsA _ _ h
  obtain ⟨e, we, rfl⟩ := ent_of l ft
  refine ⟨e, ⟨fun j v x hv hx => ?_, ap e we rfl⟩, ?_⟩
  · have hx2 : f.sorts[j]? = some x := by rw [← sorts_word we]; exact hx
    have q := ft j v x hv hx2
    exact ⟨fit_part (hT v (List.mem_of_getElem? hv)) q (f.sorts_in x (List.mem_of_getElem? hx2)), q⟩
  · rw [← we]
    rfl
theorem fit_n {v : V} : fitB v "name" = nmV v := if_pos rfl
theorem fit_e {v : V} : fitB v "end" = (decide (v = .str "") || nmV v) := by
  unfold fitB
  rw [if_neg ken, if_pos rfl]
/-- a number between -/
def whB (lo hi : Int) : V → Bool
  | .int i => decide (lo ≤ i) && decide (i ≤ hi)
  | _ => false
theorem fit_mo {v : V} : fitB v "moment" = whB 0 9999 v := by
  unfold fitB
  rw [if_neg kmn, if_neg kme]
  cases v <;> simp [inB, whB, bnd]
theorem fit_ma {v : V} : fitB v "many" = whB 1 1000000000 v := by
  unfold fitB
  rw [if_neg kyn, if_neg kye]
  cases v <;> simp [inB, whB, bnd, kym]
theorem fit_co {v : V} : fitB v "counted" = whB 0 1000000000 v := by
  unfold fitB
  rw [if_neg kcn, if_neg kce]
  cases v <;> simp [inB, whB, bnd, kcm, kcy]
theorem fit_pr {v : V} : fitB v "price" = whB 0 1000000000 v := by
  unfold fitB
  rw [if_neg kpn, if_neg kpe]
  cases v <;> simp [inB, whB, bnd, kpm, kpy]
theorem isE_word {x0 : V} {ps : List V} (h : IsE (x0 :: ps)) : ∃ f : Ent, x0 = .str f.word := by
  obtain ⟨e, _, q⟩ := h
  exact ⟨e, (List.cons.inj q).1⟩
theorem isE_heads {x0 p0 p1 p2 p3 : V} {rest : List V} (h : IsE (x0 :: p0 :: p1 :: p2 :: p3 :: rest)) : nmV p0 = true ∧ whB 0 9999 p1 = true ∧ nmV p2 = true ∧ nmV p3 = true := by
  obtain ⟨f, rfl⟩ := isE_word h
  have ft := of_fitsA _ _ (isE_fits h)
  have s0 : f.sorts[0]? = some ("name" : Str) := by cases f <;> rfl
  have s1 : f.sorts[1]? = some ("moment" : Str) := by cases f <;> rfl
  have s2 : f.sorts[2]? = some ("name" : Str) := by cases f <;> rfl
  have s3 : f.sorts[3]? = some ("name" : Str) := by cases f <;> rfl
  exact ⟨by rw [← fit_n]; exact ft 0 p0 _ rfl s0, by rw [← fit_mo]; exact ft 1 p1 _ rfl s1, by rw [← fit_n]; exact ft 2 p2 _ rfl s2, by rw [← fit_n]; exact ft 3 p3 _ rfl s3⟩
theorem isE_five {xs : List V} (h : IsE xs) : 5 ≤ xs.length := by
  obtain ⟨e, _, rfl⟩ := h
  cases e <;> exact Nat.le_of_ble_eq_true rfl
theorem nm_str {v : V} (h : nmV v = true) : ∃ z, v = .str z ∧ nameB z = true := by
  cases v with
  | str z => exact ⟨z, rfl, h⟩
  | _ => exact nomatch h
/-- the ends of a move or of a some -/
def endsB (w y4 : Str) (v : V) : Bool := if w = "some" ∧ v = .str "" then true else nmV v && !decide (v = .str y4)
section
variable {H : Hp} {p0 p1 p2 p3 : V} {rest : List V} (h0 : nmV p0 = true) (h1 : whB 0 9999 p1 = true) (h2 : nmV p2 = true) (h3 : nmV p3 = true) (hT : ∀ v ∈ p0 :: p1 :: p2 :: p3 :: rest, Thg H v)
include h0 h1 h2 h3 hT
theorem isE_swap : IsE (.str "swap" :: p0 :: p1 :: p2 :: p3 :: rest) ↔ rest = [] ∧ p2 ≠ p3 := by
  constructor
  · intro h
    have l := isE_len (f := .swap "" 0 "" "") h
    have r : rest = [] := List.eq_nil_of_length_eq_zero (by simp only [List.length_cons, Ent.sorts, List.length_nil] at l; omega)
    subst r
    refine ⟨rfl, fun z => ?_⟩
    obtain ⟨e, fi, q⟩ := h
    subst z
    have w0 : e.word = "swap" := V.str.inj (List.cons.inj q).1.symm
    cases e with
    | swap n m o t =>
      have q2 := (List.cons.inj q).2
      simp only [Ent.vals, Ent.rest, Ent.name, Ent.moment, List.cons.injEq] at q2
      have : o = t := V.str.inj (q2.2.2.1.symm.trans q2.2.2.2.1)
      subst this
      exact (List.nodup_cons.mp fi.apart).1 (List.mem_singleton.mpr rfl)
    | _ => exact absurd w0 (wno (by decide +kernel))
  · rintro ⟨rfl, ne⟩
    refine isE_mk (f := .swap "" 0 "" "") hT rfl ?_ fun e we ep => ?_
    · show (fitB p0 "name" && (fitB p1 "moment" && (fitB p2 "name" && (fitB p3 "name" && true)))) = true
      rw [fit_n, fit_mo, fit_n, fit_n, h0, h1, h2, h3]
      rfl
    · cases e with
      | swap n m o t =>
        simp only [Ent.parts, Ent.rest, List.cons.injEq] at ep
        refine List.nodup_cons.mpr ⟨fun z => ne ?_, nd1 t⟩
        rw [← ep.2.2.1, ← ep.2.2.2.1, List.mem_singleton.mp z]
      | _ => exact absurd we (wno (by decide +kernel))
theorem isE_look : IsE (.str "look" :: p0 :: p1 :: p2 :: p3 :: rest) ↔ rest = [] := by
  constructor
  · intro h
    have l := isE_len (f := .look "" 0 "" "") h
    exact List.eq_nil_of_length_eq_zero (by simp only [List.length_cons, Ent.sorts, List.length_nil] at l; omega)
  · rintro rfl
    refine isE_mk (f := .look "" 0 "" "") hT rfl ?_ fun e we ep => ?_
    · show (fitB p0 "name" && (fitB p1 "moment" && (fitB p2 "name" && (fitB p3 "name" && true)))) = true
      rw [fit_n, fit_mo, fit_n, fit_n, h0, h1, h2, h3]
      rfl
    · cases e with
      | look n m g p => exact nd1 p
      | _ => exact absurd we (wno (by decide +kernel))
theorem isE_come : IsE (.str "come" :: p0 :: p1 :: p2 :: p3 :: rest) ↔ ∃ x y, rest = [x, y] ∧ whB 1 1000000000 x = true ∧ whB 0 1000000000 y = true := by
  constructor
  · intro h
    have l := isE_len (f := .come "" 0 "" "" 0 0) h
    match rest, l with
    | [x, y], _ =>
      have q := isE_fits (f := .come "" 0 "" "" 0 0) h
      have q' : (fitB p0 "name" && (fitB p1 "moment" && (fitB p2 "name" && (fitB p3 "name" && (fitB x "many" && (fitB y "price" && true)))))) = true := q
      rw [fit_n, fit_mo, fit_n, fit_n, h0, h1, h2, h3, fit_ma, fit_pr] at q'
      simp only [Bool.true_and, Bool.and_true, Bool.and_eq_true] at q'
      exact ⟨x, y, rfl, q'⟩
  · rintro ⟨x, y, rfl, hx, hy⟩
    refine isE_mk (f := .come "" 0 "" "" 0 0) hT rfl ?_ fun e we ep => ?_
    · show (fitB p0 "name" && (fitB p1 "moment" && (fitB p2 "name" && (fitB p3 "name" && (fitB x "many" && (fitB y "price" && true)))))) = true
      rw [fit_n, fit_mo, fit_n, fit_n, h0, h1, h2, h3, fit_ma, fit_pr, hx, hy]
      rfl
    · cases e with
      | come n m g p k r => exact nd1 p
      | _ => exact absurd we (wno (by decide +kernel))
theorem isE_go : IsE (.str "go" :: p0 :: p1 :: p2 :: p3 :: rest) ↔ ∃ x, rest = [x] ∧ whB 1 1000000000 x = true := by
  constructor
  · intro h
    have l := isE_len (f := .go "" 0 "" "" 0) h
    match rest, l with
    | [x], _ =>
      have q := isE_fits (f := .go "" 0 "" "" 0) h
      have q' : (fitB p0 "name" && (fitB p1 "moment" && (fitB p2 "name" && (fitB p3 "name" && (fitB x "many" && true))))) = true := q
      rw [fit_n, fit_mo, fit_n, fit_n, h0, h1, h2, h3, fit_ma] at q'
      simp only [Bool.true_and, Bool.and_true] at q'
      exact ⟨x, rfl, q'⟩
  · rintro ⟨x, rfl, hx⟩
    refine isE_mk (f := .go "" 0 "" "" 0) hT rfl ?_ fun e we ep => ?_
    · show (fitB p0 "name" && (fitB p1 "moment" && (fitB p2 "name" && (fitB p3 "name" && (fitB x "many" && true))))) = true
      rw [fit_n, fit_mo, fit_n, fit_n, h0, h1, h2, h3, fit_ma, hx]
      rfl
    · cases e with
      | go n m g p k => exact nd1 p
      | _ => exact absurd we (wno (by decide +kernel))
theorem isE_count : IsE (.str "count" :: p0 :: p1 :: p2 :: p3 :: rest) ↔ ∃ x y, rest = [x, y] ∧ whB 0 1000000000 x = true ∧ nmV y = true := by
  constructor
  · intro h
    have l := isE_len (f := .count "" 0 "" "" 0 "") h
    match rest, l with
    | [x, y], _ =>
      have q := isE_fits (f := .count "" 0 "" "" 0 "") h
      have q' : (fitB p0 "name" && (fitB p1 "moment" && (fitB p2 "name" && (fitB p3 "name" && (fitB x "counted" && (fitB y "name" && true)))))) = true := q
      rw [fit_n, fit_mo, fit_n, fit_n, h0, h1, h2, h3, fit_co, fit_n] at q'
      simp only [Bool.true_and, Bool.and_true, Bool.and_eq_true] at q'
      exact ⟨x, y, rfl, q'⟩
  · rintro ⟨x, y, rfl, hx, hy⟩
    refine isE_mk (f := .count "" 0 "" "" 0 "") hT rfl ?_ fun e we ep => ?_
    · show (fitB p0 "name" && (fitB p1 "moment" && (fitB p2 "name" && (fitB p3 "name" && (fitB x "counted" && (fitB y "name" && true)))))) = true
      rw [fit_n, fit_mo, fit_n, fit_n, h0, h1, h2, h3, fit_co, fit_n, hx, hy]
      rfl
    · cases e with
      | count n m g p k r => exact nd1 p
      | _ => exact absurd we (wno (by decide +kernel))
theorem isE_move {y3 : Str} (hp : p3 = .str y3) : IsE (.str "move" :: p0 :: p1 :: p2 :: p3 :: rest) ↔ ∃ x y, rest = [x, y] ∧ endsB "move" y3 x = true ∧ whB 1 1000000000 y = true := by
  have eb : ∀ x, endsB "move" y3 x = (nmV x && !decide (x = .str y3)) := fun x => if_neg fun z => absurd z.1 (wno (by decide +kernel))
  subst hp
  constructor
  · intro h
    have l := isE_len (f := .move "" 0 "" "" "" 0) h
    match rest, l with
    | [x, y], _ =>
      have q := isE_fits (f := .move "" 0 "" "" "" 0) h
      have q' : (fitB p0 "name" && (fitB p1 "moment" && (fitB p2 "name" && (fitB (.str y3) "name" && (fitB x "name" && (fitB y "many" && true)))))) = true := q
      rw [fit_n, fit_mo, fit_n, fit_n, fit_n, h0, h1, h2, h3, fit_ma] at q'
      simp only [Bool.true_and, Bool.and_true, Bool.and_eq_true] at q'
      refine ⟨x, y, rfl, ?_, q'.2⟩
      rw [eb, q'.1]
      refine (Bool.true_and _).trans ?_
      rw [Bool.not_eq_true']
      refine decide_eq_false fun z => ?_
      subst z
      obtain ⟨e, fi, q⟩ := h
      have w0 : e.word = "move" := V.str.inj (List.cons.inj q).1.symm
      cases e with
      | move n m g o t k =>
        have q2 := (List.cons.inj q).2
        simp only [Ent.vals, Ent.rest, Ent.name, Ent.moment, List.cons.injEq] at q2
        have : o = t := V.str.inj (q2.2.2.2.1.symm.trans q2.2.2.2.2.1)
        subst this
        exact (List.nodup_cons.mp fi.apart).1 (List.mem_singleton.mpr rfl)
      | _ => exact absurd w0 (wno (by decide +kernel))
  · rintro ⟨x, y, rfl, hx, hy⟩
    rw [eb] at hx
    obtain ⟨hx1, hx2⟩ := Bool.and_eq_true_iff.mp hx
    refine isE_mk (f := .move "" 0 "" "" "" 0) hT rfl ?_ fun e we ep => ?_
    · show (fitB p0 "name" && (fitB p1 "moment" && (fitB p2 "name" && (fitB (.str y3) "name" && (fitB x "name" && (fitB y "many" && true)))))) = true
      rw [fit_n, fit_mo, fit_n, fit_n, fit_n, h0, h1, h2, h3, fit_ma, hx1, hy]
      rfl
    · cases e with
      | move n m g o t k =>
        simp only [Ent.parts, Ent.rest, List.cons.injEq] at ep
        refine List.nodup_cons.mpr ⟨fun z => ?_, nd1 t⟩
        rw [Bool.not_eq_true'] at hx2
        refine of_decide_eq_false hx2 ?_
        rw [← ep.2.2.2.2.1, ← ep.2.2.2.1, List.mem_singleton.mp z]
      | _ => exact absurd we (wno (by decide +kernel))
theorem isE_some {y3 : Str} (hp : p3 = .str y3) : IsE (.str "some" :: p0 :: p1 :: p2 :: p3 :: rest) ↔ ∃ x, rest = [x] ∧ endsB "some" y3 x = true := by
  have ne3 : y3 ≠ "" := name_ne (by rw [hp] at h3; exact h3)
  subst hp
  constructor
  · intro h
    have l := isE_len (f := .some_ "" 0 "" "" "") h
    match rest, l with
    | [x], _ =>
      have q := isE_fits (f := .some_ "" 0 "" "" "") h
      have q' : (fitB p0 "name" && (fitB p1 "moment" && (fitB p2 "name" && (fitB (.str y3) "name" && (fitB x "end" && true))))) = true := q
      rw [fit_n, fit_mo, fit_n, fit_n, h0, h1, h2, h3, fit_e] at q'
      simp only [Bool.true_and, Bool.and_true] at q'
      refine ⟨x, rfl, ?_⟩
      unfold endsB
      by_cases z : x = .str ""
      · rw [if_pos ⟨rfl, z⟩]
      · rw [if_neg fun y => z y.2]
        rw [decide_eq_false z, Bool.false_or] at q'
        rw [q']
        refine (Bool.true_and _).trans ?_
        rw [Bool.not_eq_true']
        refine decide_eq_false fun z2 => ?_
        subst z2
        obtain ⟨e, fi, q⟩ := h
        have w0 : e.word = "some" := V.str.inj (List.cons.inj q).1.symm
        cases e with
        | some_ n m g o t =>
          have q2 := (List.cons.inj q).2
          simp only [Ent.vals, Ent.rest, Ent.name, Ent.moment, List.cons.injEq] at q2
          have e1 : y3 = o := V.str.inj q2.2.2.2.1
          have e2 : y3 = t := V.str.inj q2.2.2.2.2.1
          have := fi.apart
          rw [show Ent.places (.some_ n m g o t) = [o, t] from if_neg (by rw [← e2]; exact ne3), ← e1, ← e2] at this
          exact (List.nodup_cons.mp this).1 (List.mem_singleton.mpr rfl)
        | _ => exact absurd w0 (wno (by decide +kernel))
  · rintro ⟨x, rfl, hx⟩
    unfold endsB at hx
    have fx : fitB x "end" = true := by
      rw [fit_e]
      by_cases z : x = .str ""
      · rw [decide_eq_true z]
        rfl
      · rw [if_neg fun y => z y.2] at hx
        rw [(Bool.and_eq_true_iff.mp hx).1, Bool.or_true]
    refine isE_mk (f := .some_ "" 0 "" "" "") hT rfl ?_ fun e we ep => ?_
    · show (fitB p0 "name" && (fitB p1 "moment" && (fitB p2 "name" && (fitB (.str y3) "name" && (fitB x "end" && true))))) = true
      rw [fit_n, fit_mo, fit_n, fit_n, h0, h1, h2, h3, fx]
      rfl
    · cases e with
      | some_ n m g o t =>
        simp only [Ent.parts, Ent.rest, List.cons.injEq] at ep
        show (if t = "" then [o] else [o, t]).Nodup
        by_cases z : t = ""
        · rw [if_pos z]
          exact nd1 o
        · rw [if_neg z]
          have xz : x ≠ .str "" := fun q => z (V.str.inj (ep.2.2.2.2.1.trans q))
          rw [if_neg fun y => xz y.2] at hx
          have hx2 := (Bool.and_eq_true_iff.mp hx).2
          rw [Bool.not_eq_true'] at hx2
          refine List.nodup_cons.mpr ⟨fun y => of_decide_eq_false hx2 ?_, nd1 t⟩
          rw [← ep.2.2.2.2.1, ← ep.2.2.2.1, List.mem_singleton.mp y]
      | _ => exact absurd we (wno (by decide +kernel))
end
/-! ### repr of a thing that may hold an empty dict -/
/-- what is shown by itself -/
inductive Lf : V → PyData → Prop where
  | non : Lf .non .none
  | bl (b : Bool) : Lf (.bl b) (.bool b)
  | int (i : Int) (h : i.natAbs < 10 ^ 60) : Lf (.int i) (.int i)
  | str (z : Str) (h : z.length ≤ 100) (ok : PyData.strOk z = true) : Lf (.str z) (.str z)
/-- a part: m tells that it may be a dict (and then no part is a list) -/
inductive Itm (H : Hp) : Bool → V → PyData → Prop where
  | lf {m : Bool} {v : V} {d : PyData} (h : Lf v d) : Itm H m v d
  | tup {a : Addr} {v : V} {d : PyData} (h : H a = some (.tup [v])) (l : Lf v d) : Itm H false (.ref a) (.tuple [d])
  | lst {a : Addr} {v : V} {d : PyData} (h : H a = some (.lst [v])) (l : Lf v d) : Itm H false (.ref a) (.list [d])
  | dct {a : Addr} (h : H a = some (.dK [])) : Itm H true (.ref a) (.dict [])
inductive Its3 (H : Hp) (m : Bool) : List V → List PyData → Prop where
  | nil : Its3 H m [] []
  | cons {v : V} {vs : List V} {d : PyData} {ds : List PyData} (h : Itm H m v d) (t : Its3 H m vs ds) : Its3 H m (v :: vs) (d :: ds)
theorem Itm.on {H H' : Hp} {m : Bool} {v : V} {d : PyData} (k : ∀ a o, H a = some o → (∀ ps, o ≠ .tbl ps) → H' a = some o) (t : Itm H m v d) : Itm H' m v d := by
  cases t with
  | lf h => exact .lf h
  | tup h l => exact .tup (k _ _ h fun ps z => nomatch z) l
  | lst h l => exact .lst (k _ _ h fun ps z => nomatch z) l
  | dct h => exact .dct (k _ _ h fun ps z => nomatch z)
theorem Its3.on {H H' : Hp} {m : Bool} {vs : List V} {ds : List PyData} (k : ∀ a o, H a = some o → (∀ ps, o ≠ .tbl ps) → H' a = some o) (t : Its3 H m vs ds) : Its3 H' m vs ds := by
  induction t with
  | nil => exact .nil
  | cons h _ ih => exact .cons (h.on k) ih
theorem Its3.app {H : Hp} {m : Bool} {vs us : List V} {ds es : List PyData} (a : Its3 H m vs ds) (b : Its3 H m us es) : Its3 H m (vs ++ us) (ds ++ es) := by
  induction a with
  | nil => exact b
  | cons h _ ih => exact .cons h ih
theorem Its3.len {H : Hp} {m : Bool} {vs : List V} {ds : List PyData} (a : Its3 H m vs ds) : ds.length = vs.length := by
  induction a with
  | nil => rfl
  | cons h _ ih => rw [List.length_cons, List.length_cons, ih]
/-- any selection of leaves -/
theorem its_of {H : Hp} {m : Bool} : ∀ vs : List V, (∀ v ∈ vs, ∃ d, Itm H m v d) → ∃ ds, Its3 H m vs ds
  | [], _ => ⟨[], .nil⟩
  | v :: vs, h => by
    obtain ⟨d, hd⟩ := h v List.mem_cons_self
    obtain ⟨ds, hs⟩ := its_of vs fun v hv => h v (List.mem_cons_of_mem _ hv)
    exact ⟨d :: ds, .cons hd hs⟩
/-- a list or tuple of parts -/
def Shw (H : Hp) (v : V) (d : PyData) : Prop := ∃ (m : Bool) (a : Addr) (xs : List V) (ds : List PyData), v = .ref a ∧ Its3 H m xs ds ∧ xs.length ≤ 30 ∧ ((H a = some (.tup xs) ∧ d = .tuple ds) ∨ (m = false ∧ H a = some (.lst xs) ∧ d = .list ds))
theorem Shw.on {H H' : Hp} {v : V} {d : PyData} (k : ∀ a o, H a = some o → (∀ ps, o ≠ .tbl ps) → H' a = some o) (t : Shw H v d) : Shw H' v d := by
  obtain ⟨m, a, xs, ds, rfl, i, l, h | h⟩ := t
  · exact ⟨m, a, xs, ds, rfl, i.on k, l, .inl ⟨k _ _ h.1 (fun ps z => nomatch z), h.2⟩⟩
  · exact ⟨m, a, xs, ds, rfl, i.on k, l, .inr ⟨h.1, k _ _ h.2.1 (fun ps z => nomatch z), h.2.2⟩⟩
theorem toString_neg3 (i : Int) (h : i < 0) : (toString i).length ≤ (toString (-i)).length + 1 := by
  obtain ⟨n, rfl⟩ : ∃ n : Nat, i = -((n + 1 : Nat) : Int) := ⟨(-i).toNat - 1, by omega⟩
  rw [Int.neg_neg]
  show ("-" ++ toString (n + 1)).length ≤ (toString (n + 1)).length + 1
  rw [String.length_append]
  have : ("-" : String).length = 1 := rfl
  omega
theorem int_shown {i : Int} (h : i.natAbs < 10 ^ 60) : (PyData.shown (.int i)).length ≤ 70 ∧ i.natAbs.log2 < 1920 := by
  have hb : ((i.natAbs : Nat) : Int) < 10 ^ 60 := by
    have e : (((10 : Nat) ^ 60 : Nat) : Int) = (10 : Int) ^ 60 := by decide +kernel
    rw [← e]
    exact Int.ofNat_lt.mpr h
  refine ⟨?_, ?_⟩
  · by_cases z : 0 ≤ i
    · exact Nat.le_trans (toString_length_le z (k := 60) (by decide) (by rw [← Int.natAbs_of_nonneg z]; exact hb)) (by decide)
    · show (Str.ofString (toString i)).length ≤ 70
      have n1 : ((i.natAbs : Nat) : Int) = -i := by omega
      have h := toString_length_le (v := -i) (by omega) (k := 60) (by decide) (by rw [← n1]; exact hb)
      rw [PySem.ofString_length] at h ⊢
      have := toString_neg3 i (by omega)
      omega
  · by_cases z : i.natAbs = 0
    · rw [z]
      decide
    · exact Nat.lt_trans ((Nat.log2_lt z).mpr (Nat.lt_trans h (show (10 : Nat) ^ 60 < 2 ^ 200 by decide +kernel))) (by decide)
theorem lf_facts {v : V} {d : PyData} (h : Lf v d) : d.showable = true ∧ d.hasDict = false ∧ d.leavesShort 70 = true ∧ d.bulk ≤ 100 ∧ d.depth = 0 := by
  cases h with
  | non => exact ⟨rfl, rfl, rfl, Nat.zero_le _, rfl⟩
  | bl b => exact ⟨rfl, rfl, rfl, Nat.zero_le _, rfl⟩
  | int i h => exact ⟨decide_eq_true (int_shown h).2, rfl, decide_eq_true (int_shown h).1, Nat.zero_le _, rfl⟩
  | str z h ok =>
    have ok' : z.cps.all (fun c => decide (c < 0x110000)) = true := ok
    refine ⟨?_, rfl, ?_, h, rfl⟩
    · first
        | exact ok
        | rfl
        | simpa only [PyData.showable] using ok
    · rw [← Array.all_toList, List.all_eq_true] at ok'
      simp only [PyData.leavesShort, List.all_eq_true, decide_eq_true_eq]
      intro c hc
      have := of_decide_eq_true (ok' c hc)
      have e : (16 : Nat) ^ 8 = 4294967296 := by decide
      omega
theorem it_facts {H : Hp} {m : Bool} {v : V} {d : PyData} (h : Itm H m v d) : d.showable = true ∧ (m = false → d.hasDict = false) ∧ d.leavesShort 70 = true ∧ d.bulk ≤ 101 ∧ d.depth ≤ 1 := by
  cases h with
  | lf h =>
    obtain ⟨h1, h2, h3, h4, h5⟩ := lf_facts h
    exact ⟨h1, fun _ => h2, h3, by omega, by omega⟩
  | tup h l =>
    obtain ⟨h1, h2, h3, h4, h5⟩ := lf_facts l
    exact ⟨by simp [PyData.showable, PyData.showableAll, h1], fun _ => by simp [PyData.hasDict, PyData.hasDictAll, h2], by simp [PyData.leavesShort, PyData.leavesShortAll, h3], by simp only [PyData.bulk, PyData.bulkAll]; omega, by simp only [PyData.depth, PyData.depthAll]; omega⟩
  | lst h l =>
    obtain ⟨h1, h2, h3, h4, h5⟩ := lf_facts l
    exact ⟨by simp [PyData.showable, PyData.showableAll, h1], fun _ => by simp [PyData.hasDict, PyData.hasDictAll, h2], by simp [PyData.leavesShort, PyData.leavesShortAll, h3], by simp only [PyData.bulk, PyData.bulkAll]; omega, by simp only [PyData.depth, PyData.depthAll]; omega⟩
  | dct h => exact ⟨rfl, (fun z => nomatch z), rfl, by decide, by simp [PyData.depth, PyData.depthKv]⟩
theorem its_facts {H : Hp} {m : Bool} {vs : List V} {ds : List PyData} (h : Its3 H m vs ds) : PyData.showableAll ds = true ∧ (m = false → PyData.hasDictAll ds = false) ∧ PyData.leavesShortAll 70 ds = true ∧ PyData.bulkAll ds ≤ 102 * vs.length ∧ PyData.depthAll ds ≤ 1 := by
  induction h with
  | nil => exact ⟨rfl, fun _ => rfl, rfl, Nat.zero_le _, Nat.zero_le _⟩
  | cons h _ ih =>
    obtain ⟨h1, h2, h3, h4, h5⟩ := it_facts h
    obtain ⟨g1, g2, g3, g4, g5⟩ := ih
    exact ⟨by simp [PyData.showableAll, h1, g1], fun z => by simp [PyData.hasDictAll, h2 z, g2 z], by simp [PyData.leavesShortAll, h3, g3], by simp only [PyData.bulkAll, List.length_cons]; omega, by simp only [PyData.depthAll]; omega⟩
theorem shw_facts {H : Hp} {v : V} {d : PyData} (h : Shw H v d) : d.showable = true ∧ d.depth ≤ 2 ∧ d.shown.length ≤ sizeLine := by
  obtain ⟨m, a, xs, ds, rfl, i, l, h⟩ := h
  obtain ⟨g1, g2, g3, g4, g5⟩ := its_facts i
  have fits : ∀ d : PyData, d.leavesShort 70 = true → d.bulk ≤ 3060 → d.shown.length ≤ sizeLine := fun d h1 h2 => by
    have q := PyData.shown_le_bulk 70 (by decide) d h1
    rw [sizeLine_eq]
    omega
  rcases h with ⟨_, rfl⟩ | ⟨_, _, rfl⟩
  · exact ⟨by simpa only [PyData.showable] using g1, by simp only [PyData.depth]; omega, fits _ (by simpa only [PyData.leavesShort] using g3) (by simp only [PyData.bulk]; omega)⟩
  · exact ⟨by simpa only [PyData.showable] using g1, by simp only [PyData.depth]; omega, fits _ (by simpa only [PyData.leavesShort] using g3) (by simp only [PyData.bulk]; omega)⟩
section
variable {X : Cx} {pins : List (Addr × Obj)} {σ : L2.St} {H : Hp} {s : Shared}
theorem Lf.reads {v : V} {d : PyData} {u : Value} (h : Lf v d) (r : RelV v u) : Reads s.heap u d [] := by
  cases h with
  | non =>
    cases r
    exact .none
  | bl b =>
    cases r
    exact .bool b
  | int i h =>
    obtain ⟨t, rfl⟩ := r
    exact .int i t
  | str z h ok =>
    obtain ⟨t, rfl⟩ := r
    exact .str z t
theorem Itm.reads (I : Inv X pins σ H s) {m : Bool} {v : V} {d : PyData} {u : Value} (h : Itm H m v d) (r : RelV v u) : ∃ as, Reads s.heap u d as ∧ (m = true → sysModules ∉ as) := by
  cases h with
  | lf h => exact ⟨[], h.reads r, fun _ z => nomatch z⟩
  | @tup a v d h l =>
    cases r
    obtain ⟨its, rv, ⟨o, ho, hc, n, hd⟩, _⟩ := I.tuple (SqT.of h)
    cases rv with
    | cons r1 r2 =>
      cases r2
      exact ⟨_, .tuple ho hc hd (.cons (l.reads r1) .nil), fun z => nomatch z⟩
  | @lst a v d h l =>
    cases r
    obtain ⟨its, rv, ⟨o, n, ho, hc, _, hd⟩, _⟩ := I.list (SqL.of h)
    cases rv with
    | cons r1 r2 =>
      cases r2
      exact ⟨_, .list ho hc hd (.cons (l.reads r1) .nil), fun z => nomatch z⟩
  | @dct a h =>
    cases r
    obtain ⟨_, ns, vs, kv, o, es, ep, h1, h2, h3, h4⟩ := dk_of I.hok h
    cases kv
    have e0 : es.toList = [] := by
      have pr := h4.2.1
      generalize es.toList = l at pr
      cases pr
      rfl
    refine ⟨_, .dict (kvs := []) h1 h2.1 h3 (by rw [e0]; exact .nil) (by rw [e0]; exact .nil), fun _ z => ?_⟩
    have z1 : sysModules = a := by
      simpa only [List.cons_append, List.nil_append, List.mem_cons, List.not_mem_nil, or_false] using z
    rw [← z1, beq_self_eq_true] at ns
    exact nomatch ns
theorem Its3.reads (I : Inv X pins σ H s) {m : Bool} : ∀ {vs : List V} {ds : List PyData} {us : List Value}, Its3 H m vs ds → Vals vs us → ∃ as, ReadsAll s.heap us ds as ∧ (m = true → sysModules ∉ as)
  | _, _, _, .nil, r => by
    cases r
    exact ⟨_, .nil, fun _ z => nomatch z⟩
  | _, _, _, .cons h t, r => by
    cases r with
    | cons r1 r2 =>
      obtain ⟨as, q1, n1⟩ := h.reads I r1
      obtain ⟨bs, q2, n2⟩ := t.reads I r2
      exact ⟨_, .cons q1 q2, fun e z => (List.mem_append.mp z).elim (n1 e) (n2 e)⟩
end
def spShw : List V → Hp → VK → Prop := fun vs H Q => ∃ (v : V) (d : PyData), vs = [v] ∧ Shw H v d ∧ Q (.str d.shown) H
theorem cr_reprS {X : Cx} (hG : X.A.guards = some []) (hu : X.A.units + 64 < cLine) : CallR X (.builtin "repr") spShw := by
  rintro pins s σ H vs us Q I r ⟨v, d, rfl, sw, q⟩
  obtain ⟨sh, dp, sz⟩ := shw_facts sw
  obtain ⟨m, a, xs, ds, rfl, i, l, h⟩ := sw
  rw [Vals.ref1 r]
  have done : ∀ as, Reads s.heap (.ref a) d as → (d.hasDict = true → sysModules ∉ as) → wpAny (model X.prog X.w) X.A (call (.builtin "repr") [.ref a]) (EP X pins σ Q) X.xe s := fun as rd hsm =>
    repr_of_reads' rd sh hsm hG (by omega) (fun _ _ e => e) (fun h' u tk hk => ⟨.str d.shown, H, I.kept hk, ⟨_, rfl⟩, q⟩) sz
  rcases h with ⟨h, rfl⟩ | ⟨rfl, h, rfl⟩
  · obtain ⟨its, rv, ⟨o, ho, hc, n, hd⟩, _⟩ := I.tuple (SqT.of h)
    obtain ⟨as, ra, hn⟩ := i.reads I rv
    refine done as (.tuple ho hc hd ra) fun z => ?_
    cases m with
    | true => exact hn rfl
    | false =>
      rw [show (PyData.tuple ds).hasDict = PyData.hasDictAll ds from rfl, (its_facts i).2.1 rfl] at z
      exact nomatch z
  · obtain ⟨its, rv, ⟨o, n, ho, hc, _, hd⟩, _⟩ := I.list (SqL.of h)
    obtain ⟨as, ra, hn⟩ := i.reads I rv
    refine done _ (.list ho hc hd ra) fun z => ?_
    rw [show (PyData.list ds).hasDict = PyData.hasDictAll ds from rfl, (its_facts i).2.1 rfl] at z
    exact nomatch z
/-! ### the law's own names and entries -/
def spSame : Sp := fun vs H Q _ => ∃ a b : Bool, vs = [.bl a, .bl b] ∧ Q (.bl (decide (a = b))) H
def spOwn3 : Sp := fun vs H Q _ => ∃ v : V, vs = [v] ∧ Thg H v ∧ (∀ z, v = .str z → PyData.strOk z = true) ∧ ∀ H', Same H H' → Q (.bl (nmV v)) H'
def spLWhole : Sp := fun vs H Q _ => ∃ (v : V) (lo hi : Int), vs = [v, .int lo, .int hi] ∧ Thg H v ∧ Q (.bl (whB lo hi v)) H
def spEnds : Sp := fun vs H Q _ => ∃ (a : Addr) (xs : List V) (z y4 : Str) (v : V), vs = [.ref a] ∧ H a = some (.tup xs) ∧ xs[0]? = some (.str z) ∧ xs[4]? = some (.str y4) ∧ xs[5]? = some v ∧ Thg H v ∧ (∀ z, v = .str z → PyData.strOk z = true) ∧ ∀ H', Same H H' → Q (.bl (endsB z y4 v)) H'
def Okv (v : V) : Prop := ∀ z, v = .str z → PyData.strOk z = true
def spLIsE : Sp := fun vs H Q _ => ∃ v : V, vs = [v] ∧ ((Thg H v ∧ (∀ a xs, v = .ref a → H a ≠ some (.tup xs)) ∧ ∀ H', Same H H' → Q (.bl false) H') ∨
  ∃ (a : Addr) (xs : List V), v = .ref a ∧ H a = some (.tup xs) ∧ xs.length ≤ 1000 ∧ (∀ x ∈ xs, Thg H x ∧ Okv x) ∧ ∀ b, (b = true ↔ IsE xs) → ∀ H', Same H H' → Q (.bl b) H')
/-- texts of single signs that are no letters -/
def badS (l : List Nat) : List Str := (l.filter fun c => !decide (c ∈ abc.cps.toList)).map fun c => ⟨#[c]⟩
theorem lay_sign : ∀ {l : List Nat}, (∀ c ∈ l, c < 0x110000) → PyData.canLayAll0 ((badS l).map PyData.str) = true
  | [], _ => rfl
  | c :: r, h => by
    have ih := lay_sign (l := r) fun z hz => h z (List.mem_cons_of_mem _ hz)
    have ok : PyData.strOk ⟨#[c]⟩ = true := by
      unfold PyData.strOk
      rw [← Array.all_toList]
      show (([c] : List Nat).all fun c => decide (c < 0x110000)) = true
      rw [List.all_cons, decide_eq_true (h c List.mem_cons_self)]
      rfl
    unfold badS at ih ⊢
    rw [List.filter_cons]
    split
    · rw [List.map_cons, List.map_cons, PyData.canLayAll0, PyData.canLay0, ok, ih]
      rfl
    · exact ih
theorem deep_strs3 : ∀ ys : List Str, PyData.depthAll (ys.map PyData.str) = 0
  | [] => rfl
  | _ :: r => by simp [PyData.depthAll, PyData.depth, deep_strs3 r]
theorem dp_strs3 {K : PySem.W.Frag} {H : Hp} : ∀ ys : List Str, DpAll K H (ys.map V.str) (ys.map PyData.str)
  | [] => .nil
  | y :: r => .cons (.str y) (dp_strs3 r)
theorem eqv_nil (ys : List Str) : PyData.eqv (.list (ys.map PyData.str)) (.list []) = decide (ys = []) := by
  cases ys with
  | nil => simp [PyData.eqv, PyData.eqvAll]
  | cons y r => simp [PyData.eqv, PyData.eqvAll]
theorem badS_nil {l : List Nat} : decide (badS l = []) = l.all signB := by
  unfold badS
  rw [Bool.eq_iff_iff, decide_eq_true_eq, List.map_eq_nil_iff, List.filter_eq_nil_iff, List.all_eq_true]
  exact ⟨fun h c hc => by simpa [signB] using h c hc, fun h c hc => by simpa [signB] using h c hc⟩
section
variable {P : Program} {w : World} {K : PySem.W.Frag} {mg : Str → Option Value} {base : Heap}
theorem scSame : FnScope ["_law_found", "_law_due"] ["_law_found", "_law_due"] (defScope sSame) := ⟨rfl, rfl, rfl, by decide +kernel, rfl, by decide +kernel, by decide +kernel⟩
theorem ok_same {f : Addr} {fd : FuncData} (F : Fun K "_law_same" "_law_same" sSame f fd) : FnOk P w K mg base CX0 1 f fd ["_law_found", "_law_due"] spSame := by
  refine F.ok scSame (fun vs H Q E h => ?_) (fun cdv A outer s H vs Q E hr h => ?_)
  · obtain ⟨a, b, rfl, _⟩ := h
    rfl
  · obtain ⟨a, b, rfl, q⟩ := h
    refine ⟨_, pss_cons (ps_if (pt_val (pv 1)) (pss_one (ps_ret (pe_cmpR op_isBl (pv 0) pe_bl (nomark _)))) pss_nil) (pss_one (ps_ret (pe_cmpR op_isBl (pv 0) pe_bl (nomark _)))), ?_⟩
    refine ⟨_, rfl, b, rfl, ?_⟩
    cases b with
    | true => exact iteT ⟨_, rfl, a, true, rfl, rfl, q⟩
    | false => exact iteF ⟨_, rfl, a, false, rfl, rfl, q⟩
abbrev sOwnN : List Str := ["_law_thing", "_law_sign"]
theorem sc_sOwn : FnScope sOwnN ["_law_thing"] (defScope sOwn) := ⟨rfl, rfl, rfl, by decide +kernel, rfl, by decide +kernel, by decide +kernel⟩
theorem ok_own3 {f : Addr} {fd : FuncData} (F : Fun K "_law_is_name" "_law_is_name" sOwn f fd) (mis : mg "isinstance" = none) (mT_str : mg "str" = none) (ml : mg "len" = none) : FnOk P w K mg base CX0 1 f fd ["_law_thing"] spOwn3 := by
  refine F.ok sc_sOwn (fun vs H Q E h => ?_) (fun cdv A outer s H vs Q E hr h => ?_)
  · obtain ⟨v, rfl, _⟩ := h
    rfl
  · obtain ⟨v, rfl, th, so, q⟩ := h
    have nd := sc_sOwn.nd
    refine ⟨_, pss_cons (ps_if (PW.pt (pw_or (pt_not (pt_val (pe_callB call_isi (by rfl) mis (by decide +kernel) (pa_cons (pv 0) (pa_cons (pe_bltn (v := .ty "str") (u := .type "str") (by rfl) mT_str (by decide +kernel) rfl) pa_nil))))) (pw_or (pt_cmpR op_eq (pe_callB call_len_str (by rfl) ml PySem.boot_len (pa_cons (pv 0) pa_nil)) pe_int (nomark _)) (pw_or1 (pt_cmpR op_gt (pe_callB call_len_str (by rfl) ml PySem.boot_len (pa_cons (pv 0) pa_nil)) pe_int (nomark _)))))) (pss_one (ps_ret pe_bl)) pss_nil)
      (pss_one (ps_ret (pe_cmpR (op_eqD hr.units) (pe_lc (own := [("_law_sign", 1)]) (g := gName 1) (tt := _) (te := tVar 1) rfl nd (pi_str (pv 0)) (blkOk_by (N := sOwnN) (sc := defScope sOwn) (by decide +kernel)) (fun _ _ _ _ _ => (pg_name (i := 1) nd rfl (Or.inl rfl))) (fun _ _ _ _ _ => (pts_one (pt_cmpR op_notIn_sign (pv 1) pe_str (by rfl)))) (fun _ _ _ _ _ => (pv 1))) (pe_lst pa_nil) (nomark _)))), ?_⟩
    obtain ⟨n, ty, m, st, _⟩ := th.ty (K := K)
    by_cases zs : n = "str"
    rotate_left
    · have e : nmV v = false := by
        cases v with
        | str z => exact absurd (st.mpr ⟨z, rfl⟩) zs
        | _ => rfl
      rw [e] at q
      exact ⟨_, rfl, _, _, _, _, false, rfl, .ty "str", ty, kit_ty (by rw [kit_str m, decide_eq_false zs]), _, rfl, iteT (q H fun _ _ h => h)⟩
    obtain ⟨z, rfl⟩ := st.mp zs
    have hz1 : z.length ≤ 1000 := by cases th with | str _ h => exact h
    have hz : z.length ≤ sizeLine := Nat.le_of_lt (small1000 hz1)
    have zo : ∀ c ∈ z.cps.toList, c < 0x110000 := by
      have h := so z rfl
      unfold PyData.strOk at h
      rw [← Array.all_toList, List.all_eq_true] at h
      exact fun c hc => of_decide_eq_true (h c hc)
    refine ⟨_, rfl, _, _, _, _, true, rfl, .ty "str", .base (.str z), kit_ty (by decide +kernel), _, rfl, iteF ?_⟩
    have q2 : ∀ H', Same H H' → Q (.bl (nameB z)) H' := q
    refine ⟨_, rfl, z, rfl, hz, rfl, _, rfl, ite2 (fun e1 => ?_) (fun e1 => ?_)⟩
    · have e2 : (z.length : Int) = 0 := V.int.inj (of_decide_eq_true e1)
      rw [nameB_short (by omega)] at q2
      exact q2 H fun _ _ h => h
    have e2 : ¬ (z.length : Int) = 0 := fun h => e1 (decide_eq_true (congrArg V.int h))
    refine ⟨_, rfl, z, rfl, hz, _, 8, rfl, rfl, _, rfl, ite2 (fun e3 => ?_) (fun e3 => ?_)⟩
    · have e4 : (8 : Int) < (z.length : Int) := of_decide_eq_true e3
      rw [nameB_long (by omega)] at q2
      exact q2 H fun _ _ h => h
    have e4 : ¬ (8 : Int) < (z.length : Int) := fun h => e3 (decide_eq_true h)
    rw [nameB_in (by omega) (by omega), ← badS_nil] at q2
    refine ⟨_, rfl, z, rfl, fun D nD => lc_it walk_str (fun i H' => Same H H' ∧ H' D = some (.lst ((badS (z.cps.toList.take i)).map V.str))) ⟨same_new nD, upd_same⟩ (fun _ _ _ _ => True.intro) ?_ ?_⟩
    · rintro i v H1 H2 hi ⟨s1, h1⟩ ⟨rfl, cc, hc, rfl⟩
      have hc' : z.cps.toList[i]? = some cc := by rw [Array.getElem?_toList]; exact hc
      have tk : badS (z.cps.toList.take (i + 1)) = badS (z.cps.toList.take i) ++ badS [cc] := by
        rw [List.take_add_one, hc']
        unfold badS
        rw [List.filter_append, List.map_append]
        rfl
      refine ⟨rfl, _, rfl, cc, abc, rfl, rfl, _, rfl, ?_⟩
      have lb : (badS (z.cps.toList.take i)).length ≤ 1000 := by
        unfold badS
        rw [List.length_map]
        refine Nat.le_trans (List.length_filter_le _ _) (Nat.le_trans (List.length_take_le _ _) (Nat.le_trans (Nat.le_of_lt hi) hz1))
      by_cases b : cc ∈ abc.cps.toList
      · rw [decide_eq_true b]
        refine iteF ⟨s1, ?_⟩
        rw [tk]
        have : badS [cc] = [] := by
          unfold badS
          rw [List.filter_cons, decide_eq_true b]
          rfl
        rw [this, List.append_nil]
        exact h1
      · rw [decide_eq_false b]
        refine iteT ⟨_, rfl, _, h1, ?_, ?_, ?_⟩
        · rw [List.length_map]
          exact Nat.lt_of_le_of_lt lb (by decide)
        · exact fun a o e => by
            rw [upd_ne (fun w => by rw [w] at e; rw [nD] at e; exact nomatch e)]
            exact s1 a o e
        · rw [tk]
          have : badS [cc] = [⟨#[cc]⟩] := by
            unfold badS
            rw [List.filter_cons, decide_eq_false b]
            rfl
          rw [this, List.map_append]
          exact upd_same
    · rintro H2 ⟨s2, h2⟩
      refine ⟨Nat.zero_le _, fun p np => ?_⟩
      have s3 : Same H2 (upd H2 p (.lst [])) := same_new np
      have h3 : (upd H2 p (.lst [])) p = some (.lst []) := upd_same
      have hD := s3 _ _ h2
      generalize upd H2 p (.lst []) = H3 at s3 h3 hD ⊢
      have full : z.cps.toList.take z.cps.size = z.cps.toList := List.take_of_length_le (Nat.le_of_eq (Array.length_toList ..))
      rw [full] at hD
      refine ⟨_, _, .lst (SqL.of hD) (dp_strs3 _), .lst (SqL.of h3) .nil, ?_, by decide +kernel, ?_⟩
      · simp [SeqAt.shaped, PyData.canLay0, PyData.depth, lay_sign zo, deep_strs3]
      · rw [eqv_nil]
        exact q2 H3 (s2.trans s3)
abbrev sLWholeN : List Str := ["_law_thing", "_law_least", "_law_most"]
theorem sc_sLWhole : FnScope sLWholeN ["_law_thing", "_law_least", "_law_most"] (defScope sLWhole) := ⟨rfl, rfl, rfl, by decide +kernel, rfl, by decide +kernel, by decide +kernel⟩
theorem ok_lwhole {f : Addr} {fd : FuncData} (F : Fun K "_law_whole" "_law_whole" sLWhole f fd) (mis : mg "isinstance" = none) (mT_int : mg "int" = none) (mT_bool : mg "bool" = none) : FnOk P w K mg base CX0 1 f fd ["_law_thing", "_law_least", "_law_most"] spLWhole := by
  refine F.ok sc_sLWhole (fun vs H Q E h => ?_) (fun cdv A outer s H vs Q E hr h => ?_)
  · obtain ⟨v, lo, hi, rfl, _⟩ := h
    rfl
  · obtain ⟨v, lo, hi, rfl, th, q⟩ := h
    have nd := sc_sLWhole.nd
    refine ⟨_, pss_one (ps_ret (pe_and (pe_callB call_isi (by rfl) mis (by decide +kernel) (pa_cons (pv 0) (pa_cons (pe_bltn (v := .ty "int") (u := .type "int") (by rfl) mT_int (by decide +kernel) rfl) pa_nil))) (pe_and (pe_not (pe_callB call_isi (by rfl) mis (by decide +kernel) (pa_cons (pv 0) (pa_cons (pe_bltn (v := .ty "bool") (u := .type "bool") (by rfl) mT_bool (by decide +kernel) rfl) pa_nil)))) (pe_one (pe_chain op_le op_le (pv 1) (pv 0) (pv 2)))))), ?_⟩
    cases th with
    | str z h => exact ⟨_, rfl, _, _, _, _, false, rfl, .ty "int", .base (.str z), kit_ty (by decide +kernel), _, rfl, iteF q⟩
    | int i =>
      refine ⟨_, rfl, _, _, _, _, true, rfl, .ty "int", .base (.int i), kit_ty (by decide +kernel), _, rfl, iteT ⟨_, rfl, _, _, _, _, false, rfl, .ty "bool", .base (.int i), kit_ty (by decide +kernel), _, rfl, _, rfl, iteT ?_⟩⟩
      have q0 : Q (.bl (decide (lo ≤ i) && decide (i ≤ hi))) H := q
      refine ⟨_, rfl, _, rfl, lo, i, rfl, rfl, _, rfl, ite2 (fun a1 => ?_) (fun a1 => ?_)⟩
      · rw [a1, Bool.true_and] at q0
        exact ⟨_, rfl, i, hi, rfl, rfl, q0⟩
      · rw [Bool.eq_false_iff.mpr a1, Bool.false_and] at q0
        exact q0
    | bl b => exact ⟨_, rfl, _, _, _, _, true, rfl, .ty "int", .base (.bl b), kit_ty (by decide +kernel), _, rfl, iteT ⟨_, rfl, _, _, _, _, true, rfl, .ty "bool", .base (.bl b), kit_ty (by decide +kernel), _, rfl, _, rfl, iteF q⟩⟩
    | non => exact ⟨_, rfl, _, _, _, _, false, rfl, .ty "int", .base .non, kit_ty (by decide +kernel), _, rfl, iteF q⟩
    | lst h => exact ⟨_, rfl, _, _, _, _, false, rfl, .ty "int", .base (.lst h), kit_ty (by decide +kernel), _, rfl, iteF q⟩
    | tup h => exact ⟨_, rfl, _, _, _, _, false, rfl, .ty "int", .base (.tup h), kit_ty (by decide +kernel), _, rfl, iteF q⟩
    | dct h => exact ⟨_, rfl, _, _, _, _, false, rfl, .ty "int", .base (.dK h), kit_ty (by decide +kernel), _, rfl, iteF q⟩
abbrev sEndsN : List Str := ["_law_thing"]
theorem sc_sEnds : FnScope sEndsN ["_law_thing"] (defScope sEnds) := ⟨rfl, rfl, rfl, by decide +kernel, rfl, by decide +kernel, by decide +kernel⟩
theorem ok_ends {f fN : Addr} {fd dN : FuncData} (F : Fun K "_law_ends" "_law_ends" sEnds f fd) (NM : DefT P w K mg base "_law_is_name" 1 fN dN ["_law_thing"] spOwn3) (mis : mg "isinstance" = none) (mT_str : mg "str" = none) : FnOk P w K mg base CX0 2 f fd ["_law_thing"] spEnds := by
  refine F.ok sc_sEnds (fun vs H Q E h => ?_) (fun cdv A outer s H vs Q E hr h => ?_)
  · obtain ⟨a, xs, z, y4, v, rfl, _⟩ := h
    rfl
  · obtain ⟨a, xs, z, y4, v, rfl, ha, x0, x4, x5, th, so, q⟩ := h
    have nd := sc_sEnds.nd
    refine ⟨_, pss_cons (ps_if (PW.pt (pw_and (pt_cmpR op_eq (pe_ix ix_tup (pv 0) pe_int (fun _ _ => rfl)) pe_str (nomark _)) (pw_and (pt_val (pe_callB call_isi (by rfl) mis (by decide +kernel) (pa_cons (pe_ix ix_tup (pv 0) pe_int (fun _ _ => rfl)) (pa_cons (pe_bltn (v := .ty "str") (u := .type "str") (by rfl) mT_str (by decide +kernel) rfl) pa_nil)))) (pw_and1 (pt_cmpR op_eq (pe_ix ix_tup (pv 0) pe_int (fun _ _ => rfl)) pe_str (nomark _)))))) (pss_one (ps_ret pe_bl)) pss_nil)
      (pss_one (ps_ret (pe_and (pe_call NM.ok hr (by rfl) NM.g NM.kp NM.b .nil pass0 (pa_cons (pe_ix ix_tup (pv 0) pe_int (fun _ _ => rfl)) pa_nil)) (pe_one (pe_cmpR op_ne (pe_ix ix_tup (pv 0) pe_int (fun _ _ => rfl)) (pe_ix ix_tup (pv 0) pe_int (fun _ _ => rfl)) (nomark _)))))), ?_⟩
    have sq : ∀ {H'}, Same H H' → SqT K H' a xs := fun s => SqT.of (s _ _ ha)
    have s0 : Same H H := fun _ _ h => h
    -- is it a name that differs
    have last : ¬ (z = "some" ∧ v = .str "") → ∀ H', Same H H' → ((nmV v = true → Q (.bl (!decide (v = .str y4))) H') ∧ (nmV v = false → Q (.bl false) H')) := fun n H' s' => by
      refine ⟨fun e => ?_, fun e => ?_⟩
      · have := q H' s'
        unfold endsB at this
        rw [if_neg n, e, Bool.true_and] at this
        exact this
      · have := q H' s'
        unfold endsB at this
        rw [if_neg n, e, Bool.false_and] at this
        exact this
    refine ⟨_, rfl, a, xs, 0, _, rfl, rfl, sq s0, atI_nat (j := 0) x0, rfl, _, rfl, ite2 (fun e1 => ?_) (fun e1 => ?_)⟩
    rotate_left
    · have k := last (fun y => e1 (decide_eq_true (congrArg V.str y.1)))
      refine ⟨_, rfl, a, xs, 5, _, rfl, rfl, sq s0, atI_nat (j := 5) x5, _, rfl, th, so, fun H' s' => ⟨_, rfl, ?_⟩⟩
      cases nv : nmV v with
      | false => exact iteF ((k H' s').2 nv)
      | true =>
        obtain ⟨y, vy, _⟩ := nm_str nv
        subst vy
        refine iteT ⟨_, rfl, a, xs, 4, _, rfl, rfl, sq s', atI_nat (j := 4) x4, _, rfl, a, xs, 5, _, rfl, rfl, sq s', atI_nat (j := 5) x5, rfl, ?_⟩
        have := (k H' s').1 nv
        rw [show decide (V.str y = V.str y4) = decide (V.str y4 = V.str y) from decide_eq_decide.mpr ⟨Eq.symm, Eq.symm⟩] at this
        exact this
    have ez : z = "some" := V.str.inj (of_decide_eq_true e1)
    obtain ⟨n, ty, m, st, _⟩ := th.ty (K := K)
    by_cases zs : n = "str"
    rotate_left
    · refine ⟨_, rfl, a, xs, 5, _, rfl, rfl, sq s0, atI_nat (j := 5) x5, _, _, _, _, false, rfl, .ty "str", ty, kit_ty (by rw [kit_str m, decide_eq_false zs]), _, rfl, iteF ?_⟩
      · have k := last (fun y => zs (st.mpr ⟨_, y.2⟩))
        refine ⟨_, rfl, a, xs, 5, _, rfl, rfl, sq s0, atI_nat (j := 5) x5, _, rfl, th, so, fun H' s' => ⟨_, rfl, ?_⟩⟩
        cases nv : nmV v with
        | false => exact iteF ((k H' s').2 nv)
        | true =>
          obtain ⟨y, vy, _⟩ := nm_str nv
          subst vy
          refine iteT ⟨_, rfl, a, xs, 4, _, rfl, rfl, sq s', atI_nat (j := 4) x4, _, rfl, a, xs, 5, _, rfl, rfl, sq s', atI_nat (j := 5) x5, rfl, ?_⟩
          have := (k H' s').1 nv
          rw [show decide (V.str y = V.str y4) = decide (V.str y4 = V.str y) from decide_eq_decide.mpr ⟨Eq.symm, Eq.symm⟩] at this
          exact this
    obtain ⟨y, rfl⟩ := st.mp zs
    refine ⟨_, rfl, a, xs, 5, _, rfl, rfl, sq s0, atI_nat (j := 5) x5, _, _, _, _, true, rfl, .ty "str", .base (.str y), kit_ty (by decide +kernel), _, rfl, iteT ?_⟩
    refine ⟨_, rfl, a, xs, 5, _, rfl, rfl, sq s0, atI_nat (j := 5) x5, rfl, _, rfl, ite2 (fun e2 => ?_) (fun e2 => ?_)⟩
    · have := q H s0
      unfold endsB at this
      rw [if_pos ⟨ez, of_decide_eq_true e2⟩] at this
      exact this
    · have k := last (fun y => e2 (decide_eq_true y.2))
      refine ⟨_, rfl, a, xs, 5, _, rfl, rfl, sq s0, atI_nat (j := 5) x5, _, rfl, th, so, fun H' s' => ⟨_, rfl, ?_⟩⟩
      cases nv : nmV (V.str y) with
      | false => exact iteF ((k H' s').2 nv)
      | true =>
        obtain ⟨y, vy, _⟩ := nm_str nv
        cases vy
        refine iteT ⟨_, rfl, a, xs, 4, _, rfl, rfl, sq s', atI_nat (j := 4) x4, _, rfl, a, xs, 5, _, rfl, rfl, sq s', atI_nat (j := 5) x5, rfl, ?_⟩
        have := (k H' s').1 nv
        rw [show decide (V.str y = V.str y4) = decide (V.str y4 = V.str y) from decide_eq_decide.mpr ⟨Eq.symm, Eq.symm⟩] at this
        exact this
end
section
variable {P : Program} {w : World} {K : PySem.W.Frag} {mg : Str → Option Value} {base : Heap}
theorem yyS {a : Str} : V.bl (decide (V.str a = V.str a)) = V.bl true := congrArg V.bl (decide_eq_true rfl)
theorem nnS {a b : Str} (h : a ≠ b) : V.bl (decide (V.str a = V.str b)) = V.bl false := congrArg V.bl (decide_eq_false fun z => h (V.str.inj z))
theorem cpow9 : CPow 10 9 := by show (0 : Int) ≤ 9 ∧ (9 : Int) ≤ 1000000 ∧ (10 : Int).natAbs < 2 ^ 64; decide
theorem e9 : (10 : Int) ^ (9 : Int).toNat = 1000000000 := by decide
abbrev sLIsEntryN : List Str := ["_law_thing", "_law_word"]
theorem sc_sLIsEntry : FnScope sLIsEntryN ["_law_thing"] (defScope sLIsEntry) := ⟨rfl, rfl, rfl, by decide +kernel, rfl, by decide +kernel, by decide +kernel⟩
set_option maxHeartbeats 2000000 in
theorem ok_lisE {f fN fW fE : Addr} {fd dN dW dE : FuncData} (F : Fun K "_law_is_entry" "_law_is_entry" sLIsEntry f fd) (NM : DefT P w K mg base "_law_is_name" 1 fN dN ["_law_thing"] spOwn3) (LW : DefT P w K mg base "_law_whole" 1 fW dW ["_law_thing", "_law_least", "_law_most"] spLWhole)
    (EN : DefT P w K mg base "_law_ends" 2 fE dE ["_law_thing"] spEnds) (mis : mg "isinstance" = none) (mT_tuple : mg "tuple" = none) (ml : mg "len" = none) (mT_str : mg "str" = none) : FnOk P w K mg base CX0 3 f fd ["_law_thing"] spLIsE := by
  refine F.ok sc_sLIsEntry (fun vs H Q E h => ?_) (fun cdv A outer s H vs Q E hr h => ?_)
  · obtain ⟨v, rfl, _⟩ := h
    rfl
  · obtain ⟨v, rfl, h⟩ := h
    have nd := sc_sLIsEntry.nd
    have hr1 : Room 1 _ := hr.mono (by decide)
    refine ⟨_, pss_cons (ps_if (PW.pt (pw_or (pt_not (pt_val (pe_callB call_isi (by rfl) mis (by decide +kernel) (pa_cons (pv 0) (pa_cons (pe_bltn (v := .ty "tuple") (u := .type "tuple") (by rfl) mT_tuple (by decide +kernel) rfl) pa_nil))))) (pw_or (pt_cmpR op_lt (pe_callB call_len_seq (by rfl) ml PySem.boot_len (pa_cons (pv 0) pa_nil)) pe_int (nomark _)) (pw_or1 (pt_not (pt_val (pe_callB call_isi (by rfl) mis (by decide +kernel) (pa_cons (pe_ix ix_tup (pv 0) pe_int (fun _ _ => rfl)) (pa_cons (pe_bltn (v := .ty "str") (u := .type "str") (by rfl) mT_str (by decide +kernel) rfl) pa_nil))))))))) (pss_one (ps_ret pe_bl)) pss_nil)
      (pss_cons (ps_if (PW.pt (pw_or (pt_not (pt_val (pe_call NM.ok hr1 (by rfl) NM.g NM.kp NM.b .nil pass0 (pa_cons (pe_ix ix_tup (pv 0) pe_int (fun _ _ => rfl)) pa_nil)))) (pw_or1 (pt_not (pt_val (pe_call LW.ok hr1 (by rfl) LW.g LW.kp LW.b .nil pass0 (pa_cons (pe_ix ix_tup (pv 0) pe_int (fun _ _ => rfl)) (pa_cons pe_int (pa_cons pe_int pa_nil))))))))) (pss_one (ps_ret pe_bl)) pss_nil)
      (pss_cons (ps_if (PW.pt (pw_or (pt_not (pt_val (pe_call NM.ok hr1 (by rfl) NM.g NM.kp NM.b .nil pass0 (pa_cons (pe_ix ix_tup (pv 0) pe_int (fun _ _ => rfl)) pa_nil)))) (pw_or1 (pt_not (pt_val (pe_call NM.ok hr1 (by rfl) NM.g NM.kp NM.b .nil pass0 (pa_cons (pe_ix ix_tup (pv 0) pe_int (fun _ _ => rfl)) pa_nil))))))) (pss_one (ps_ret pe_bl)) pss_nil)
      (pss_cons (ps_set (i := 1) nd rfl (Or.inl rfl) (pe_ix ix_tup (pv 0) pe_int (fun _ _ => rfl)))
      (pss_cons (ps_if (pt_cmpR op_eq (pv 1) pe_str (nomark _)) (pss_one (ps_ret (pe_and (pe_cmpR op_eq (pe_callB call_len_seq (by rfl) ml PySem.boot_len (pa_cons (pv 0) pa_nil)) pe_int (nomark _)) (pe_one (pe_cmpR op_ne (pe_ix ix_tup (pv 0) pe_int (fun _ _ => rfl)) (pe_ix ix_tup (pv 0) pe_int (fun _ _ => rfl)) (nomark _)))))) pss_nil)
      (pss_cons (ps_if (pt_cmpR op_eq (pv 1) pe_str (nomark _)) (pss_one (ps_ret (pe_cmpR op_eq (pe_callB call_len_seq (by rfl) ml PySem.boot_len (pa_cons (pv 0) pa_nil)) pe_int (nomark _)))) pss_nil)
      (pss_cons (ps_if (pt_cmpR op_eq (pv 1) pe_str (nomark _)) (pss_one (ps_ret (pe_and (pe_cmpR op_eq (pe_callB call_len_seq (by rfl) ml PySem.boot_len (pa_cons (pv 0) pa_nil)) pe_int (nomark _)) (pe_and (pe_call LW.ok hr1 (by rfl) LW.g LW.kp LW.b .nil pass0 (pa_cons (pe_ix ix_tup (pv 0) pe_int (fun _ _ => rfl)) (pa_cons pe_int (pa_cons (pe_op op_pow pe_int pe_int) pa_nil)))) (pe_one (pe_call LW.ok hr1 (by rfl) LW.g LW.kp LW.b .nil pass0 (pa_cons (pe_ix ix_tup (pv 0) pe_int (fun _ _ => rfl)) (pa_cons pe_int (pa_cons (pe_op op_pow pe_int pe_int) pa_nil))))))))) pss_nil)
      (pss_cons (ps_if (pt_cmpR op_eq (pv 1) pe_str (nomark _)) (pss_one (ps_ret (pe_and (pe_cmpR op_eq (pe_callB call_len_seq (by rfl) ml PySem.boot_len (pa_cons (pv 0) pa_nil)) pe_int (nomark _)) (pe_one (pe_call LW.ok hr1 (by rfl) LW.g LW.kp LW.b .nil pass0 (pa_cons (pe_ix ix_tup (pv 0) pe_int (fun _ _ => rfl)) (pa_cons pe_int (pa_cons (pe_op op_pow pe_int pe_int) pa_nil)))))))) pss_nil)
      (pss_cons (ps_if (pt_cmpR op_eq (pv 1) pe_str (nomark _)) (pss_one (ps_ret (pe_and (pe_cmpR op_eq (pe_callB call_len_seq (by rfl) ml PySem.boot_len (pa_cons (pv 0) pa_nil)) pe_int (nomark _)) (pe_and (pe_call EN.ok hr (by rfl) EN.g EN.kp EN.b .nil pass0 (pa_cons (pv 0) pa_nil)) (pe_one (pe_call LW.ok hr1 (by rfl) LW.g LW.kp LW.b .nil pass0 (pa_cons (pe_ix ix_tup (pv 0) pe_int (fun _ _ => rfl)) (pa_cons pe_int (pa_cons (pe_op op_pow pe_int pe_int) pa_nil))))))))) pss_nil)
      (pss_cons (ps_if (pt_cmpR op_eq (pv 1) pe_str (nomark _)) (pss_one (ps_ret (pe_and (pe_cmpR op_eq (pe_callB call_len_seq (by rfl) ml PySem.boot_len (pa_cons (pv 0) pa_nil)) pe_int (nomark _)) (pe_one (pe_call EN.ok hr (by rfl) EN.g EN.kp EN.b .nil pass0 (pa_cons (pv 0) pa_nil)))))) pss_nil)
      (pss_one (ps_ret (pe_and (pe_cmpR op_eq (pv 1) pe_str (nomark _)) (pe_and (pe_cmpR op_eq (pe_callB call_len_seq (by rfl) ml PySem.boot_len (pa_cons (pv 0) pa_nil)) pe_int (nomark _)) (pe_and (pe_call LW.ok hr1 (by rfl) LW.g LW.kp LW.b .nil pass0 (pa_cons (pe_ix ix_tup (pv 0) pe_int (fun _ _ => rfl)) (pa_cons pe_int (pa_cons (pe_op op_pow pe_int pe_int) pa_nil)))) (pe_one (pe_call NM.ok hr1 (by rfl) NM.g NM.kp NM.b .nil pass0 (pa_cons (pe_ix ix_tup (pv 0) pe_int (fun _ _ => rfl)) pa_nil))))))))))))))))), ?_⟩
    have s0 : Same H H := fun _ _ h => h
    rcases h with ⟨th, nt, q⟩ | ⟨a, xs, rfl, ha, lx, hT, q⟩
    · obtain ⟨n, ty, m, _, tt⟩ := th.ty (K := K)
      have nn : n ≠ "tuple" := fun z => by
        obtain ⟨a, xs, e, h2⟩ := tt.mp z
        exact nt a xs e h2
      exact ⟨_, rfl, _, _, _, _, false, rfl, .ty "tuple", ty, kit_ty (by rw [kit_tup m, decide_eq_false nn]), _, rfl, iteT (q H s0)⟩
    have fin : ∀ (b : Bool) (H' : Hp), Same H H' → (b = true ↔ IsE xs) → Q (.bl b) H' := fun b H' s' h => q b h H' s'
    clear q
    have no : ∀ (H' : Hp), Same H H' → ¬ IsE xs → Q (.bl false) H' := fun H' s' h => fin false H' s' ⟨(fun z => nomatch z), fun z => absurd z h⟩
    refine ⟨_, rfl, _, _, _, _, true, rfl, .ty "tuple", .base (.tup ha), kit_ty (by decide +kernel), _, rfl, iteF ?_⟩
    refine ⟨_, rfl, a, _, rfl, .inr (SqT.of ha), _, 5, rfl, rfl, _, rfl, ite2 (fun e1 => ?_) (fun e1 => ?_)⟩
    · have l5 := of_decide_eq_true e1
      exact no H s0 fun h => by have := isE_five h; omega
    have l5 : ¬ ((xs.length : Nat) : Int) < 5 := fun h => e1 (decide_eq_true h)
    match xs, ha, lx, hT, fin, no, l5 with
    | [], _, _, _, _, _, l5 => exact absurd (by simp only [List.length_cons, List.length_nil]; omega) l5
    | [_], _, _, _, _, _, l5 => exact absurd (by simp only [List.length_cons, List.length_nil]; omega) l5
    | [_, _], _, _, _, _, _, l5 => exact absurd (by simp only [List.length_cons, List.length_nil]; omega) l5
    | [_, _, _], _, _, _, _, _, l5 => exact absurd (by simp only [List.length_cons, List.length_nil]; omega) l5
    | [_, _, _, _], _, _, _, _, _, l5 => exact absurd (by simp only [List.length_cons, List.length_nil]; omega) l5
    | x0 :: p0 :: p1 :: p2 :: p3 :: rest, ha, lx, hT, fin, no, l5 =>
    have sq : ∀ {H'}, Same H H' → SqT K H' a (x0 :: p0 :: p1 :: p2 :: p3 :: rest) := fun s => SqT.of (s _ _ ha)
    have tg : ∀ {H' : Hp}, Same H H' → ∀ x ∈ x0 :: p0 :: p1 :: p2 :: p3 :: rest, Thg H' x := fun s x hx => (hT x hx).1.on fun a' o' _ e' _ => s _ _ e'
    have m0 : x0 ∈ x0 :: p0 :: p1 :: p2 :: p3 :: rest := List.mem_cons_self
    have m1 : p0 ∈ x0 :: p0 :: p1 :: p2 :: p3 :: rest := List.mem_cons_of_mem _ List.mem_cons_self
    have m2 : p1 ∈ x0 :: p0 :: p1 :: p2 :: p3 :: rest := List.mem_cons_of_mem _ (List.mem_cons_of_mem _ List.mem_cons_self)
    have m3 : p2 ∈ x0 :: p0 :: p1 :: p2 :: p3 :: rest := List.mem_cons_of_mem _ (List.mem_cons_of_mem _ (List.mem_cons_of_mem _ List.mem_cons_self))
    have m4 : p3 ∈ x0 :: p0 :: p1 :: p2 :: p3 :: rest := List.mem_cons_of_mem _ (List.mem_cons_of_mem _ (List.mem_cons_of_mem _ (List.mem_cons_of_mem _ List.mem_cons_self)))
    obtain ⟨n0, ty0, mm0, st0, _⟩ := (hT x0 m0).1.ty (K := K)
    by_cases zs : n0 = "str"
    rotate_left
    · refine ⟨_, rfl, a, _, 0, _, rfl, rfl, sq s0, atI_nat (j := 0) rfl, _, _, _, _, false, rfl, .ty "str", ty0, kit_ty (by rw [kit_str mm0, decide_eq_false zs]), _, rfl, iteT (no H s0 fun h => ?_)⟩
      obtain ⟨f, e⟩ := isE_word h
      exact zs (st0.mpr ⟨_, e⟩)
    obtain ⟨z, rfl⟩ := st0.mp zs
    refine ⟨_, rfl, a, _, 0, _, rfl, rfl, sq s0, atI_nat (j := 0) rfl, _, _, _, _, true, rfl, .ty "str", ty0, kit_ty (by rw [kit_str mm0, decide_eq_true zs]), _, rfl, iteF ?_⟩
    -- the name, the moment
    refine ⟨_, rfl, a, _, 1, _, rfl, rfl, sq s0, atI_nat (j := 1) rfl, _, rfl, (hT p0 m1).1, (hT p0 m1).2, fun H1 s1 => ⟨_, rfl, ?_⟩⟩
    cases h0 : nmV p0 with
    | false => exact iteT (no H1 s1 fun h => by rw [(isE_heads h).1] at h0; exact nomatch h0)
    | true =>
    refine iteF ⟨_, rfl, a, _, 2, _, rfl, rfl, sq s1, atI_nat (j := 2) rfl, _, 0, 9999, rfl, tg s1 p1 m2, _, rfl, ?_⟩
    cases h1 : whB 0 9999 p1 with
    | false => exact iteT (no H1 s1 fun h => by rw [(isE_heads h).2.1] at h1; exact nomatch h1)
    | true =>
    refine iteF ⟨_, rfl, a, _, 3, _, rfl, rfl, sq s1, atI_nat (j := 3) rfl, _, rfl, tg s1 p2 m3, (hT p2 m3).2, fun H2 s2 => ⟨_, rfl, ?_⟩⟩
    have s12 := s1.trans s2
    cases h2 : nmV p2 with
    | false => exact iteT (no H2 s12 fun h => by rw [(isE_heads h).2.2.1] at h2; exact nomatch h2)
    | true =>
    refine iteF ⟨_, rfl, a, _, 4, _, rfl, rfl, sq s12, atI_nat (j := 4) rfl, _, rfl, tg s12 p3 m4, (hT p3 m4).2, fun H3 s3 => ⟨_, rfl, ?_⟩⟩
    have s13 := s12.trans s3
    cases h3 : nmV p3 with
    | false => exact iteT (no H3 s13 fun h => by rw [(isE_heads h).2.2.2] at h3; exact nomatch h3)
    | true =>
    obtain ⟨y3, rfl, ny3⟩ := nm_str h3
    have hTT : ∀ v ∈ p0 :: p1 :: p2 :: V.str y3 :: rest, Thg H v := fun v hv => (hT v (List.mem_cons_of_mem _ hv)).1
    have lenR : ∀ {n : Nat}, decide (V.int ((((V.str z) :: p0 :: p1 :: p2 :: V.str y3 :: rest).length : Nat) : Int) = V.int ((n + 5 : Nat) : Int)) = true → rest.length = n := fun {n} h => by
      have := V.int.inj (of_decide_eq_true h)
      simp only [List.length_cons] at this
      omega
    refine iteF ⟨_, rfl, a, _, 0, _, rfl, rfl, sq s13, atI_nat (j := 0) rfl, ?_⟩
    by_cases w1 : z = "swap"
    · subst w1
      have key := isE_swap h0 h1 h2 h3 hTT
      refine ⟨_, rfl, rfl, true, yyS, iteT ⟨_, rfl, a, _, rfl, .inr (sq s13), rfl, _, rfl, ite2 (fun l => ?_) (fun l => ?_)⟩⟩
      · have r : rest = [] := List.eq_nil_of_length_eq_zero (lenR (n := 0) l)
        subst r
        obtain ⟨y2, rfl, _⟩ := nm_str h2
        refine ⟨_, rfl, a, _, 3, _, rfl, rfl, sq s13, atI_nat (j := 3) rfl, _, rfl, a, _, 4, _, rfl, rfl, sq s13, atI_nat (j := 4) rfl, rfl, fin _ H3 s13 ?_⟩
        rw [key]
        simp
      · exact no H3 s13 fun h => absurd (by rw [(key.mp h).1]; exact decide_eq_true rfl) l
    refine ⟨_, rfl, rfl, false, nnS w1, iteF ?_⟩
    by_cases w2 : z = "look"
    · subst w2
      have key := isE_look h0 h1 h2 h3 hTT
      refine ⟨_, rfl, rfl, true, yyS, iteT ⟨_, rfl, a, _, rfl, .inr (sq s13), rfl, fin _ H3 s13 ?_⟩⟩
      rw [key]
      exact ⟨fun h => List.eq_nil_of_length_eq_zero (lenR (n := 0) h), fun h => by rw [h]; exact decide_eq_true rfl⟩
    refine ⟨_, rfl, rfl, false, nnS w2, iteF ?_⟩
    have two : rest.length = 2 → ∃ x y, rest = [x, y] := fun h => by
      match rest, h with
      | [x, y], _ => exact ⟨x, y, rfl⟩
    have one : rest.length = 1 → ∃ x, rest = [x] := fun h => by
      match rest, h with
      | [x], _ => exact ⟨x, rfl⟩
    by_cases w3 : z = "come"
    · subst w3
      have key := isE_come h0 h1 h2 h3 hTT
      refine ⟨_, rfl, rfl, true, yyS, iteT ⟨_, rfl, a, _, rfl, .inr (sq s13), rfl, _, rfl, ite2 (fun l => ?_) (fun l => ?_)⟩⟩
      · obtain ⟨x, y, rfl⟩ := two (lenR (n := 2) l)
        refine ⟨_, rfl, a, _, 5, _, rfl, rfl, sq s13, atI_nat (j := 5) rfl, 10, 9, rfl, rfl, cpow9, _, 1, _, rfl, tg s13 x (by simp), _, rfl, ?_⟩
        cases hx : whB 1 (10 ^ (9 : Int).toNat) x with
        | false =>
          rw [e9] at hx
          refine iteF (no H3 s13 fun h => ?_)
          obtain ⟨x', y', e, k1, k2⟩ := key.mp h
          cases e
          rw [hx] at k1
          exact nomatch k1
        | true =>
          rw [e9] at hx
          refine iteT ⟨_, rfl, a, _, 6, _, rfl, rfl, sq s13, atI_nat (j := 6) rfl, 10, 9, rfl, rfl, cpow9, _, 0, _, rfl, tg s13 y (by simp), fin _ H3 s13 ?_⟩
          rw [key, e9]
          exact ⟨fun h => ⟨x, y, rfl, hx, h⟩, fun ⟨x', y', e, _, k2⟩ => by cases e; exact k2⟩
      · exact no H3 s13 fun h => absurd (by obtain ⟨x, y, e, _⟩ := key.mp h; rw [e]; exact decide_eq_true rfl) l
    refine ⟨_, rfl, rfl, false, nnS w3, iteF ?_⟩
    by_cases w4 : z = "go"
    · subst w4
      have key := isE_go h0 h1 h2 h3 hTT
      refine ⟨_, rfl, rfl, true, yyS, iteT ⟨_, rfl, a, _, rfl, .inr (sq s13), rfl, _, rfl, ite2 (fun l => ?_) (fun l => ?_)⟩⟩
      · obtain ⟨x, rfl⟩ := one (lenR (n := 1) l)
        refine ⟨_, rfl, a, _, 5, _, rfl, rfl, sq s13, atI_nat (j := 5) rfl, 10, 9, rfl, rfl, cpow9, _, 1, _, rfl, tg s13 x (by simp), fin _ H3 s13 ?_⟩
        rw [key, e9]
        exact ⟨fun h => ⟨x, rfl, h⟩, fun ⟨x', e, k2⟩ => by cases e; exact k2⟩
      · exact no H3 s13 fun h => absurd (by obtain ⟨x, e, _⟩ := key.mp h; rw [e]; exact decide_eq_true rfl) l
    refine ⟨_, rfl, rfl, false, nnS w4, iteF ?_⟩
    by_cases w5 : z = "move"
    · subst w5
      have key := isE_move h0 h1 h2 h3 hTT rfl
      refine ⟨_, rfl, rfl, true, yyS, iteT ⟨_, rfl, a, _, rfl, .inr (sq s13), rfl, _, rfl, ite2 (fun l => ?_) (fun l => ?_)⟩⟩
      · obtain ⟨x, y, rfl⟩ := two (lenR (n := 2) l)
        refine ⟨_, rfl, a, _, _, y3, x, rfl, s13 _ _ ha, rfl, rfl, rfl, tg s13 x (by simp), (hT x (by simp)).2, fun H4 s4 => ⟨_, rfl, ?_⟩⟩
        have s14 := s13.trans s4
        cases hx : endsB "move" y3 x with
        | false =>
          refine iteF (no H4 s14 fun h => ?_)
          obtain ⟨x', y', e, k1, k2⟩ := key.mp h
          cases e
          rw [hx] at k1
          exact nomatch k1
        | true =>
          refine iteT ⟨_, rfl, a, _, 6, _, rfl, rfl, sq s14, atI_nat (j := 6) rfl, 10, 9, rfl, rfl, cpow9, _, 1, _, rfl, tg s14 y (by simp), fin _ H4 s14 ?_⟩
          rw [key, e9]
          exact ⟨fun h => ⟨x, y, rfl, hx, h⟩, fun ⟨x', y', e, _, k2⟩ => by cases e; exact k2⟩
      · exact no H3 s13 fun h => absurd (by obtain ⟨x, y, e, _⟩ := key.mp h; rw [e]; exact decide_eq_true rfl) l
    refine ⟨_, rfl, rfl, false, nnS w5, iteF ?_⟩
    by_cases w6 : z = "some"
    · subst w6
      have key := isE_some h0 h1 h2 h3 hTT rfl
      refine ⟨_, rfl, rfl, true, yyS, iteT ⟨_, rfl, a, _, rfl, .inr (sq s13), rfl, _, rfl, ite2 (fun l => ?_) (fun l => ?_)⟩⟩
      · obtain ⟨x, rfl⟩ := one (lenR (n := 1) l)
        refine ⟨_, rfl, a, _, _, y3, x, rfl, s13 _ _ ha, rfl, rfl, rfl, tg s13 x (by simp), (hT x (by simp)).2, fun H4 s4 => fin _ H4 (s13.trans s4) ?_⟩
        rw [key]
        exact ⟨fun h => ⟨x, rfl, h⟩, fun ⟨x', e, k2⟩ => by cases e; exact k2⟩
      · exact no H3 s13 fun h => absurd (by obtain ⟨x, e, _⟩ := key.mp h; rw [e]; exact decide_eq_true rfl) l
    refine ⟨_, rfl, rfl, false, nnS w6, iteF ?_⟩
    by_cases w7 : z = "count"
    rotate_left
    · refine ⟨_, rfl, rfl, _, rfl, ite2 (fun e => absurd (V.str.inj (of_decide_eq_true e)) w7) (fun e => no H3 s13 fun h => ?_)⟩
      obtain ⟨f, ef⟩ := isE_word h
      have hw := f.word_in
      rw [← V.str.inj ef] at hw
      simp only [words7, List.mem_cons, List.not_mem_nil, or_false] at hw
      rcases hw with h | h | h | h | h | h | h
      · exact absurd h w3
      · exact absurd h w4
      · exact absurd h w5
      · exact absurd h w6
      · exact absurd h w1
      · exact absurd h w7
      · exact absurd h w2
    subst w7
    have key := isE_count h0 h1 h2 h3 hTT
    refine ⟨_, rfl, rfl, true, yyS, iteT ⟨_, rfl, a, _, rfl, .inr (sq s13), rfl, _, rfl, ite2 (fun l => ?_) (fun l => ?_)⟩⟩
    · obtain ⟨x, y, rfl⟩ := two (lenR (n := 2) l)
      refine ⟨_, rfl, a, _, 5, _, rfl, rfl, sq s13, atI_nat (j := 5) rfl, 10, 9, rfl, rfl, cpow9, _, 0, _, rfl, tg s13 x (by simp), _, rfl, ?_⟩
      cases hx : whB 0 (10 ^ (9 : Int).toNat) x with
      | false =>
        rw [e9] at hx
        refine iteF (no H3 s13 fun h => ?_)
        obtain ⟨x', y', e, k1, k2⟩ := key.mp h
        cases e
        rw [hx] at k1
        exact nomatch k1
      | true =>
        rw [e9] at hx
        refine iteT ⟨_, rfl, a, _, 6, _, rfl, rfl, sq s13, atI_nat (j := 6) rfl, _, rfl, tg s13 y (by simp), (hT y (by simp)).2, fun H4 s4 => fin _ H4 (s13.trans s4) ?_⟩
        rw [key]
        exact ⟨fun h => ⟨x, y, rfl, hx, h⟩, fun ⟨x', y', e, _, k2⟩ => by cases e; exact k2⟩
    · exact no H3 s13 fun h => absurd (by obtain ⟨x, y, e, _⟩ := key.mp h; rw [e]; exact decide_eq_true rfl) l
end
/-! ### odd parts, bent entries -/
theorem call_str_sn {X : Cx} : CallR X (.type "str") (fun xs H Q => ∃ v, xs = [v] ∧ ((∃ a, v = .str a ∧ Q (.str a) H) ∨ ∃ i, v = .int i ∧ i.natAbs.log2 < 1920 ∧ Q (.str (toString i)) H)) := by
  rintro pins s σ H vs us Q I r ⟨v, rfl, ⟨a, rfl, q⟩ | ⟨i, rfl, h, q⟩⟩
  · exact SkE.call_str_str pins s σ H _ us Q I r ⟨a, rfl, q⟩
  · exact call_str_int pins s σ H _ us Q I r ⟨i, rfl, h, q⟩
theorem ofString_ok (s : String) : PyData.strOk (Str.ofString s) = true := by
  unfold PyData.strOk
  rw [← Array.all_toList, List.all_eq_true]
  intro c hc
  refine decide_eq_true ?_
  obtain ⟨ch, _, rfl⟩ : ∃ ch : Char, ch ∈ s.toList ∧ ch.toNat = c := by
    rw [PySem.Str.ofString_eq_toList] at hc
    simpa using hc
  have v := ch.valid
  have e : ch.toNat = ch.val.toNat := rfl
  rw [e]
  rcases v with v | ⟨_, v⟩
  · have : ch.val.toNat < 0xd800 := v
    omega
  · exact v
/-- a part of an entry: a short text or a number that isn't large -/
def PartS (v : V) : Prop := (∃ z : Str, v = .str z ∧ z.length ≤ 60 ∧ PyData.strOk z = true) ∨ ∃ i : Int, v = .int i ∧ i.natAbs < 10 ^ 12
theorem PartS.lf {v : V} (h : PartS v) : ∃ d, Lf v d := by
  rcases h with ⟨z, rfl, h, ok⟩ | ⟨i, rfl, h⟩
  · exact ⟨_, .str z (by omega) ok⟩
  · exact ⟨_, .int i (Nat.lt_trans h (by decide))⟩
theorem Lf.thg {H : Hp} {v : V} {d : PyData} (h : Lf v d) : Thg H v ∧ Okv v := by
  cases h with
  | non => exact ⟨.non, fun z e => nomatch e⟩
  | bl b => exact ⟨.bl b, fun z e => nomatch e⟩
  | int i h => exact ⟨.int i, fun z e => nomatch e⟩
  | str z h ok => exact ⟨.str z (by omega), fun z' e => by rw [← V.str.inj e]; exact ok⟩
/-- a part of a bent entry: what is shown, and no dict or none of the lists -/
def PrtB (H : Hp) (v : V) : Prop := Thg H v ∧ Okv v ∧ ((∃ d, Itm H false v d) ∨ ∃ d, Itm H true v d)
theorem Lf.prt {H : Hp} {v : V} {d : PyData} (h : Lf v d) : PrtB H v := ⟨(h.thg (H := H)).1, (h.thg (H := H)).2, .inl ⟨d, .lf h⟩⟩
theorem PrtB.on {H H' : Hp} {v : V} (k : ∀ a o, H a = some o → (∀ ps, o ≠ .tbl ps) → H' a = some o) (t : PrtB H v) : PrtB H' v :=
  ⟨t.1.on fun a o _ h n => k a o h n, t.2.1, t.2.2.imp (fun ⟨d, h⟩ => ⟨d, h.on k⟩) fun ⟨d, h⟩ => ⟨d, h.on k⟩⟩
def spOdd : Sp := fun vs H Q _ => ∃ (p c : Addr) (n : Nat) (v : V), vs = [.ref p, v] ∧ PenAt H p c n ∧ n ≤ 90000 ∧ PartS v ∧
  ∀ (u : V) (H' : Hp), PenAt H' p c (n + 1) → But p H H' → PrtB H' u → Q u H'
section
variable {P : Program} {w : World} {K : PySem.W.Frag} {mg : Str → Option Value} {base : Heap}
theorem cpow59 : CPow 10 59 := by show (0 : Int) ≤ 59 ∧ (59 : Int) ≤ 1000000 ∧ (10 : Int).natAbs < 2 ^ 64; decide
theorem big59 : ((10 : Int) ^ (59 : Int).toNat).natAbs < 10 ^ 60 := by decide +kernel
abbrev sOddN : List Str := ["_law_pen_here", "_law_part", "_law_some"]
theorem sc_sOdd : FnScope sOddN ["_law_pen_here", "_law_part"] (defScope sOdd) := ⟨rfl, rfl, rfl, by decide +kernel, rfl, by decide +kernel, by decide +kernel⟩
set_option maxHeartbeats 1000000 in
theorem ok_odd {f fT : Addr} {fd dT : FuncData} (F : Fun K "_law_odd" "_law_odd" sOdd f fd) (T : TakeT P w K mg base fT dT) (mT_str : mg "str" = none) (ml : mg "len" = none) : FnOk P w K mg base CX0 2 f fd ["_law_pen_here", "_law_part"] spOdd := by
  refine F.ok sc_sOdd (fun vs H Q E h => ?_) (fun cdv A outer s H vs Q E hr h => ?_)
  · obtain ⟨p, c, n, v, rfl, _⟩ := h
    rfl
  · obtain ⟨p, c, n, v, rfl, pen, hn, pv0, q⟩ := h
    have nd := sc_sOdd.nd
    refine ⟨_, pss_cons (ps_set (i := 2) nd rfl (Or.inl rfl) (pe_lst (pa_cons pe_non (pa_cons pe_bl (pa_cons pe_bl (pa_cons pe_str (pa_cons pe_str (pa_cons pe_str (pa_cons pe_str (pa_cons pe_str (pa_cons pe_str (pa_cons pe_str (pa_cons pe_str (pa_cons pe_int (pa_cons pe_int (pa_cons (pe_un un_neg pe_int) (pa_cons pe_int (pa_cons pe_int pa_nil))))))))))))))))))
      (pss_cons (ps_set (i := 2) nd rfl (Or.inl rfl) (pe_op op_cat (pv 2) (pe_lst (pa_cons (pe_op op_pow pe_int pe_int) (pa_cons (pe_op op_add (pe_op op_pow pe_int pe_int) pe_int) (pa_cons (pe_tup (pa_cons (pv 1) pa_nil)) (pa_cons (pe_lst (pa_cons (pv 1) pa_nil)) (pa_cons pe_dnewK (pa_cons (pe_callTy call_str_sn (by rfl) mT_str (by decide +kernel) (pa_cons (pv 1) pa_nil)) (pa_cons pe_int (pa_cons (pe_op op_pow pe_int pe_int) (pa_cons pe_str pa_nil))))))))))))
      (pss_one (ps_ret (pe_ix ix_list (pv 2) (pe_call T.ok hr (by rfl) T.g T.kp T.b .nil pass0 (pa_cons (pv 0) (pa_cons (pe_callB call_len_seq (by rfl) ml PySem.boot_len (pa_cons (pv 2) pa_nil)) pa_nil))) (fun _ _ => rfl))))), ?_⟩
    obtain ⟨d0, lf0⟩ := pv0.lf
    refine ⟨1, rfl, (by show 16 ≤ sizeLine; decide), fun l1 nl1 => ?_⟩
    have s1 := @same_new _ _ (.lst [V.non, .bl true, .bl false, .str "", .str "a", .str "abcdefgh", .str "abcdefghi", .str "A", .str "a b", .str "a1", .str "-", .int 0, .int 1, .int (-1), .int 9999, .int 10000]) nl1
    have h1 := @upd_same H l1 (.lst [V.non, .bl true, .bl false, .str "", .str "a", .str "abcdefgh", .str "abcdefghi", .str "A", .str "a b", .str "a1", .str "-", .int 0, .int 1, .int (-1), .int 9999, .int 10000])
    generalize upd H l1 (.lst [V.non, .bl true, .bl false, .str "", .str "a", .str "abcdefgh", .str "abcdefghi", .str "A", .str "a b", .str "a1", .str "-", .int 0, .int 1, .int (-1), .int 9999, .int 10000]) = H1 at s1 h1 ⊢
    refine ⟨_, rfl, 10, 9, rfl, rfl, cpow9, 10, 9, rfl, rfl, cpow9, _, 1, rfl, rfl, ?_⟩
    refine ⟨_, rfl, (by show 1 ≤ sizeLine; decide), fun t nt => ?_⟩
    have s2 := @same_new _ _ (.tup [v]) nt
    have h2 := @upd_same H1 t (.tup [v])
    generalize upd H1 t (.tup [v]) = H2 at s2 h2 ⊢
    refine ⟨_, rfl, (by show 1 ≤ sizeLine; decide), fun l nl => ?_⟩
    have s3 := @same_new _ _ (.lst [v]) nl
    have h3 := @upd_same H2 l (.lst [v])
    generalize upd H2 l (.lst [v]) = H3 at s3 h3 ⊢
    refine fun d nd4 => ?_
    have s4 := @same_new _ _ (.dK []) nd4
    have h4 := @upd_same H3 d (.dK [])
    generalize upd H3 d (.dK []) = H4 at s4 h4 ⊢
    -- str(part)
    obtain ⟨sv, hsv, hok, conv⟩ : ∃ sv : Str, sv.length ≤ 60 ∧ PyData.strOk sv = true ∧ ∀ {A : Str → Prop}, A sv → ((∃ a, v = .str a ∧ A a) ∨ ∃ i : Int, v = .int i ∧ i.natAbs.log2 < 1920 ∧ A (toString i)) := by
      rcases pv0 with ⟨z, rfl, hz, ok⟩ | ⟨i, rfl, hi⟩
      · exact ⟨z, hz, ok, fun h => .inl ⟨z, rfl, h⟩⟩
      · have hi2 : i.natAbs < 10 ^ 60 := Nat.lt_trans hi (by decide)
        refine ⟨toString i, ?_, ofString_ok _, fun h => .inr ⟨i, rfl, (int_shown hi2).2, h⟩⟩
        have hb : ((i.natAbs : Nat) : Int) < 10 ^ 12 := by
          have e : (((10 : Nat) ^ 12 : Nat) : Int) = (10 : Int) ^ 12 := by decide +kernel
          rw [← e]
          exact Int.ofNat_lt.mpr hi
        show (Str.ofString (toString i)).length ≤ 60
        by_cases z : 0 ≤ i
        · have h := toString_length_le z (k := 12) (by decide) (by rw [← Int.natAbs_of_nonneg z]; exact hb)
          omega
        · have n1 : ((i.natAbs : Nat) : Int) = -i := by omega
          have h := toString_length_le (v := -i) (by omega) (k := 12) (by decide) (by rw [← n1]; exact hb)
          rw [PySem.ofString_length] at h ⊢
          have := toString_neg3 i (by omega)
          omega
    refine ⟨_, rfl, v, rfl, conv ?_⟩
    refine ⟨10, 59, rfl, rfl, cpow59, (by show 9 ≤ sizeLine; decide), fun L9 nL9 => ?_⟩
    have s5 := @same_new _ _ (.lst [V.int (10 ^ (9 : Int).toNat), .int (10 ^ (9 : Int).toNat + 1), .ref t, .ref l, .ref d, .str sv, .int 99, .int (10 ^ (59 : Int).toNat), .str "a\n"]) nL9
    have h5 := @upd_same H4 L9 (.lst [V.int (10 ^ (9 : Int).toNat), .int (10 ^ (9 : Int).toNat + 1), .ref t, .ref l, .ref d, .str sv, .int 99, .int (10 ^ (59 : Int).toNat), .str "a\n"])
    generalize upd H4 L9 (.lst [V.int (10 ^ (9 : Int).toNat), .int (10 ^ (9 : Int).toNat + 1), .ref t, .ref l, .ref d, .str sv, .int 99, .int (10 ^ (59 : Int).toNat), .str "a\n"]) = H5 at s5 h5 ⊢
    have s15 : Same H1 H5 := s2.trans (s3.trans (s4.trans s5))
    refine ⟨l1, L9, _, _, rfl, rfl, s15 _ _ h1, h5, (by show 16 + 9 ≤ sizeLine; decide), fun L nL => ?_⟩
    have s6 := @same_new _ _ (.lst ([V.non, .bl true, .bl false, .str "", .str "a", .str "abcdefgh", .str "abcdefghi", .str "A", .str "a b", .str "a1", .str "-", .int 0, .int 1, .int (-1), .int 9999, .int 10000] ++ [V.int (10 ^ (9 : Int).toNat), .int (10 ^ (9 : Int).toNat + 1), .ref t, .ref l, .ref d, .str sv, .int 99, .int (10 ^ (59 : Int).toNat), .str "a\n"])) nL
    have h6 := @upd_same H5 L (.lst ([V.non, .bl true, .bl false, .str "", .str "a", .str "abcdefgh", .str "abcdefghi", .str "A", .str "a b", .str "a1", .str "-", .int 0, .int 1, .int (-1), .int 9999, .int 10000] ++ [V.int (10 ^ (9 : Int).toNat), .int (10 ^ (9 : Int).toNat + 1), .ref t, .ref l, .ref d, .str sv, .int 99, .int (10 ^ (59 : Int).toNat), .str "a\n"]))
    generalize upd H5 L (.lst ([V.non, .bl true, .bl false, .str "", .str "a", .str "abcdefgh", .str "abcdefghi", .str "A", .str "a b", .str "a1", .str "-", .int 0, .int 1, .int (-1), .int 9999, .int 10000] ++ [V.int (10 ^ (9 : Int).toNat), .int (10 ^ (9 : Int).toNat + 1), .ref t, .ref l, .ref d, .str sv, .int 99, .int (10 ^ (59 : Int).toNat), .str "a\n"])) = H6 at s6 h6 ⊢
    have s16 : Same H H6 := s1.trans (s15.trans s6)
    refine ⟨_, rfl, _, rfl, _, rfl, L, _, rfl, .inl (SqL.of h6), p, c, n, 25, rfl, pen.same s16, by omega, by decide, by decide, fun r H7 a7 b7 pen7 bt7 => ?_⟩
    have np : H p ≠ none := by
      obtain ⟨kvs, ns, a, l, e, _⟩ := pen.ex
      rw [e]
      exact fun z => nomatch z
    have keep : ∀ {b : Addr} {o : HO}, H6 b = some o → H b = none → H7 b = some o := fun e n => bt7 _ _ e fun w => np (by rw [← w]; exact n)
    have ft := keep (s6 _ _ (s5 _ _ (s4 _ _ (s3 _ _ h2)))) (s1.free nt)
    have fl := keep (s6 _ _ (s5 _ _ (s4 _ _ h3))) (s1.free (s2.free nl))
    have fd4 := keep (s6 _ _ (s5 _ _ h4)) (s1.free (s2.free (s3.free nd4)))
    have fL := keep h6 (s1.free (s15.free nL))
    obtain ⟨u, hu, mu⟩ := at_ex (xs := [V.non, .bl true, .bl false, .str "", .str "a", .str "abcdefgh", .str "abcdefghi", .str "A", .str "a b", .str "a1", .str "-", .int 0, .int 1, .int (-1), .int 9999, .int 10000] ++ [V.int (10 ^ (9 : Int).toNat), .int (10 ^ (9 : Int).toNat + 1), .ref t, .ref l, .ref d, .str sv, .int 99, .int (10 ^ (59 : Int).toNat), .str "a\n"]) a7 b7
    refine ⟨L, _, r, u, rfl, rfl, SqL.of fL, hu, q u H7 pen7 ((But.of s16).tr bt7) ?_⟩
    simp only [List.cons_append, List.nil_append, List.mem_cons, List.not_mem_nil, or_false] at mu
    have st : ∀ z : Str, z.length ≤ 100 → PyData.strOk z = true → PrtB H7 (.str z) := fun z h ok => (Lf.str z h ok).prt
    have it : ∀ i : Int, i.natAbs < 10 ^ 60 → PrtB H7 (.int i) := fun i h => (Lf.int i h).prt
    rcases mu with rfl | rfl | rfl | rfl | rfl | rfl | rfl | rfl | rfl | rfl | rfl | rfl | rfl | rfl | rfl | rfl | rfl | rfl | rfl | rfl | rfl | rfl | rfl | rfl | rfl
    · exact Lf.non.prt
    · exact (Lf.bl _).prt
    · exact (Lf.bl _).prt
    · exact st _ (by decide +kernel) (ofString_ok _)
    · exact st _ (by decide +kernel) (ofString_ok _)
    · exact st _ (by decide +kernel) (ofString_ok _)
    · exact st _ (by decide +kernel) (ofString_ok _)
    · exact st _ (by decide +kernel) (ofString_ok _)
    · exact st _ (by decide +kernel) (ofString_ok _)
    · exact st _ (by decide +kernel) (ofString_ok _)
    · exact st _ (by decide +kernel) (ofString_ok _)
    · exact it _ (by decide +kernel)
    · exact it _ (by decide +kernel)
    · exact it _ (by decide +kernel)
    · exact it _ (by decide +kernel)
    · exact it _ (by decide +kernel)
    · exact it _ (by decide +kernel)
    · exact it _ (by decide +kernel)
    · exact ⟨.tup ft, (fun z e => nomatch e), .inl ⟨_, .tup ft lf0⟩⟩
    · exact ⟨.lst fl, (fun z e => nomatch e), .inl ⟨_, .lst fl lf0⟩⟩
    · exact ⟨.dct fd4, (fun z e => nomatch e), .inr ⟨_, .dct fd4⟩⟩
    · exact st _ (by omega) hok
    · exact it _ (by decide +kernel)
    · exact it _ big59
    · exact st _ (by decide +kernel) (ofString_ok _)
end
/-! ### parts of tuples, tuples one behind the other -/
theorem cut_head {xs : List V} {k : Nat} : cutV xs none (some (k : Int)) = xs.take k := by
  unfold cutV
  rw [HT.sIx_nat]
  show (xs.drop 0).take (min k xs.length - 0) = _
  rw [List.drop_zero, Nat.sub_zero, ← List.take_eq_take_min]
theorem cut_tail {xs : List V} {k : Nat} : cutV xs (some (k : Int)) none = xs.drop k := by
  unfold cutV
  rw [HT.sIx_nat, HT.sIx_none]
  by_cases h : k ≤ xs.length
  · rw [Nat.min_eq_left h, List.take_of_length_le (by rw [List.length_drop]; exact Nat.le_refl _)]
  · rw [Nat.min_eq_right (by omega), List.drop_of_length_le (by omega), List.drop_of_length_le (by omega), List.take_nil]
/-- a part of a tuple, made or the same -/
def rSlS : V → Option Int → Option Int → Hp → VK → Prop := fun x lo hi H Q => ∃ (a : Addr) (xs : List V), x = .ref a ∧ H a = some (.tup xs) ∧ ∀ (b : Addr) (H' : Hp), Same H H' → H' b = some (.tup (cutV xs lo hi)) → Q (.ref b) H'
theorem sl_S {X : Cx} : SlR X rSlS := by
  rintro pins s σ H x v vl vu lo hi sl Q I rx hs pl pu ⟨a, xs, rfl, ha, q⟩
  refine sl_tupA pins s σ H _ v vl vu _ _ sl Q I rx hs pl pu ⟨a, xs, rfl, SqT.of ha, fun z => q a H (fun _ _ e => e) ?_, fun _ p np => q p _ (same_new np) upd_same⟩
  rw [ha]
  unfold cutV
  rw [z.1, z.2, List.drop_zero, Nat.sub_zero, List.take_length]
/-- tuples one behind the other -/
theorem op_catS {X : Cx} : OpR X (binaryOp .Add) (fun x y H Q => ∃ (a b : Addr) (xs ys : List V), x = .ref a ∧ y = .ref b ∧ H a = some (.tup xs) ∧ H b = some (.tup ys) ∧ xs ≠ [] ∧ xs.length + ys.length ≤ sizeLine ∧
    ∀ (t : Addr) (H' : Hp), Same H H' → H' t = some (.tup (xs ++ ys)) → Q (.ref t) H') := by
  rintro pins s σ H x y v u Q I rx ry ⟨a, b, xs, ys, rfl, rfl, ha, hb, ne, hz, q⟩
  refine op_catT pins s σ H _ _ v u Q I rx ry ⟨a, b, xs, ys, rfl, rfl, SqT.of ha, SqT.of hb, ne, hz, fun z => q a H (fun _ _ e => e) ?_, fun _ p np => q p _ (same_new np) upd_same⟩
  rw [ha, z, List.append_nil]
theorem vals_len_e (e : Ent) : 5 ≤ e.vals.length ∧ e.vals.length ≤ 7 := by cases e <;> simp [Ent.vals, Ent.rest]
/-! ### t[::i], i one or minus one -/
section
variable {prog : Program} {w : World} {A : Around} {E : Value → Shared → Prop} {s : Shared}
theorem stepped {sl : Addr} {vs : Value} {i : Int} {n : Nat} {Q : Int × Int × Nat → Shared → Prop} (hs : s.heap.IsSliceOf sl .none .none vs) (ps : IsPart vs (some i)) (h0 : i ≠ 0)
    (h : Q ((Builtin.Slice.sliceAdjust none none i (n : Int)).1, i, Builtin.Slice.slicePlaces (Builtin.Slice.sliceAdjust none none i (n : Int)).1 (Builtin.Slice.sliceAdjust none none i (n : Int)).2 i) s) : wpAny (model prog w) A (Builtin.Slice.sliceApplied (.ref sl) (pure (n : Int))) Q E s := by
  obtain ⟨os, hos, hcs, hds⟩ := id hs
  unfold Builtin.Slice.sliceApplied Builtin.Slice.sliceFields
  refine wpAny_bind (wpAny_bind (wpAny_field hos hds (x := .none) rfl (wpAny_bind (wpAny_field hos hds (x := .none) rfl (wpAny_bind (wpAny_field hos hds (x := vs) rfl (wpAny_pure ?_)))))))
  refine wpAny_bind (HT.slicePart_ ps ?_)
  show wpAny _ _ (if (i == 0) = true then _ else _) _ _ s
  rw [if_neg (by rw [beq_iff_eq]; exact h0)]
  exact wpAny_bind (HT.slicePart_ .none (wpAny_bind (HT.slicePart_ .none (wpAny_bind (wpAny_pure (wpAny_pure h))))))
theorem fm_congr {α β : Type} {f g : α → Option β} : ∀ {l : List α}, (∀ x ∈ l, f x = g x) → l.filterMap f = l.filterMap g
  | [], _ => rfl
  | x :: r, h => by rw [List.filterMap_cons, List.filterMap_cons, h x List.mem_cons_self, fm_congr fun y hy => h y (List.mem_cons_of_mem _ hy)]
theorem back_pick (xs : Array Value) : ((List.range xs.size).filterMap fun (k : Nat) => xs[((xs.size : Int) - 1 + (k : Int) * -1).toNat]?) = xs.toList.reverse := by
  rw [← PySem.W.krv_all xs, ← List.filterMap_reverse, ← PySem.W.krv_range, List.filterMap_map]
  refine fm_congr fun k hk => ?_
  have := List.mem_range.mp hk
  show xs[((xs.size : Int) - 1 + (k : Int) * -1).toNat]? = xs[xs.size - 1 - k]?
  rw [show ((xs.size : Int) - 1 + (k : Int) * -1).toNat = xs.size - 1 - k by omega]
theorem item_step {t sl : Addr} {items : Array Value} {vs : Value} {i : Int} {Q : Value → Shared → Prop} (ht : IsTup s.heap t items) (hs : s.heap.IsSliceOf sl .none .none vs) (ps : IsPart vs (some i)) (hi : i = 1 ∨ i = -1) (hsz : items.size ≤ sizeLine)
    (h1 : i = 1 → Q (.ref t) s) (h2 : i = -1 → Q (.ref s.heap.objs.size) { s with heap := s.heap.push { cls := .type "tuple", data := .seq items.toList.reverse.toArray } }) : wpAny (model prog w) A (getItem (.ref t) (.ref sl)) Q E s := by
  obtain ⟨os, hos, hcs, hds⟩ := id hs
  have hTs : s.TypeIs (.ref sl) "slice" := ⟨os, hos, hcs⟩
  unfold getItem
  try with_reducible refine wpAny_holding ?_
  first | refine wpAny_bind (wpAny_pure ?_) | skip
  refine wpAny_bind (wpAny_sequenceKey ht.typeIs (by decide) ?_)
  refine wpAny_bind (wpAny_callSpecial?_slot (name := Str.ofString "__getitem__") ht.typeIs PyProof.Rows.slot_tuple_getitem (wpAny_call_entry PyProof.Rows.slot_tuple_getitem ht.typeIs entry_tuple_getitem ?_ (args_tuple_getitem _ _)))
  show wpAny _ _ (Builtin.Tuple.tupleItemsOf (.ref t) >>= _) _ _ s
  refine wpAny_bind (tupleItemsOf_ ht ?_)
  refine wpAny_bind (wpAny_typeOf hTs ?_)
  rw [if_pos (by decide)]
  refine wpAny_bind (stepped hs ps (by omega) ?_)
  rcases hi with rfl | rfl
  · have e1 : (Builtin.Slice.sliceAdjust none none 1 (items.size : Int)) = (0, (items.size : Int)) := rfl
    have e2 : Builtin.Slice.slicePlaces 0 (items.size : Int) 1 = items.size := by
      unfold Builtin.Slice.slicePlaces
      rw [if_pos (by decide), Int.ediv_one]
      split <;> omega
    rw [e1]
    show wpAny _ _ (if ((0 : Int) == 0 && (1 : Int) == 1 && Builtin.Slice.slicePlaces 0 (items.size : Int) 1 == items.size) = true then _ else _) _ _ s
    rw [e2, if_pos (by simp)]
    refine wpAny_bind ?_
    show wpAny _ _ (typeOf (.ref t) >>= fun T => pure (T == .type "tuple")) _ _ s
    refine wpAny_bind (wpAny_typeOf ht.typeIs (wpAny_pure ?_))
    rw [if_pos (by decide)]
    first
      | exact wpAny_bind (wpAny_rule (wpAny_pure ⟨_, rfl, wpAny_pure (h1 rfl)⟩))
      | exact wpAny_bind (wpAny_rule (wpAny_bind (wpAny_pure (wpAny_pure ⟨_, rfl, wpAny_pure (h1 rfl)⟩))))
  · have e1 : (Builtin.Slice.sliceAdjust none none (-1) (items.size : Int)) = ((items.size : Int) - 1, -1) := rfl
    have e2 : Builtin.Slice.slicePlaces ((items.size : Int) - 1) (-1) (-1) = items.size := by
      unfold Builtin.Slice.slicePlaces
      rw [if_neg (by decide), show (- -1 : Int) = 1 from rfl, Int.ediv_one]
      split <;> omega
    rw [e1]
    show wpAny _ _ (if ((items.size : Int) - 1 == 0 && (-1 : Int) == 1 && Builtin.Slice.slicePlaces ((items.size : Int) - 1) (-1) (-1) == items.size) = true then _ else _) _ _ s
    rw [if_neg (by simp), e2, back_pick]
    have ok : sizeOk (.seq items.toList.reverse.toArray) := by
      show items.toList.reverse.toArray.size ≤ sizeLine
      rw [List.size_toArray, List.length_reverse, Array.length_toList]
      exact hsz
    first
      | exact wpAny_bind (m := Builtin.Tuple.tupleExact _) (wpAny_newObj_type (wpAny_pure ⟨_, rfl, wpAny_pure (h2 rfl)⟩) ok)
      | exact wpAny_bind (m := Builtin.Tuple.tupleExact _) (wpAny_newObj_type (wpAny_bind (wpAny_pure (wpAny_pure ⟨_, rfl, wpAny_pure (h2 rfl)⟩))) ok)
      | exact wpAny_bind (wpAny_bind (m := Builtin.Tuple.tupleExact _) (wpAny_newObj_type (wpAny_pure (wpAny_pure ⟨_, rfl, wpAny_pure (h2 rfl)⟩)) ok))
      | exact wpAny_bind (wpAny_bind (m := Builtin.Tuple.tupleExact _) (wpAny_newObj_type (wpAny_pure ⟨_, rfl, wpAny_pure (h2 rfl)⟩) ok))
end
/-- t[::i], i one or minus one: some tuple of the items, in their order or the other way about -/
def tStepP (te ts : TE) : TE := fun σ H Q => te σ H fun x H1 => ts σ H1 fun y H2 => ∃ (a : Addr) (xs : List V) (i : Int), x = .ref a ∧ H2 a = some (.tup xs) ∧ y = .int i ∧ (i = 1 ∨ i = -1) ∧
  ∀ (b : Addr) (H' : Hp) (ys : List V), Same H2 H' → (ys = xs ∨ ys = xs.reverse) → H' b = some (.tup ys) → Q (.ref b) H'
theorem pe_stepP {X : Cx} {e st : Expr} {te ts : TE} {p3 pos : Pos} (he : PE X e te) (hst : PE X st ts) : PE X (.Subscript e (.Slice none none (some st) p3) pos) (tStepP te ts) := by
  refine ⟨fun pins s σ H Q I h => ?_⟩
  refine Subscript_ (thn (he.run pins s σ H _ I h) fun v s1 ⟨x, H1, I1, r1, q1⟩ => ?_)
  refine wpAny_Slice (thn (po_none.run pins s1 σ H1 (fun o H2 => o = none ∧ H2 = H1) I1 ⟨rfl, rfl⟩) ?_)
  rintro vl s2 ⟨l, H2, I2, pl, rfl, rfl⟩
  refine thn (po_none.run pins s2 σ H2 (fun o H3 => o = none ∧ H3 = H2) I2 ⟨rfl, rfl⟩) ?_
  rintro vu s3 ⟨u, H3, I3, pu, rfl, rfl⟩
  refine thn (hst.run pins s3 σ H3 _ I3 q1) ?_
  rintro vs s4 ⟨y, H4, I4, ry, a, xs, i, rfl, hx, rfl, hi, g⟩
  cases r1
  obtain ⟨t, rfl⟩ := ry
  have I5 : Inv X pins σ H4 { s4 with heap := s4.heap.push { cls := .type "slice", data := .fields #[vl, vu, .int i t] } } := I4.kept (t' := s4.toks) fun b ob q => Heap.get?_push_of_some _ q
  obtain ⟨its, r, ht, hz⟩ := I5.tuple (SqT.of hx)
  have el : vl = .none := by cases pl; rfl
  have eu : vu = .none := by cases pu; rfl
  subst el eu
  show wpAny (model X.prog X.w) X.A (subscriptTail e (.Slice none none (some st) p3) (.ref a) (.ref s4.heap.objs.size)) (EP X pins σ Q) X.xe { s4 with heap := s4.heap.push { cls := .type "slice", data := .fields #[.none, .none, .int i t] } }
  refine tail_any (ops := [.ref a, .ref s4.heap.objs.size]) ht.typeIs PyProof.Rows.slot_tuple_getitem.lookup ?_ (by with_unfolding_all rfl)
  refine item_step ht (Heap.IsSliceOf.new _ _ _ _) (.int i t) hi (by rw [List.size_toArray, ← r.length]; exact hz) (fun e1 => ⟨.ref a, H4, I5, rfl, g a H4 xs (fun _ _ e => e) (.inl rfl) hx⟩) fun e1 => ?_
  refine ⟨.ref _, _, I5.laid (t' := s4.toks) (o := .tup xs.reverse) (fun b ob q => Heap.get?_push_of_some _ q) (Nat.le_refl _) ⟨by rw [List.length_reverse]; exact hz, _, r.reverse, IsTup.new _ _⟩, rfl, g _ _ _ (same_new (I5.hok.fresh (Nat.le_refl _))) (.inr rfl) upd_same⟩
/-! ### bent entries -/
theorem op_catW {X : Cx} : OpR X (binaryOp .Add) (fun x y H Q => ∃ (a b : Addr) (xs ys : List V), x = .ref a ∧ y = .ref b ∧ H a = some (.tup xs) ∧ H b = some (.tup ys) ∧ xs.length + ys.length ≤ 30 ∧
    ∀ (t : Addr) (H' : Hp), Same H H' → H' t = some (.tup (xs ++ ys)) → Q (.ref t) H') := by
  rintro pins s σ H x y v u Q I rx ry ⟨a, b, xs, ys, rfl, rfl, ha, hb, hz, q⟩
  refine op_catA pins s σ H _ _ v u Q I rx ry ⟨a, b, xs, ys, rfl, rfl, SqT.of ha, SqT.of hb, Nat.le_of_lt (small1000 (by omega)), fun z => q b H (fun _ _ e => e) ?_, fun _ z => q a H (fun _ _ e => e) ?_, fun _ _ p np => q p _ (same_new np) upd_same⟩
  · rw [hb, z]
    rfl
  · rw [ha, z, List.append_nil]
def BentAt (H : Hp) (a : Addr) : Prop := (∃ d, Shw H (.ref a) d) ∧ ((∃ xs, H a = some (.tup xs) ∧ xs.length ≤ 30 ∧ ∀ x ∈ xs, Thg H x ∧ Okv x) ∨ ∃ xs, H a = some (.lst xs))
theorem BentAt.on {H H' : Hp} {a : Addr} (k : ∀ a o, H a = some o → (∀ ps, o ≠ .tbl ps) → H' a = some o) (t : BentAt H a) : BentAt H' a := by
  obtain ⟨⟨d, sw⟩, h⟩ := t
  refine ⟨⟨d, sw.on k⟩, h.imp (fun ⟨xs, e, l, t⟩ => ⟨xs, k _ _ e (fun ps z => nomatch z), l, fun x hx => ⟨(t x hx).1.on fun a o _ h n => k a o h n, (t x hx).2⟩⟩) fun ⟨xs, e⟩ => ⟨xs, k _ _ e (fun ps z => nomatch z)⟩⟩
theorem bent_tup {H : Hp} {a : Addr} {xs : List V} {u : V} (h : H a = some (.tup xs)) (l : xs.length ≤ 30) (pu : PrtB H u) (hx : ∀ x ∈ xs, PartS x ∨ x = u) : BentAt H a := by
  refine ⟨?_, .inl ⟨xs, h, l, fun x mx => ?_⟩⟩
  · rcases pu.2.2 with ⟨d, hd⟩ | ⟨d, hd⟩
    · obtain ⟨ds, i⟩ := its_of (H := H) (m := false) xs fun x mx => by
        rcases hx x mx with p | rfl
        · obtain ⟨d', l'⟩ := p.lf
          exact ⟨d', .lf l'⟩
        · exact ⟨d, hd⟩
      exact ⟨_, false, a, xs, ds, rfl, i, l, .inl ⟨h, rfl⟩⟩
    · obtain ⟨ds, i⟩ := its_of (H := H) (m := true) xs fun x mx => by
        rcases hx x mx with p | rfl
        · obtain ⟨d', l'⟩ := p.lf
          exact ⟨d', .lf l'⟩
        · exact ⟨d, hd⟩
      exact ⟨_, true, a, xs, ds, rfl, i, l, .inl ⟨h, rfl⟩⟩
  · rcases hx x mx with p | rfl
    · obtain ⟨d', l'⟩ := p.lf
      exact l'.thg
    · exact ⟨pu.1, pu.2.1⟩
theorem bent_lst {H : Hp} {a : Addr} {xs : List V} (h : H a = some (.lst xs)) (l : xs.length ≤ 30) (hx : ∀ x ∈ xs, PartS x) : BentAt H a := by
  refine ⟨?_, .inr ⟨xs, h⟩⟩
  obtain ⟨ds, i⟩ := its_of (H := H) (m := false) xs fun x mx => by
    obtain ⟨d', l'⟩ := (hx x mx).lf
    exact ⟨d', .lf l'⟩
  exact ⟨_, false, a, xs, ds, rfl, i, l, .inr ⟨rfl, h, rfl⟩⟩
theorem cut_len {xs : List V} {lo hi : Option Int} : (cutV xs lo hi).length ≤ xs.length := by
  unfold cutV
  rw [List.length_take, List.length_drop]
  omega
theorem cut_mem {xs : List V} {lo hi : Option Int} : ∀ x ∈ cutV xs lo hi, x ∈ xs := fun x h => List.mem_of_mem_drop (List.mem_of_mem_take h)
theorem pen_keep {H H' : Hp} {p c a : Addr} {n : Nat} (pen : PenAt H p c n) (bt : But p H H') {xs : List V} (h : H a = some (.tup xs)) : H' a = some (.tup xs) := bt _ _ h fun w => by
  obtain ⟨kvs, ns, a, l, e, _⟩ := pen.ex
  rw [w, e] at h
  exact nomatch h
theorem pen_keepL {H H' : Hp} {p c a : Addr} {n : Nat} (pen : PenAt H p c n) (bt : But p H H') {xs : List V} (h : H a = some (.lst xs)) : H' a = some (.lst xs) := bt _ _ h fun w => by
  obtain ⟨kvs, ns, a, l, e, _⟩ := pen.ex
  rw [w, e] at h
  exact nomatch h
theorem sc_ok {l : List Nat} (h : ∀ c ∈ l, c < 0x110000) : PyData.strOk (sc l) = true := by
  unfold PyData.strOk
  rw [← Array.all_toList]
  show (l.all fun c => decide (c < 0x110000)) = true
  rw [List.all_eq_true]
  exact fun c hc => decide_eq_true (h c hc)
theorem of_ok {z : Str} (h : PyData.strOk z = true) : ∀ c ∈ z.cps.toList, c < 0x110000 := by
  unfold PyData.strOk at h
  rw [← Array.all_toList, List.all_eq_true] at h
  exact fun c hc => of_decide_eq_true (h c hc)
theorem part_name {y : Str} (h : nameB y = true) : PartS (.str y) := .inl ⟨y, rfl, Nat.le_trans (name_len h).2 (by decide), name_ok h⟩
theorem wh_part {lo hi : Int} (h0 : 0 ≤ lo) (h1 : hi ≤ 1000000000) {v : V} (h : whB lo hi v = true) : PartS v := by
  cases v with
  | int i =>
    obtain ⟨a, b⟩ := Bool.and_eq_true_iff.mp (show (decide (lo ≤ i) && decide (i ≤ hi)) = true from h)
    have a := of_decide_eq_true a
    have b := of_decide_eq_true b
    exact .inr ⟨i, rfl, by have : i.natAbs ≤ 1000000000 := by omega
                           exact Nat.lt_of_le_of_lt this (by decide)⟩
  | _ => exact nomatch h
theorem fit_partS {v : V} {x : Str} (h : fitB v x = true) (hx : x ∈ sorts6) : PartS v := by
  simp only [sorts6, List.mem_cons, List.not_mem_nil, or_false] at hx
  rcases hx with rfl | rfl | rfl | rfl | rfl | rfl
  · rw [fit_n] at h
    obtain ⟨z, rfl, hz⟩ := nm_str h
    exact part_name hz
  · rw [fit_e] at h
    rcases Bool.or_eq_true_iff.mp h with h | h
    · rw [of_decide_eq_true h]
      exact .inl ⟨"", rfl, by decide +kernel, ofString_ok _⟩
    · obtain ⟨z, rfl, hz⟩ := nm_str h
      exact part_name hz
  · rw [fit_mo] at h
    exact wh_part (by decide) (by decide) h
  · rw [fit_ma] at h
    exact wh_part (by decide) (by decide) h
  · rw [fit_co] at h
    exact wh_part (by decide) (by decide) h
  · rw [fit_pr] at h
    exact wh_part (by decide) (by decide) h
theorem fine_parts {e : Ent} (f : e.Fine) : ∀ v ∈ e.vals, PartS v := by
  intro v hv
  rcases List.mem_cons.mp hv with rfl | hv
  · refine .inl ⟨_, rfl, ?_⟩
    have h : ∀ w ∈ words7, w.length ≤ 60 ∧ PyData.strOk w = true := by decide +kernel
    exact h _ e.word_in
  · obtain ⟨i, hi⟩ := List.mem_iff_getElem?.mp hv
    have lt := (List.getElem?_eq_some_iff.mp hi).1
    have l2 : i < e.sorts.length := by rw [← e.len_parts]; exact lt
    have hx := List.getElem?_eq_getElem l2
    exact fit_partS (f.fit i v _ hi hx).2 (e.sorts_in _ (List.mem_of_getElem? hx))
theorem fine_names {e : Ent} (f : e.Fine) : ∀ j : Nat, j = 1 ∨ j = 3 ∨ j = 4 → ∃ y, e.vals[j]? = some (.str y) ∧ nameB y = true := by
  obtain ⟨x0, p0, p1, p2, p3, rest, hv⟩ : ∃ x0 p0 p1 p2 p3 rest, e.vals = x0 :: p0 :: p1 :: p2 :: p3 :: rest := by cases e <;> exact ⟨_, _, _, _, _, _, rfl⟩
  have hE : IsE e.vals := ⟨e, f, rfl⟩
  rw [hv] at hE ⊢
  obtain ⟨h0, _, h2, h3⟩ := isE_heads hE
  intro j hj
  rcases hj with rfl | rfl | rfl
  · obtain ⟨z, rfl, hz⟩ := nm_str h0
    exact ⟨z, rfl, hz⟩
  · obtain ⟨z, rfl, hz⟩ := nm_str h2
    exact ⟨z, rfl, hz⟩
  · obtain ⟨z, rfl, hz⟩ := nm_str h3
    exact ⟨z, rfl, hz⟩
def signs96 : Str := " !\"#$&'()*+,-./0123456789:;<=>?@ABCDEFGHIJKLMNOPQRSTUVWXYZ[\\]^_`abcdefghijklmnopqrstuvwxyz{|}~\n"
theorem signs_len : 1 ≤ signs96.length ∧ signs96.length ≤ 200 := by decide +kernel
def spBent : Sp := fun vs H Q _ => ∃ (p c ea : Addr) (n : Nat) (e : Ent), vs = [.ref p, .ref ea] ∧ PenAt H p c n ∧ n ≤ 80000 ∧ H ea = some (.tup e.vals) ∧ e.Fine ∧
  ∀ (a : Addr) (H' : Hp), PenAt H' p c (n + 10) → But p H H' → BentAt H' a → Q (.ref a) H'
section
variable {P : Program} {w : World} {K : PySem.W.Frag} {mg : Str → Option Value} {base : Heap}
abbrev sBentN : List Str := ["_law_pen_here", "_law_entry_here", "_law_way", "_law_at", "_law_two", "_law_some", "_law_words_here", "_law_signs", "_law_cut", "_law_sign", "_law_old", "_law_new"]
theorem sc_sBent : FnScope sBentN ["_law_pen_here", "_law_entry_here"] (defScope sBent) := ⟨rfl, rfl, rfl, by decide +kernel, rfl, by decide +kernel, by decide +kernel⟩
set_option maxHeartbeats 4000000 in
theorem ok_bent {f fT fO : Addr} {fd dT dO : FuncData} (F : Fun K "_law_bent" "_law_bent" sBent f fd) (T : TakeT P w K mg base fT dT) (OD : DefT P w K mg base "_law_odd" 2 fO dO ["_law_pen_here", "_law_part"] spOdd) (ml : mg "len" = none) (mli : mg "list" = none) : FnOk P w K mg base CX0 3 f fd ["_law_pen_here", "_law_entry_here"] spBent := by
  refine F.ok sc_sBent (fun vs H Q E h => ?_) (fun cdv A outer s H vs Q E hr h => ?_)
  · obtain ⟨p, c, ea, n, e, rfl, _⟩ := h
    rfl
  · obtain ⟨p, c, ea, n, e, rfl, pen, hn, he, fine, q⟩ := h
    have nd := sc_sBent.nd
    have hr1 : Room 1 _ := hr.mono (by decide)
    refine ⟨_, pss_cons (ps_set (i := 2) nd rfl (Or.inl rfl) (pe_call T.ok hr1 (by rfl) T.g T.kp T.b .nil pass0 (pa_cons (pv 0) (pa_cons pe_int pa_nil))))
      (pss_cons (ps_set (i := 3) nd rfl (Or.inl rfl) (pe_call T.ok hr1 (by rfl) T.g T.kp T.b .nil pass0 (pa_cons (pv 0) (pa_cons (pe_callB call_len_seq (by rfl) ml PySem.boot_len (pa_cons (pv 1) pa_nil)) pa_nil))))
      (pss_cons (ps_if (pt_cmpR op_lt (pv 2) pe_int (nomark _)) (pss_one (ps_ret (pe_op op_catW (pe_op op_catW (pe_slice sl_S (pv 1) po_none (po_some (pv 3))) (pe_tup (pa_cons (pe_call OD.ok hr (by rfl) OD.g OD.kp OD.b .nil pass0 (pa_cons (pv 0) (pa_cons (pe_ix ix_tup (pv 1) (pv 3) (fun _ _ => rfl)) pa_nil))) pa_nil))) (pe_slice sl_S (pv 1) (po_some (pe_op op_add (pv 3) pe_int)) po_none)))) pss_nil)
      (pss_cons (ps_if (pt_cmpR op_eq (pv 2) pe_int (nomark _)) (pss_one (ps_ret (pe_op op_catW (pe_slice sl_S (pv 1) po_none (po_some (pv 3))) (pe_slice sl_S (pv 1) (po_some (pe_op op_add (pv 3) pe_int)) po_none)))) pss_nil)
      (pss_cons (ps_if (pt_cmpR op_eq (pv 2) pe_int (nomark _)) (pss_one (ps_ret (pe_op op_catW (pe_op op_catW (pe_slice sl_S (pv 1) po_none (po_some (pv 3))) (pe_slice sl_S (pv 1) (po_some (pv 3)) (po_some (pe_op op_add (pv 3) pe_int)))) (pe_slice sl_S (pv 1) (po_some (pv 3)) po_none)))) pss_nil)
      (pss_cons (ps_if (pt_cmpR op_eq (pv 2) pe_int (nomark _)) (pss_cons (ps_set (i := 4) nd rfl (Or.inl rfl) (pe_slice sl_S (pv 1) (po_some (pv 3)) (po_some (pe_op op_add (pv 3) pe_int))))
        (pss_one (ps_ret (pe_op op_catW (pe_op op_catW (pe_slice sl_S (pv 1) po_none (po_some (pv 3))) (pe_stepP (pv 4) (pe_un un_neg pe_int))) (pe_slice sl_S (pv 1) (po_some (pe_op op_add (pv 3) pe_int)) po_none))))) pss_nil)
      (pss_cons (ps_if (pt_cmpR op_eq (pv 2) pe_int (nomark _)) (pss_cons (ps_set (i := 5) nd rfl (Or.inl rfl) (pe_lst (pa_cons (pe_callTy call_list_of (by rfl) mli (by decide +kernel) (pa_cons (pv 1) pa_nil)) (pa_cons (pe_op op_catW (pe_slice sl_S (pv 1) po_none (po_some (pe_un un_neg pe_int))) (pe_slice sl_S (pv 1) (po_some (pe_un un_neg pe_int)) (po_some (pe_un un_neg pe_int)))) (pa_cons (pe_op op_catW (pe_slice sl_S (pv 1) po_none (po_some pe_int)) (pe_slice sl_S (pv 1) (po_some pe_int) po_none)) (pa_cons (pe_stepP (pv 1) (pe_un un_neg pe_int)) pa_nil))))))
        (pss_one (ps_ret (pe_ix ix_list (pv 5) (pe_call T.ok hr1 (by rfl) T.g T.kp T.b .nil pass0 (pa_cons (pv 0) (pa_cons pe_int pa_nil))) (fun _ _ => rfl))))) pss_nil)
      (pss_cons (ps_if (pt_cmpR op_eq (pv 2) pe_int (nomark _)) (pss_cons (ps_set (i := 6) nd rfl (Or.inl rfl) (pe_lst (pa_cons pe_str (pa_cons pe_str (pa_cons pe_str (pa_cons pe_str (pa_cons pe_str (pa_cons pe_str (pa_cons pe_str (pa_cons pe_str (pa_cons pe_str (pa_cons pe_str (pa_cons pe_non (pa_cons pe_int (pa_cons (pe_tup (pa_cons pe_str pa_nil)) pa_nil)))))))))))))))
        (pss_one (ps_ret (pe_op op_catW (pe_tup (pa_cons (pe_ix ix_list (pv 6) (pe_call T.ok hr1 (by rfl) T.g T.kp T.b .nil pass0 (pa_cons (pv 0) (pa_cons (pe_callB call_len_seq (by rfl) ml PySem.boot_len (pa_cons (pv 6) pa_nil)) pa_nil))) (fun _ _ => rfl)) pa_nil)) (pe_slice sl_S (pv 1) (po_some pe_int) po_none))))) pss_nil)
      (pss_cons (ps_set (i := 3) nd rfl (Or.inl rfl) (pe_ix ix_list (pe_lst (pa_cons pe_int (pa_cons pe_int (pa_cons pe_int pa_nil)))) (pe_call T.ok hr1 (by rfl) T.g T.kp T.b .nil pass0 (pa_cons (pv 0) (pa_cons pe_int pa_nil))) (fun _ _ => rfl)))
      (pss_cons (ps_set (i := 7) nd rfl (Or.inl rfl) pe_str)
      (pss_cons (ps_set (i := 8) nd rfl (Or.inl rfl) (pe_call T.ok hr1 (by rfl) T.g T.kp T.b .nil pass0 (pa_cons (pv 0) (pa_cons (pe_callB call_len_str (by rfl) ml PySem.boot_len (pa_cons (pe_ix ix_tup (pv 1) (pv 3) (fun _ _ => rfl)) pa_nil)) pa_nil))))
      (pss_cons (ps_set (i := 9) nd rfl (Or.inl rfl) (pe_ix ix_str (pv 7) (pe_call T.ok hr1 (by rfl) T.g T.kp T.b .nil pass0 (pa_cons (pv 0) (pa_cons (pe_callB call_len_str (by rfl) ml PySem.boot_len (pa_cons (pv 7) pa_nil)) pa_nil))) (fun _ _ => rfl)))
      (pss_cons (ps_set (i := 10) nd rfl (Or.inl rfl) (pe_ix ix_tup (pv 1) (pv 3) (fun _ _ => rfl)))
      (pss_cons (ps_set (i := 11) nd rfl (Or.inl rfl) (pe_op op_add_str (pe_slice sl_str (pv 10) po_none (po_some (pv 8))) (pv 9)))
      (pss_cons (ps_set (i := 11) nd rfl (Or.inl rfl) (pe_op op_add_str (pv 11) (pe_slice sl_str (pv 10) (po_some (pe_op op_add (pv 8) pe_int)) po_none)))
      (pss_one (ps_ret (pe_op op_catW (pe_op op_catW (pe_slice sl_S (pv 1) po_none (po_some (pv 3))) (pe_tup (pa_cons (pv 11) pa_nil))) (pe_slice sl_S (pv 1) (po_some (pe_op op_add (pv 3) pe_int)) po_none)))))))))))))))))), ?_⟩
    have parts := fine_parts fine
    have l7 := vals_len_e e
    have cl : ∀ {lo hi}, (cutV e.vals lo hi).length ≤ 7 := fun {lo hi} => Nat.le_trans cut_len l7.2
    have cm : ∀ {lo hi}, ∀ x ∈ cutV e.vals lo hi, PartS x := fun {lo hi} x hx => parts x (cut_mem x hx)
    have fin : ∀ (a : Addr) (H' : Hp) (k : Nat), PenAt H' p c k → k ≤ n + 10 → But p H H' → BentAt H' a → Q (.ref a) H' := fun a H' k pk hk bt b => q a H' (pk.mono hk) bt b
    refine ⟨_, rfl, p, c, n, 9, rfl, pen, by omega, by decide, by decide, fun r1 H1 a1 b1 pen1 bt1 => ?_⟩
    have he1 := pen_keep pen bt1 he
    refine ⟨_, rfl, _, rfl, ea, _, rfl, .inr (SqT.of he1), p, c, n + 1, (e.vals.length : Int), rfl, pen1, by omega, by omega, by omega, fun r2 H2 a2 b2 pen2 bt2 => ?_⟩
    have he2 := pen_keep pen1 bt2 he1
    have bt12 := bt1.tr bt2
    -- an odd part
    refine ⟨_, rfl, r1, 3, rfl, rfl, _, rfl, ite2 (fun _ => ?_) (fun _ => ?_)⟩
    · refine ⟨_, rfl, _, rfl, r2, rfl, ea, _, rfl, he2, fun t3 H3 s3 h3 => ?_⟩
      obtain ⟨v, hv, mv⟩ := at_ex (xs := e.vals) a2 b2
      refine ⟨_, rfl, _, rfl, _, rfl, ea, _, r2, v, rfl, rfl, SqT.of (s3 _ _ he2), hv, p, c, n + 1 + 1, v, rfl, pen2.same s3, by omega, parts v mv, fun u H4 pen4 bt4 pu => ?_⟩
      refine ⟨(by show 1 ≤ sizeLine; decide), fun t5 nt5 => ?_⟩
      have s5 := @same_new _ _ (.tup [u]) nt5
      have h5 := @upd_same H4 t5 (.tup [u])
      generalize upd H4 t5 (.tup [u]) = H5 at s5 h5 ⊢
      have h35 := s5 _ _ (pen_keep (pen2.same s3) bt4 h3)
      have he5 := s5 _ _ (pen_keep (pen2.same s3) bt4 (s3 _ _ he2))
      refine ⟨t3, t5, _, _, rfl, rfl, h35, h5, (by have := @cl none (some r2); simp only [List.length_cons, List.length_nil]; omega), fun t6 H6 s6 h6 => ?_⟩
      refine ⟨_, rfl, _, rfl, r2, 1, rfl, rfl, _, rfl, ea, _, rfl, s6 _ _ he5, fun t7 H7 s7 h7 => ?_⟩
      refine ⟨t6, t7, _, _, rfl, rfl, s7 _ _ h6, h7, (by have := @cl none (some r2); have := @cl (some (r2 + 1)) none; rw [List.length_append]; simp only [List.length_cons, List.length_nil]; omega), fun t8 H8 s8 h8 => ?_⟩
      have s58 := s5.trans (s6.trans (s7.trans s8))
      refine fin t8 H8 _ (pen4.same s58) (by omega) (bt12.tr ((But.of s3).tr (bt4.tr (.of s58)))) (bent_tup h8 (by have := @cl none (some r2); have := @cl (some (r2 + 1)) none; rw [List.length_append, List.length_append]; simp only [List.length_cons, List.length_nil]; omega) (pu.on fun a o h _ => s58 a o h) fun x hx => ?_)
      rcases List.mem_append.mp hx with hx | hx
      · rcases List.mem_append.mp hx with hx | hx
        · exact .inl (cm x hx)
        · exact .inr (List.mem_singleton.mp hx)
      · exact .inl (cm x hx)
    have non : ∀ {H' : Hp}, PrtB H' .non := Lf.non.prt
    -- one left out
    refine ⟨_, rfl, rfl, _, rfl, ite2 (fun _ => ?_) (fun _ => ?_)⟩
    · refine ⟨_, rfl, _, rfl, r2, rfl, ea, _, rfl, he2, fun t3 H3 s3 h3 => ?_⟩
      refine ⟨_, rfl, _, rfl, r2, 1, rfl, rfl, _, rfl, ea, _, rfl, s3 _ _ he2, fun t4 H4 s4 h4 => ?_⟩
      refine ⟨t3, t4, _, _, rfl, rfl, s4 _ _ h3, h4, (by have := @cl none (some r2); have := @cl (some (r2 + 1)) none; omega), fun t5 H5 s5 h5 => ?_⟩
      have s35 := s3.trans (s4.trans s5)
      refine fin t5 H5 _ (pen2.same s35) (by omega) (bt12.tr (.of s35)) (bent_tup h5 (by have := @cl none (some r2); have := @cl (some (r2 + 1)) none; rw [List.length_append]; omega) non fun x hx => .inl ?_)
      rcases List.mem_append.mp hx with hx | hx <;> exact cm x hx
    -- one twice
    refine ⟨_, rfl, rfl, _, rfl, ite2 (fun _ => ?_) (fun _ => ?_)⟩
    · refine ⟨_, rfl, _, rfl, r2, rfl, ea, _, rfl, he2, fun t3 H3 s3 h3 => ?_⟩
      refine ⟨_, rfl, _, rfl, r2, rfl, _, rfl, r2, 1, rfl, rfl, _, rfl, ea, _, rfl, s3 _ _ he2, fun t4 H4 s4 h4 => ?_⟩
      refine ⟨t3, t4, _, _, rfl, rfl, s4 _ _ h3, h4, (by have := @cl none (some r2); have := @cl (some r2) (some (r2 + 1)); omega), fun t5 H5 s5 h5 => ?_⟩
      refine ⟨_, rfl, _, rfl, r2, rfl, ea, _, rfl, s5 _ _ (s4 _ _ (s3 _ _ he2)), fun t6 H6 s6 h6 => ?_⟩
      refine ⟨t5, t6, _, _, rfl, rfl, s6 _ _ h5, h6, (by have := @cl none (some r2); have := @cl (some r2) (some (r2 + 1)); have := @cl (some r2) none; rw [List.length_append]; omega), fun t7 H7 s7 h7 => ?_⟩
      have s37 := s3.trans (s4.trans (s5.trans (s6.trans s7)))
      refine fin t7 H7 _ (pen2.same s37) (by omega) (bt12.tr (.of s37)) (bent_tup h7 (by have := @cl none (some r2); have := @cl (some r2) (some (r2 + 1)); have := @cl (some r2) none; rw [List.length_append, List.length_append]; omega) non fun x hx => .inl ?_)
      rcases List.mem_append.mp hx with hx | hx
      · rcases List.mem_append.mp hx with hx | hx <;> exact cm x hx
      · exact cm x hx
    -- two exchanged
    refine ⟨_, rfl, rfl, _, rfl, ite2 (fun _ => ?_) (fun _ => ?_)⟩
    · refine ⟨_, rfl, _, rfl, r2, rfl, _, rfl, r2, 2, rfl, rfl, _, rfl, ea, _, rfl, he2, fun t3 H3 s3 h3 => ?_⟩
      refine ⟨_, rfl, _, rfl, r2, rfl, ea, _, rfl, s3 _ _ he2, fun t4 H4 s4 h4 => ?_⟩
      refine ⟨_, rfl, 1, rfl, t3, _, -1, rfl, s4 _ _ h3, rfl, .inr rfl, fun t5 H5 ys s5 hy h5 => ?_⟩
      have ly : ys.length ≤ 7 := by
        have := @cl (some r2) (some (r2 + 2))
        rcases hy with rfl | rfl
        · exact this
        · rw [List.length_reverse]
          exact this
      have my : ∀ x ∈ ys, PartS x := fun x hx => by
        rcases hy with rfl | rfl
        · exact cm x hx
        · exact cm x (List.mem_reverse.mp hx)
      refine ⟨t4, t5, _, _, rfl, rfl, s5 _ _ h4, h5, (by have := @cl none (some r2); omega), fun t6 H6 s6 h6 => ?_⟩
      refine ⟨_, rfl, _, rfl, r2, 2, rfl, rfl, _, rfl, ea, _, rfl, s6 _ _ (s5 _ _ (s4 _ _ (s3 _ _ he2))), fun t7 H7 s7 h7 => ?_⟩
      refine ⟨t6, t7, _, _, rfl, rfl, s7 _ _ h6, h7, (by have := @cl none (some r2); have := @cl (some (r2 + 2)) none; rw [List.length_append]; omega), fun t8 H8 s8 h8 => ?_⟩
      have s38 := s3.trans (s4.trans (s5.trans (s6.trans (s7.trans s8))))
      refine fin t8 H8 _ (pen2.same s38) (by omega) (bt12.tr (.of s38)) (bent_tup h8 (by have := @cl none (some r2); have := @cl (some (r2 + 2)) none; rw [List.length_append, List.length_append]; omega) non fun x hx => .inl ?_)
      rcases List.mem_append.mp hx with hx | hx
      · rcases List.mem_append.mp hx with hx | hx
        · exact cm x hx
        · exact my x hx
      · exact cm x hx
    -- one of four
    refine ⟨_, rfl, rfl, _, rfl, ite2 (fun _ => ?_) (fun _ => ?_)⟩
    · refine ⟨_, rfl, ea, _, rfl, .inr (SqT.of he2), fun l3 nl3 => ?_⟩
      have s3 := @same_new _ _ (.lst e.vals) nl3
      have h3 := @upd_same H2 l3 (.lst e.vals)
      generalize upd H2 l3 (.lst e.vals) = H3 at s3 h3 ⊢
      refine ⟨_, rfl, 1, rfl, _, rfl, ea, _, rfl, s3 _ _ he2, fun t4 H4 s4 h4 => ?_⟩
      refine ⟨_, rfl, 2, rfl, _, rfl, 1, rfl, _, rfl, ea, _, rfl, s4 _ _ (s3 _ _ he2), fun t5 H5 s5 h5 => ?_⟩
      refine ⟨t4, t5, _, _, rfl, rfl, s5 _ _ h4, h5, (by have := @cl none (some (-1)); have := @cl (some (-2)) (some (-1)); omega), fun t6 H6 s6 h6 => ?_⟩
      have he6 := s6 _ _ (s5 _ _ (s4 _ _ (s3 _ _ he2)))
      refine ⟨_, rfl, 3, rfl, ea, _, rfl, he6, fun t7 H7 s7 h7 => ?_⟩
      refine ⟨_, rfl, 4, rfl, ea, _, rfl, s7 _ _ he6, fun t8 H8 s8 h8 => ?_⟩
      refine ⟨t7, t8, _, _, rfl, rfl, s8 _ _ h7, h8, (by have := @cl none (some 3); have := @cl (some 4) none; omega), fun t9 H9 s9 h9 => ?_⟩
      have s69 := s7.trans (s8.trans s9)
      refine ⟨_, rfl, 1, rfl, ea, _, -1, rfl, s69 _ _ he6, rfl, .inr rfl, fun t10 H10 ys s10 hy h10 => ?_⟩
      refine ⟨(by show 4 ≤ sizeLine; decide), fun L nL => ?_⟩
      have s11 := @same_new _ _ (.lst [V.ref l3, .ref t6, .ref t9, .ref t10]) nL
      have h11 := @upd_same H10 L (.lst [V.ref l3, .ref t6, .ref t9, .ref t10])
      generalize upd H10 L (.lst [V.ref l3, .ref t6, .ref t9, .ref t10]) = H11 at s11 h11 ⊢
      have s6b := s69.trans (s10.trans s11)
      have s2b : Same H2 H11 := s3.trans (s4.trans (s5.trans (s6.trans s6b)))
      refine ⟨_, rfl, _, rfl, p, c, n + 1 + 1, 4, rfl, pen2.same s2b, by omega, by decide, by decide, fun r H12 a12 b12 pen12 bt12' => ?_⟩
      have pn := pen2.same s2b
      obtain ⟨v, hv, mv⟩ := at_ex (xs := [V.ref l3, .ref t6, .ref t9, .ref t10]) a12 b12
      have bt := bt12.tr ((But.of s2b).tr bt12')
      have b1 : BentAt H12 l3 := bent_lst (pen_keepL pn bt12' (s6b _ _ (s6 _ _ (s5 _ _ (s4 _ _ h3))))) (by omega) parts
      have b2 : BentAt H12 t6 := bent_tup (pen_keep pn bt12' (s6b _ _ h6)) (by have := @cl none (some (-1)); have := @cl (some (-2)) (some (-1)); rw [List.length_append]; omega) non fun x hx => .inl ((List.mem_append.mp hx).elim (cm x) (cm x))
      have b3 : BentAt H12 t9 := bent_tup (pen_keep pn bt12' (s11 _ _ (s10 _ _ h9))) (by have := @cl none (some 3); have := @cl (some 4) none; rw [List.length_append]; omega) non fun x hx => .inl ((List.mem_append.mp hx).elim (cm x) (cm x))
      have b4 : BentAt H12 t10 := bent_tup (pen_keep pn bt12' (s11 _ _ h10)) (by rcases hy with rfl | rfl; omega; rw [List.length_reverse]; omega) non fun x hx => .inl (parts x (by rcases hy with rfl | rfl; exact hx; exact List.mem_reverse.mp hx))
      refine ⟨L, _, r, v, rfl, rfl, SqL.of (pen_keepL pn bt12' h11), hv, ?_⟩
      simp only [List.mem_cons, List.not_mem_nil, or_false] at mv
      rcases mv with rfl | rfl | rfl | rfl
      · exact fin _ H12 _ pen12 (by omega) bt b1
      · exact fin _ H12 _ pen12 (by omega) bt b2
      · exact fin _ H12 _ pen12 (by omega) bt b3
      · exact fin _ H12 _ pen12 (by omega) bt b4
    -- another word
    refine ⟨_, rfl, rfl, _, rfl, ite2 (fun _ => ?_) (fun _ => ?_)⟩
    · refine ⟨(by show 1 ≤ sizeLine; decide), fun t3 nt3 => ?_⟩
      have s3 := @same_new _ _ (.tup [V.str "go"]) nt3
      have h3 := @upd_same H2 t3 (.tup [V.str "go"])
      generalize upd H2 t3 (.tup [V.str "go"]) = H3 at s3 h3 ⊢
      refine ⟨(by show 13 ≤ sizeLine; decide), fun L nL => ?_⟩
      have s4 := @same_new _ _ (.lst [V.str "come", .str "go", .str "move", .str "some", .str "swap", .str "count", .str "look", .str "looks", .str "", .str "Go", .non, .int 3, .ref t3]) nL
      have h4 := @upd_same H3 L (.lst [V.str "come", .str "go", .str "move", .str "some", .str "swap", .str "count", .str "look", .str "looks", .str "", .str "Go", .non, .int 3, .ref t3])
      generalize upd H3 L (.lst [V.str "come", .str "go", .str "move", .str "some", .str "swap", .str "count", .str "look", .str "looks", .str "", .str "Go", .non, .int 3, .ref t3]) = H4 at s4 h4 ⊢
      have s24 := s3.trans s4
      have pn := pen2.same s24
      refine ⟨_, rfl, _, rfl, _, rfl, L, _, rfl, .inl (SqL.of h4), p, c, n + 1 + 1, 13, rfl, pn, by omega, by decide, by decide, fun r H5 a5 b5 pen5 bt5 => ?_⟩
      obtain ⟨v, hv, mv⟩ := at_ex (xs := [V.str "come", .str "go", .str "move", .str "some", .str "swap", .str "count", .str "look", .str "looks", .str "", .str "Go", .non, .int 3, .ref t3]) a5 b5
      have h35 := pen_keep pn bt5 (s4 _ _ h3)
      refine ⟨L, _, r, v, rfl, rfl, SqL.of (pen_keepL pn bt5 h4), hv, (by show 1 ≤ sizeLine; decide), fun t6 nt6 => ?_⟩
      have s6 := @same_new _ _ (.tup [v]) nt6
      have h6 := @upd_same H5 t6 (.tup [v])
      generalize upd H5 t6 (.tup [v]) = H6 at s6 h6 ⊢
      refine ⟨_, rfl, 1, rfl, ea, _, rfl, s6 _ _ (pen_keep pn bt5 (s24 _ _ he2)), fun t7 H7 s7 h7 => ?_⟩
      refine ⟨t6, t7, _, _, rfl, rfl, s7 _ _ h6, h7, (by have := @cl (some 1) none; simp only [List.length_cons, List.length_nil]; omega), fun t8 H8 s8 h8 => ?_⟩
      have s58 := s6.trans (s7.trans s8)
      have st : ∀ z : Str, z.length ≤ 100 → PyData.strOk z = true → PrtB H8 (.str z) := fun z h ok => (Lf.str z h ok).prt
      have pv : PrtB H8 v := by
        simp only [List.mem_cons, List.not_mem_nil, or_false] at mv
        rcases mv with rfl | rfl | rfl | rfl | rfl | rfl | rfl | rfl | rfl | rfl | rfl | rfl | rfl
        · exact st _ (by decide +kernel) (ofString_ok _)
        · exact st _ (by decide +kernel) (ofString_ok _)
        · exact st _ (by decide +kernel) (ofString_ok _)
        · exact st _ (by decide +kernel) (ofString_ok _)
        · exact st _ (by decide +kernel) (ofString_ok _)
        · exact st _ (by decide +kernel) (ofString_ok _)
        · exact st _ (by decide +kernel) (ofString_ok _)
        · exact st _ (by decide +kernel) (ofString_ok _)
        · exact st _ (by decide +kernel) (ofString_ok _)
        · exact st _ (by decide +kernel) (ofString_ok _)
        · exact non
        · exact (Lf.int 3 (by decide)).prt
        · have h38 := s58 _ _ h35
          exact ⟨.tup h38, (fun z e => nomatch e), .inl ⟨_, .tup h38 (.str _ (by decide +kernel) (ofString_ok _))⟩⟩
      refine fin t8 H8 _ (pen5.same s58) (by omega) (bt12.tr ((But.of s24).tr (bt5.tr (.of s58)))) (bent_tup h8 (by have := @cl (some 1) none; rw [List.length_append]; simp only [List.length_cons, List.length_nil]; omega) pv fun x hx => ?_)
      rcases List.mem_append.mp hx with hx | hx
      · exact .inr (List.mem_singleton.mp hx)
      · exact .inl (cm x hx)
    -- another sign
    refine ⟨(by show 3 ≤ sizeLine; decide), fun L nL => ?_⟩
    have s3 := @same_new _ _ (.lst [V.int 1, .int 3, .int 4]) nL
    have h3 := @upd_same H2 L (.lst [V.int 1, .int 3, .int 4])
    generalize upd H2 L (.lst [V.int 1, .int 3, .int 4]) = H3 at s3 h3 ⊢
    have pn := pen2.same s3
    refine ⟨_, rfl, p, c, n + 1 + 1, 3, rfl, pn, by omega, by decide, by decide, fun r H4 a4 b4 pen4 bt4 => ?_⟩
    obtain ⟨v, hv, mv⟩ := at_ex (xs := [V.int 1, .int 3, .int 4]) a4 b4
    refine ⟨L, _, r, v, rfl, rfl, SqL.of (pen_keepL pn bt4 h3), hv, ?_⟩
    obtain ⟨j, hj, rfl⟩ : ∃ j : Nat, (j = 1 ∨ j = 3 ∨ j = 4) ∧ v = .int (j : Int) := by
      simp only [List.mem_cons, List.not_mem_nil, or_false] at mv
      rcases mv with rfl | rfl | rfl
      · exact ⟨1, .inl rfl, rfl⟩
      · exact ⟨3, .inr (.inl rfl), rfl⟩
      · exact ⟨4, .inr (.inr rfl), rfl⟩
    obtain ⟨y, hy, ny⟩ := fine_names fine j hj
    have ly := name_len ny
    have yz : y.length ≤ sizeLine := Nat.le_of_lt (small1000 (by omega))
    have he4 := pen_keep pn bt4 (s3 _ _ he2)
    refine ⟨_, rfl, _, rfl, _, rfl, ea, _, (j : Int), _, rfl, rfl, SqT.of he4, atI_nat hy, y, rfl, yz, p, c, n + 1 + 1 + 1, (y.length : Int), rfl, pen4, by omega, by omega, by omega, fun r5 H5 a5 b5 pen5 bt5 => ?_⟩
    have he5 := pen_keep pen4 bt5 he4
    have sl := signs_len
    have sz : signs96.length ≤ sizeLine := Nat.le_of_lt (small1000 (by omega))
    refine ⟨_, rfl, _, rfl, _, rfl, signs96, rfl, sz, p, c, n + 1 + 1 + 1 + 1, (signs96.length : Int), rfl, pen5, by omega, by omega, by omega, fun r6 H6 a6 b6 pen6 bt6 => ?_⟩
    have he6 := pen_keep pen5 bt6 he5
    obtain ⟨ch, hch, mch⟩ := at_ex (xs := signs96.cps.toList) a6 (by rw [Array.length_toList]; exact b6)
    refine ⟨signs96, r6, ch, rfl, rfl, sz, hch, ?_⟩
    refine ⟨_, rfl, _, rfl, ea, _, (j : Int), _, rfl, rfl, SqT.of he6, atI_nat hy, ?_⟩
    obtain ⟨k, rfl⟩ : ∃ k : Nat, r5 = (k : Int) := ⟨r5.toNat, by omega⟩
    have hk : k < y.cps.toList.length := by rw [Array.length_toList]; exact Int.ofNat_lt.mp b5
    have c1 : cutS y none (some (k : Int)) = sc (y.cps.toList.take k) := sc_take y.cps.toList (by omega)
    have c2 : cutS y (some ((k : Int) + 1)) none = sc (y.cps.toList.drop (k + 1)) := sc_drop y.cps.toList (k := k + 1) (by omega)
    have c3 : (⟨#[ch]⟩ : Str) = sc [ch] := rfl
    have ll : y.cps.toList.length ≤ 8 := by rw [Array.length_toList]; exact ly.2
    refine ⟨_, rfl, _, rfl, (k : Int), rfl, y, rfl, yz, _, rfl, _, _, rfl, rfl, (by rw [c1, sc_len, List.length_take]; exact Nat.le_of_lt (small1000 (by show _ + 1 ≤ 1000; omega))), ?_⟩
    rw [c1, c3, sc_app]
    refine ⟨_, rfl, _, rfl, _, rfl, (k : Int), 1, rfl, rfl, _, rfl, y, rfl, yz, _, _, rfl, rfl, (by rw [c2, sc_len, sc_len, List.length_append, List.length_take, List.length_drop]; exact Nat.le_of_lt (small1000 (by simp only [List.length_cons, List.length_nil]; omega))), ?_⟩
    rw [c2, sc_app]
    have oky := of_ok (name_ok ny)
    have pnew : PartS (.str (sc (y.cps.toList.take k ++ [ch] ++ y.cps.toList.drop (k + 1)))) := by
      refine .inl ⟨_, rfl, by rw [sc_len, List.length_append, List.length_append, List.length_take, List.length_drop]; simp only [List.length_cons, List.length_nil]; omega, sc_ok fun c hc => ?_⟩
      rcases List.mem_append.mp hc with hc | hc
      · rcases List.mem_append.mp hc with hc | hc
        · exact oky c (List.mem_of_mem_take hc)
        · rw [List.mem_singleton.mp hc]
          exact of_ok (ofString_ok _) ch mch
      · exact oky c (List.mem_of_mem_drop hc)
    generalize sc (y.cps.toList.take k ++ [ch] ++ y.cps.toList.drop (k + 1)) = nw at pnew ⊢
    refine ⟨_, rfl, _, rfl, (j : Int), rfl, ea, _, rfl, he6, fun t7 H7 s7 h7 => ?_⟩
    refine ⟨_, rfl, (by show 1 ≤ sizeLine; decide), fun t8 nt8 => ?_⟩
    have s8 := @same_new _ _ (.tup [V.str nw]) nt8
    have h8 := @upd_same H7 t8 (.tup [V.str nw])
    generalize upd H7 t8 (.tup [V.str nw]) = H8 at s8 h8 ⊢
    refine ⟨t7, t8, _, _, rfl, rfl, s8 _ _ h7, h8, (by have := @cl none (some (j : Int)); simp only [List.length_cons, List.length_nil]; omega), fun t9 H9 s9 h9 => ?_⟩
    refine ⟨_, rfl, _, rfl, (j : Int), 1, rfl, rfl, _, rfl, ea, _, rfl, s9 _ _ (s8 _ _ (s7 _ _ he6)), fun t10 H10 s10 h10 => ?_⟩
    refine ⟨t9, t10, _, _, rfl, rfl, s10 _ _ h9, h10, (by have := @cl none (some (j : Int)); have := @cl (some ((j : Int) + 1)) none; rw [List.length_append]; simp only [List.length_cons, List.length_nil]; omega), fun t11 H11 s11 h11 => ?_⟩
    have s6b := s7.trans (s8.trans (s9.trans (s10.trans s11)))
    refine fin t11 H11 _ (pen6.same s6b) (by omega) (bt12.tr ((But.of s3).tr (bt4.tr (bt5.tr (bt6.tr (.of s6b)))))) (bent_tup h11 (by have := @cl none (some (j : Int)); have := @cl (some ((j : Int) + 1)) none; rw [List.length_append, List.length_append]; simp only [List.length_cons, List.length_nil]; omega) non fun x hx => .inl ?_)
    rcases List.mem_append.mp hx with hx | hx
    · rcases List.mem_append.mp hx with hx | hx
      · exact cm x hx
      · rw [List.mem_singleton.mp hx]
        exact pnew
    · exact cm x hx
end
/-! ### the law -/
theorem tabg_but {H H' : Hp} {T p c : Addr} {n : Nat} (t : GxR.TabG H T) (pen : PenAt H p c n) (b : But p H H') : GxR.TabG H' T := by
  obtain ⟨ps, e, ok⟩ := t
  obtain ⟨kvs, ns', a', x', g1, _⟩ := pen.ex
  exact ⟨ps, b T _ e (ne_of e g1 (by intro z; cases z)), ok⟩
theorem PenAt.on {H H' : Hp} {p c : Addr} {n : Nat} (P : PenAt H p c n) (k : ∀ a o, H a = some o → (∀ ps, o ≠ .tbl ps) → H' a = some o) : PenAt H' p c n := by
  obtain ⟨kvs, ns, a, l, h1, h2, h3, h4, h5, h6, h7⟩ := P.ex
  exact ⟨kvs, ns, a, l, k _ _ h1 (fun ps z => nomatch z), h2, h3, h4, h5, k _ _ h6 (fun ps z => nomatch z), h7⟩
/-- all that holds all along -/
structure LI (p c T1 T2 l1 l2 l3 l4 l5 : Addr) (PL GL HL EL : List Str) (ms : List Int) (H : Hp) (n : Nat) : Prop where
  pen : PenAt H p c n
  t1 : GxR.TabG H T1
  t2 : GxR.TabG H T2
  h1 : StrsAt H l1 PL
  h2 : StrsAt H l2 GL
  h3 : StrsAt H l3 HL
  h4 : StrsAt H l4 EL
  h5 : H l5 = some (.lst (ms.map V.int))
section
variable {p c T1 T2 l1 l2 l3 l4 l5 : Addr} {PL GL HL EL : List Str} {ms : List Int} {H H' : Hp} {n : Nat}
theorem LI.mono {m : Nat} (i : LI p c T1 T2 l1 l2 l3 l4 l5 PL GL HL EL ms H n) (h : n ≤ m) : LI p c T1 T2 l1 l2 l3 l4 l5 PL GL HL EL ms H m := ⟨i.pen.mono h, i.t1, i.t2, i.h1, i.h2, i.h3, i.h4, i.h5⟩
theorem LI.same (i : LI p c T1 T2 l1 l2 l3 l4 l5 PL GL HL EL ms H n) (s : Same H H') : LI p c T1 T2 l1 l2 l3 l4 l5 PL GL HL EL ms H' n :=
  ⟨i.pen.same s, tabg_same s i.t1, tabg_same s i.t2, s _ _ i.h1, s _ _ i.h2, s _ _ i.h3, s _ _ i.h4, s _ _ i.h5⟩
theorem LI.but {m : Nat} (i : LI p c T1 T2 l1 l2 l3 l4 l5 PL GL HL EL ms H n) (pen' : PenAt H' p c m) (b : But p H H') : LI p c T1 T2 l1 l2 l3 l4 l5 PL GL HL EL ms H' m :=
  ⟨pen', tabg_but i.t1 i.pen b, tabg_but i.t2 i.pen b, pen_strs i.pen b i.h1, pen_strs i.pen b i.h2, pen_strs i.pen b i.h3, pen_strs i.pen b i.h4, pen_keepL i.pen b i.h5⟩
theorem LI.tbl (i : LI p c T1 T2 l1 l2 l3 l4 l5 PL GL HL EL ms H n) (t : TB2 T1 T2 H H') : LI p c T1 T2 l1 l2 l3 l4 l5 PL GL HL EL ms H' n := by
  have k : ∀ a o, H a = some o → (∀ ps, o ≠ .tbl ps) → H' a = some o := fun a o e n => t.keep i.t1 i.t2 e n
  exact ⟨i.pen.on k, t.2.1, t.2.2, k _ _ i.h1 (fun ps z => nomatch z), k _ _ i.h2 (fun ps z => nomatch z), k _ _ i.h3 (fun ps z => nomatch z), k _ _ i.h4 (fun ps z => nomatch z), k _ _ i.h5 (fun ps z => nomatch z)⟩
end
/-- what is no entry -/
def NoEnt (H : Hp) (x : V) : Prop := ((∀ a, x ≠ .ref a) ∧ Thg H x) ∨ (∃ a xs, x = .ref a ∧ H a = some (.lst xs)) ∨ (∃ a kvs, x = .ref a ∧ H a = some (.dK kvs)) ∨
  ∃ a xs, x = .ref a ∧ H a = some (.tup xs) ∧ xs.length ≤ 1000 ∧ (∀ y ∈ xs, Thg H y) ∧ ¬ IsE xs
theorem NoEnt.on {H H' : Hp} {x : V} (k : ∀ a o, H a = some o → (∀ ps, o ≠ .tbl ps) → H' a = some o) (h : NoEnt H x) : NoEnt H' x := by
  rcases h with ⟨n, t⟩ | ⟨a, xs, rfl, h⟩ | ⟨a, kvs, rfl, h⟩ | ⟨a, xs, rfl, h, l, t, n⟩
  · exact .inl ⟨n, t.on fun a o _ h n => k a o h n⟩
  · exact .inr (.inl ⟨a, xs, rfl, k _ _ h fun ps z => nomatch z⟩)
  · exact .inr (.inr (.inl ⟨a, kvs, rfl, k _ _ h fun ps z => nomatch z⟩))
  · exact .inr (.inr (.inr ⟨a, xs, rfl, k _ _ h (fun ps z => nomatch z), l, fun y hy => (t y hy).on fun a o _ h n => k a o h n, n⟩))
theorem NoEnt.dis {H : Hp} {x : V} (h : NoEnt H x) : (Thg H x ∧ ∀ a xs, x = .ref a → H a ≠ some (.tup xs)) ∨ ∃ a xs, x = .ref a ∧ H a = some (.tup xs) ∧ xs.length ≤ 1000 ∧ (∀ y ∈ xs, Thg H y) ∧ ¬ IsE xs := by
  rcases h with ⟨n, t⟩ | ⟨a, xs, rfl, h⟩ | ⟨a, kvs, rfl, h⟩ | ⟨a, xs, rfl, h, l, t, n⟩
  · exact .inl ⟨t, fun a xs e => absurd e (n a)⟩
  · exact .inl ⟨.lst h, fun a' xs' e z => by rw [← V.ref.inj e, h] at z; exact nomatch z⟩
  · exact .inl ⟨.dct h, fun a' xs' e z => by rw [← V.ref.inj e, h] at z; exact nomatch z⟩
  · exact .inr ⟨a, xs, rfl, h, l, t, n⟩
theorem fine_thg {H : Hp} {e : Ent} (f : e.Fine) : e.vals.length ≤ 1000 ∧ ∀ x ∈ e.vals, Thg H x :=
  ⟨Nat.le_trans (vals_len_e e).2 (by decide), fun x hx => by
    obtain ⟨d, l⟩ := (fine_parts f x hx).lf
    exact l.thg.1⟩
def spLaw (K : PySem.W.Frag) (T1 T2 : Addr) : Sp := fun vs H Q _ => ∃ (a : Addr) (ns : List Int), vs = [.ref a] ∧ SqL K H a (ns.map V.int) ∧ GxR.TabG H T1 ∧ GxR.TabG H T2 ∧ ∀ H', Q (.bl true) H'
section
variable {P : Program} {w : World} {K : PySem.W.Frag} {mg : Str → Option Value} {base : Heap}
abbrev sLawN : List Str := ["_law_script", "_law_pen_here", "_law_places", "_law_goods", "_law_hands", "_law_names_here", "_law_moments_here", "_law_k", "_law_word", "_law_entry_here", "_law_turn", "_law_thing", "_law_kept", "_law_others"]
theorem sc_sLaw : FnScope sLawN ["_law_script"] (defScope sLaw) := ⟨rfl, rfl, rfl, by decide +kernel, rfl, by decide +kernel, by decide +kernel⟩
set_option maxHeartbeats 4000000 in
theorem ok_law {f : Addr} {fd : FuncData} (F : Fun K "law" "law" sLaw f fd)
    {fP fT fW fM fE fI fB fS fL T1 T2 : Addr} {dP dT dW dM dE dI dB dS dL : FuncData}
    (GP : DefT P w K mg base "_law_pen" 1 fP dP ["_law_script"] (spPen K)) (T : TakeT P w K mg base fT dT)
    (W : DefT P w K mg base "_law_words" 3 fW dW ["_law_pen_here", "_law_places", "_law_goods", "_law_entries"] spWords)
    (M : DefT P w K mg base "_law_moments" 2 fM dM ["_law_pen_here", "_law_many_here"] spMoments)
    (EN : DefT P w K mg base "_law_entry_of" 3 fE dE ["_law_pen_here", "_law_word", "_law_name", "_law_moment", "_law_places", "_law_goods", "_law_hands"] spEntryOf)
    (IE : DefT P w K mg base "is_entry" 4 fI dI ["thing"] (spIsEntryA T1 T2)) (BN : DefT P w K mg base "_law_bent" 3 fB dB ["_law_pen_here", "_law_entry_here"] spBent)
    (SM : DefT P w K mg base "_law_same" 1 fS dS ["_law_found", "_law_due"] spSame) (LE : DefT P w K mg base "_law_is_entry" 3 fL dL ["_law_thing"] spLIsE)
    (mr : mg "range" = none) (mp : mg "repr" = none) : FnG P w K mg base 5 f fd ["_law_script"] (spLaw K T1 T2) := by
  refine Fun.okG F sc_sLaw (fun vs H Q E h => ?_) (fun cdv A outer s H vs Q E hG hr h => ?_)
  · obtain ⟨a, ns, rfl, _⟩ := h
    rfl
  · obtain ⟨a, ns, rfl, hS, tg1, tg2, q⟩ := h
    have nd := sc_sLaw.nd
    have hr1 : Room 1 _ := hr.mono (by decide)
    have hr2 : Room 2 _ := hr.mono (by decide)
    have hr3 : Room 3 _ := hr.mono (by decide)
    refine ⟨_, pss_cons (ps_set (i := 1) nd rfl (Or.inl rfl) (pe_call GP.ok hr1 (by rfl) GP.g GP.kp GP.b .nil pass0 (pa_cons (pv 0) pa_nil)))
      (pss_cons (ps_asg (pe_call W.ok hr3 (by rfl) W.g W.kp W.b .nil pass0 (pa_cons (pv 1) (pa_cons (pe_op op_add pe_int (pe_call T.ok hr1 (by rfl) T.g T.kp T.b .nil pass0 (pa_cons (pv 1) (pa_cons pe_int pa_nil)))) (pa_cons (pe_op op_add pe_int (pe_call T.ok hr1 (by rfl) T.g T.kp T.b .nil pass0 (pa_cons (pv 1) (pa_cons pe_int pa_nil)))) (pa_cons pe_int pa_nil))))) (pg_tup (by rfl) (pgs_cons (pg_name (i := 2) nd rfl (Or.inl rfl)) (pgs_cons (pg_name (i := 3) nd rfl (Or.inl rfl)) (pgs_cons (pg_name (i := 4) nd rfl (Or.inl rfl)) (pgs_cons (pg_name (i := 5) nd rfl (Or.inl rfl)) pgs_nil))))))
      (pss_cons (ps_set (i := 6) nd rfl (Or.inl rfl) (pe_call M.ok hr2 (by rfl) M.g M.kp M.b .nil pass0 (pa_cons (pv 1) (pa_cons pe_int pa_nil))))
      (pss_cons (ps_for PassesOwn.never rfl (pi_range1 rfl mr (pa_cons pe_int pa_nil)) (pg_name (i := 7) nd rfl (Or.inl rfl))
        (pss_cons (ps_set (i := 8) nd rfl (Or.inl rfl) (pe_ix ix_list (pe_lst (pa_cons pe_str (pa_cons pe_str (pa_cons pe_str (pa_cons pe_str (pa_cons pe_str (pa_cons pe_str (pa_cons pe_str pa_nil)))))))) (pv 7) (fun _ _ => rfl)))
        (pss_cons (ps_set (i := 9) nd rfl (Or.inl rfl) (pe_call EN.ok hr3 (by rfl) EN.g EN.kp EN.b .nil pass0 (pa_cons (pv 1) (pa_cons (pv 8) (pa_cons (pe_ix ix_list (pv 5) (pv 7) (fun _ _ => rfl)) (pa_cons (pe_ix ix_list (pv 6) (pv 7) (fun _ _ => rfl)) (pa_cons (pv 2) (pa_cons (pv 3) (pa_cons (pv 4) pa_nil)))))))))
        (pss_cons (ps_if (pt_cmpR op_notBl (pe_call IE.ok hr (by rfl) IE.g IE.kp IE.b .nil pass0 (pa_cons (pv 9) pa_nil)) pe_bl (nomark _)) (pss_one (ps_ret pe_bl)) pss_nil)
        (pss_cons (ps_for PassesOwn.never rfl (pi_range1 rfl mr (pa_cons pe_int pa_nil)) (pg_name (i := 10) nd rfl (Or.inl rfl))
          (pss_cons (ps_set (i := 11) nd rfl (Or.inl rfl) (pe_call BN.ok hr3 (by rfl) BN.g BN.kp BN.b .nil pass0 (pa_cons (pv 1) (pa_cons (pv 9) pa_nil))))
          (pss_cons (ps_set (i := 12) nd rfl (Or.inl rfl) (pe_callB (cr_reprS hG hr.units) (by rfl) mp (by decide +kernel) (pa_cons (pv 11) pa_nil)))
          (pss_one (ps_if (PW.pt (pw_or (pt_not (pt_val (pe_call SM.ok hr1 (by rfl) SM.g SM.kp SM.b .nil pass0 (pa_cons (pe_call IE.ok hr (by rfl) IE.g IE.kp IE.b .nil pass0 (pa_cons (pv 11) pa_nil)) (pa_cons (pe_call LE.ok hr3 (by rfl) LE.g LE.kp LE.b .nil pass0 (pa_cons (pv 11) pa_nil)) pa_nil))))) (pw_or1 (pt_cmpR op_ne (pe_callB (cr_reprS hG hr.units) (by rfl) mp (by decide +kernel) (pa_cons (pv 11) pa_nil)) (pv 12) (nomark _))))) (pss_one (ps_ret pe_bl)) pss_nil)))))
        (pss_one (ps_if (pt_cmpR op_notBl (pe_call IE.ok hr (by rfl) IE.g IE.kp IE.b .nil pass0 (pa_cons (pv 9) pa_nil)) pe_bl (nomark _)) (pss_one (ps_ret pe_bl)) pss_nil)))))))
      (pss_cons (ps_set (i := 13) nd rfl (Or.inl rfl) (pe_lst (pa_cons pe_non (pa_cons pe_bl (pa_cons pe_int (pa_cons pe_str (pa_cons pe_str (pa_cons (pe_tup pa_nil) (pa_cons (pe_lst pa_nil) (pa_cons pe_dnewK (pa_cons (pe_tup (pa_cons (pe_tup pa_nil) pa_nil)) (pa_cons (pe_tup (pa_cons pe_str pa_nil)) pa_nil))))))))))))
      (pss_cons (ps_for PassesOwn.never rfl (pi_list (pe_op op_cat (pv 13) (pe_lst (pa_cons (pe_tup (pa_cons (pe_lst pa_nil) (pa_cons pe_str (pa_cons pe_int (pa_cons pe_str (pa_cons pe_str pa_nil)))))) (pa_cons (pe_disp (pps_cons pe_str pe_int pps_nil) (by rfl) (by rfl) (fun z => by cases z) (by decide)) pa_nil))))) (pg_name (i := 11) nd rfl (Or.inl rfl))
        (pss_one (ps_if (pt_cmpR op_notBl (pe_call IE.ok hr (by rfl) IE.g IE.kp IE.b .nil pass0 (pa_cons (pv 11) pa_nil)) pe_bl (nomark _)) (pss_one (ps_ret pe_bl)) pss_nil)))
      (pss_one (ps_ret pe_bl))))))), ?_⟩
    refine ⟨_, rfl, a, ns, rfl, hS, fun p c H1 np nc pen1 s1 => ?_⟩
    refine ⟨_, rfl, _, rfl, p, c, 0, 6, rfl, pen1, by omega, by decide, by decide, fun r1 H2 b1 d1 pen2 bt2 => ?_⟩
    refine ⟨1, r1, rfl, rfl, _, rfl, p, c, 1, 3, rfl, pen2, by omega, by decide, by decide, fun r2 H3 b2 d2 pen3 bt3 => ?_⟩
    refine ⟨1, r2, rfl, rfl, p, c, 2, (1 + r1).toNat, (1 + r2).toNat, 7, ?_, pen3, by omega, by omega, by omega, by decide, fun tp l1 l2 l3 l4 PL GL HL EL H4 ntp ht h1 h2 h3 h4 n1 n2 n3 n4 pen4 bt4 => ?_⟩
    · rw [Int.toNat_of_nonneg (by omega), Int.toNat_of_nonneg (by omega)]
      rfl
    refine ⟨tp, _, rfl, SqT.of ht, rfl, _, _, rfl, _, _, rfl, _, _, rfl, _, _, rfl, rfl, ?_⟩
    refine ⟨_, rfl, p, c, 52, 7, rfl, pen4, by omega, by decide, fun l5 ms H5 nl5 h5 lm bm pen5 bt5 => ?_⟩
    have z1 : PL.length = (1 + r1).toNat := n1.len
    have z2 : GL.length = (1 + r2).toNat := n2.len
    have z3 : HL.length = 3 := n3.len
    have z4 : EL.length = 7 := n4.len
    have t1 := tabg_but (tabg_but (tabg_but (tabg_but (tabg_same s1 tg1) pen1 bt2) pen2 bt3) pen3 bt4) pen4 bt5
    have t2 := tabg_but (tabg_but (tabg_but (tabg_but (tabg_same s1 tg2) pen1 bt2) pen2 bt3) pen3 bt4) pen4 bt5
    have i5 : LI p c T1 T2 l1 l2 l3 l4 l5 PL GL HL EL ms H5 152 := ⟨pen5, t1, t2, pen_strs pen4 bt5 h1, pen_strs pen4 bt5 h2, pen_strs pen4 bt5 h3, pen_strs pen4 bt5 h4, h5⟩
    clear t1 t2 pen5
    refine ⟨7, rfl, by decide, by decide, for_range (lo := 0) (n := 7) (fun j σ H' => ∃ y7 y8 y9 y10 y11 y12, σ = [some (.ref a), some (.ref p), some (.ref l1), some (.ref l2), some (.ref l3), some (.ref l4), some (.ref l5), y7, y8, y9, y10, y11, y12, none] ∧
        LI p c T1 T2 l1 l2 l3 l4 l5 PL GL HL EL ms H' (152 + 60 * j)) ⟨_, _, _, _, _, _, rfl, i5⟩ ?_ ?_⟩
    · rintro j σ H6 hj ⟨y7, y8, y9, y10, y11, y12, rfl, i6⟩
      obtain ⟨wd, hw, _, hw3⟩ := at_strs (ys := words7) (r := 0 + (j : Int)) (by omega) (by show 0 + (j : Int) < 7; omega)
      obtain ⟨nme, hn1, _, hn3⟩ := at_strs (ys := EL) (r := 0 + (j : Int)) (by omega) (by omega)
      obtain ⟨mo, hm1, hm2⟩ := at_ints (ns := ms) (r := 0 + (j : Int)) (by omega) (by omega)
      refine ⟨(by show 7 ≤ sizeLine; decide), fun l nl => ?_⟩
      have sl := @same_new _ _ (.lst (words7.map V.str)) nl
      have i7 := i6.same sl
      refine ⟨_, rfl, l, _, 0 + (j : Int), _, rfl, rfl, SqL.of upd_same, hw, ?_⟩
      refine ⟨_, rfl, _, rfl, _, rfl, _, rfl, l4, _, _, _, rfl, rfl, SqL.of i7.h4, hn1, _, rfl, _, rfl, l5, _, _, _, rfl, rfl, SqL.of i7.h5, hm1, _, rfl, _, rfl, _, rfl, p, c, _, wd, nme, mo, l1, l2, l3, PL, GL, HL, rfl, i7.pen, by omega, hw3, i7.h1, i7.h2, i7.h3,
        (fun z => by subst z; simp at z1; omega), (fun z => by subst z; simp at z2; omega), (fun z => by subst z; simp at z3), by omega, by omega, by omega, fun te e H8 nte hte en em ef pen8 bt8 => ?_⟩
      have i8 := i7.but pen8 bt8
      have fine := (fine_of ef (n1.nodup (by omega)) (n1.names (by omega)) (n2.names (by omega)) (n3.names (by omega)) (en ▸ n4.names (by omega) nme hn3) (em ▸ (bm mo hm2).1) (em ▸ (bm mo hm2).2)).1
      refine ⟨_, rfl, _, rfl, i8.t1, i8.t2, .inr ⟨te, e.vals, rfl, hte, (fine_thg (H := H8) fine).1, (fine_thg fine).2, fun _ H9 tb9 => ?_, fun n => absurd ⟨e, fine, rfl⟩ n⟩⟩
      have i9 := i8.tbl tb9
      have hte9 := tb9.keep i8.t1 i8.t2 hte (fun ps z => nomatch z)
      refine ⟨true, true, rfl, rfl, false, rfl, iteF ?_⟩
      refine ⟨3, rfl, by decide, by decide, for_range (lo := 0) (n := 3) (fun m σ H' => ∃ y10 y11 y12, σ = [some (.ref a), some (.ref p), some (.ref l1), some (.ref l2), some (.ref l3), some (.ref l4), some (.ref l5), some (.int (0 + (j : Int))), some (.str wd), some (.ref te), y10, y11, y12, none] ∧
        LI p c T1 T2 l1 l2 l3 l4 l5 PL GL HL EL ms H' (152 + 60 * j + 20 + 10 * m) ∧ H' te = some (.tup e.vals)) ⟨_, _, _, rfl, i9, hte9⟩ ?_ ?_⟩
      · rintro m σ H10 hm ⟨y10, y11, y12, rfl, i10, hte10⟩
        refine ⟨_, rfl, _, rfl, p, c, te, _, e, rfl, i10.pen, by omega, hte10, fine, fun th H11 pen11 bt11 ba => ?_⟩
        have i11 := i10.but pen11 bt11
        have hte11 := pen_keep i10.pen bt11 hte10
        obtain ⟨⟨d, sw⟩, _⟩ := id ba
        refine ⟨_, rfl, .ref th, d, rfl, sw, ?_⟩
        rcases ba.2 with ⟨xs, hx, lx, tx⟩ | ⟨xs, hx⟩
        · by_cases hE : IsE xs
          · skip
            refine ⟨_, rfl, _, rfl, i11.t1, i11.t2, .inr ⟨th, xs, rfl, hx, by omega, fun x mx => (tx x mx).1, fun _ H12 tb12 => ?_, fun n => absurd hE n⟩⟩
            have k12 : ∀ a o, H11 a = some o → (∀ ps, o ≠ .tbl ps) → H12 a = some o := fun a o e n => tb12.keep i11.t1 i11.t2 e n
            have i12 := i11.tbl tb12
            have hx12 := k12 _ _ hx (fun ps z => nomatch z)
            refine ⟨_, rfl, _, rfl, .inr ⟨th, xs, rfl, hx12, by omega, fun x mx => ⟨(tx x mx).1.on fun a o _ h n => k12 a o h n, (tx x mx).2⟩, fun b hb H13 s13 => ?_⟩⟩
            obtain rfl : b = true := hb.mpr hE
            have i13 := i12.same s13
            refine ⟨true, true, rfl, ?_⟩
            refine ⟨_, rfl, ?_⟩
            refine iteF ⟨_, rfl, .ref th, d, rfl, (sw.on k12).on fun a o h _ => s13 a o h, _, rfl, rfl, false, ?_, iteF ?_⟩
            · rw [decide_eq_true rfl]
              rfl
            · exact ⟨_, _, _, rfl, i13.mono (by omega), s13 _ _ (k12 _ _ hte11 fun ps z => nomatch z)⟩
          · skip
            refine ⟨_, rfl, _, rfl, i11.t1, i11.t2, .inr ⟨th, xs, rfl, hx, by omega, fun x mx => (tx x mx).1, fun y => absurd y hE, fun _ H12 tb12 => ?_⟩⟩
            have k12 : ∀ a o, H11 a = some o → (∀ ps, o ≠ .tbl ps) → H12 a = some o := fun a o e n => tb12.keep i11.t1 i11.t2 e n
            have i12 := i11.tbl tb12
            have hx12 := k12 _ _ hx (fun ps z => nomatch z)
            refine ⟨_, rfl, _, rfl, .inr ⟨th, xs, rfl, hx12, by omega, fun x mx => ⟨(tx x mx).1.on fun a o _ h n => k12 a o h n, (tx x mx).2⟩, fun b hb H13 s13 => ?_⟩⟩
            obtain rfl : b = false := Bool.eq_false_iff.mpr fun z => hE (hb.mp z)
            have i13 := i12.same s13
            refine ⟨false, false, rfl, ?_⟩
            refine ⟨_, rfl, ?_⟩
            refine iteF ⟨_, rfl, .ref th, d, rfl, (sw.on k12).on fun a o h _ => s13 a o h, _, rfl, rfl, false, ?_, iteF ?_⟩
            · rw [decide_eq_true rfl]
              rfl
            · exact ⟨_, _, _, rfl, i13.mono (by omega), s13 _ _ (k12 _ _ hte11 fun ps z => nomatch z)⟩
        · skip
          refine ⟨_, rfl, _, rfl, i11.t1, i11.t2, .inl ⟨.lst hx, (fun a' xs' e z => by rw [← V.ref.inj e, hx] at z; exact nomatch z), fun H12 tb12 => ?_⟩⟩
          have k12 : ∀ a o, H11 a = some o → (∀ ps, o ≠ .tbl ps) → H12 a = some o := fun a o e n => tb12.keep i11.t1 i11.t2 e n
          have i12 := i11.tbl tb12
          have hx12 := k12 _ _ hx (fun ps z => nomatch z)
          refine ⟨_, rfl, _, rfl, .inl ⟨.lst hx12, (fun a' xs' e z => by rw [← V.ref.inj e, hx12] at z; exact nomatch z), fun H13 s13 => ?_⟩⟩
          skip
          have i13 := i12.same s13
          refine ⟨false, false, rfl, ?_⟩
          refine ⟨_, rfl, ?_⟩
          refine iteF ⟨_, rfl, .ref th, d, rfl, (sw.on k12).on fun a o h _ => s13 a o h, _, rfl, rfl, false, ?_, iteF ?_⟩
          · rw [decide_eq_true rfl]
            rfl
          · exact ⟨_, _, _, rfl, i13.mono (by omega), s13 _ _ (k12 _ _ hte11 fun ps z => nomatch z)⟩
      · rintro σ H10 ⟨y10, y11, y12, rfl, i10, hte10⟩
        refine ⟨_, rfl, _, rfl, i10.t1, i10.t2, .inr ⟨te, e.vals, rfl, hte10, (fine_thg (H := H10) fine).1, (fine_thg fine).2, fun _ H11 tb11 => ?_, fun n => absurd ⟨e, fine, rfl⟩ n⟩⟩
        have i11 := i10.tbl tb11
        refine ⟨true, true, rfl, rfl, false, rfl, iteF ?_⟩
        exact ⟨_, _, _, _, _, _, rfl, i11.mono (by omega)⟩
    · rintro σ H6 ⟨y7, y8, y9, y10, y11, y12, rfl, i6⟩
      refine ⟨(by show 0 ≤ sizeLine; decide), fun u1 nu1 => ?_⟩
      have s1' := @same_new _ _ (.tup []) nu1
      have e1 := @upd_same H6 u1 (.tup [])
      generalize upd H6 u1 (.tup []) = G1 at s1' e1 ⊢
      refine ⟨(by show 0 ≤ sizeLine; decide), fun u2 nu2 => ?_⟩
      have s2 := @same_new _ _ (.lst []) nu2
      have e2 := @upd_same G1 u2 (.lst [])
      generalize upd G1 u2 (.lst []) = G2 at s2 e2 ⊢
      refine fun u3 nu3 => ?_
      have s3 := @same_new _ _ (.dK []) nu3
      have e3 := @upd_same G2 u3 (.dK [])
      generalize upd G2 u3 (.dK []) = G3 at s3 e3 ⊢
      refine ⟨(by show 0 ≤ sizeLine; decide), fun u4 nu4 => ?_⟩
      have s4 := @same_new _ _ (.tup []) nu4
      have e4 := @upd_same G3 u4 (.tup [])
      generalize upd G3 u4 (.tup []) = G4 at s4 e4 ⊢
      refine ⟨(by show 1 ≤ sizeLine; decide), fun u5 nu5 => ?_⟩
      have s5 := @same_new _ _ (.tup [V.ref u4]) nu5
      have e5 := @upd_same G4 u5 (.tup [V.ref u4])
      generalize upd G4 u5 (.tup [V.ref u4]) = G5 at s5 e5 ⊢
      refine ⟨(by show 1 ≤ sizeLine; decide), fun u6 nu6 => ?_⟩
      have s6 := @same_new _ _ (.tup [V.str "look"]) nu6
      have e6 := @upd_same G5 u6 (.tup [V.str "look"])
      generalize upd G5 u6 (.tup [V.str "look"]) = G6 at s6 e6 ⊢
      refine ⟨(by show 10 ≤ sizeLine; decide), fun L nL => ?_⟩
      have s7 := @same_new _ _ (.lst [V.non, .bl true, .int 7, .str "", .str "look a 0 b c", .ref u1, .ref u2, .ref u3, .ref u5, .ref u6]) nL
      have e7 := @upd_same G6 L (.lst [V.non, .bl true, .int 7, .str "", .str "look a 0 b c", .ref u1, .ref u2, .ref u3, .ref u5, .ref u6])
      generalize upd G6 L (.lst [V.non, .bl true, .int 7, .str "", .str "look a 0 b c", .ref u1, .ref u2, .ref u3, .ref u5, .ref u6]) = G7 at s7 e7 ⊢
      refine ⟨_, rfl, (by show 0 ≤ sizeLine; decide), fun w1 nw1 => ?_⟩
      have s8 := @same_new _ _ (.lst []) nw1
      have e8 := @upd_same G7 w1 (.lst [])
      generalize upd G7 w1 (.lst []) = G8 at s8 e8 ⊢
      refine ⟨(by show 5 ≤ sizeLine; decide), fun w2 nw2 => ?_⟩
      have s9 := @same_new _ _ (.tup [V.ref w1, .str "a", .int 0, .str "a", .str "a"]) nw2
      have e9 := @upd_same G8 w2 (.tup [V.ref w1, .str "a", .int 0, .str "a", .str "a"])
      generalize upd G8 w2 (.tup [V.ref w1, .str "a", .int 0, .str "a", .str "a"]) = G9 at s9 e9 ⊢
      refine fun w3 nw3 => ?_
      refine ⟨upd_same, [(Sum.inr "look", .int 1)], rfl, (by show 1 ≤ 15; decide), ?_⟩
      have s10 : Same G9 (upd (upd G9 w3 (.dK [])) w3 (.dK (mergeK [] [(Sum.inr "look", V.int 1)]))) := fun b o e => by
        have ne : b ≠ w3 := ne_of_none e nw3
        rw [upd_ne ne, upd_ne ne]
        exact e
      have e10 := @upd_same (upd G9 w3 (.dK [])) w3 (.dK (mergeK [] [(Sum.inr "look", V.int 1)]))
      generalize upd (upd G9 w3 (.dK [])) w3 (.dK (mergeK [] [(Sum.inr "look", V.int 1)])) = G10 at s10 e10 ⊢
      refine ⟨(by show 2 ≤ sizeLine; decide), fun L2 nL2 => ?_⟩
      have s11 := @same_new _ _ (.lst [V.ref w2, .ref w3]) nL2
      have e11 := @upd_same G10 L2 (.lst [V.ref w2, .ref w3])
      generalize upd G10 L2 (.lst [V.ref w2, .ref w3]) = G11 at s11 e11 ⊢
      have s8b := s8.trans (s9.trans (s10.trans s11))
      refine ⟨L, L2, _, _, rfl, rfl, s8b _ _ e7, e11, (by show 10 + 2 ≤ sizeLine; decide), fun L3 nL3 => ?_⟩
      have s12 := @same_new _ _ (.lst ([V.non, .bl true, .int 7, .str "", .str "look a 0 b c", .ref u1, .ref u2, .ref u3, .ref u5, .ref u6] ++ [V.ref w2, .ref w3])) nL3
      have e12 := @upd_same G11 L3 (.lst ([V.non, .bl true, .int 7, .str "", .str "look a 0 b c", .ref u1, .ref u2, .ref u3, .ref u5, .ref u6] ++ [V.ref w2, .ref w3]))
      generalize upd G11 L3 (.lst ([V.non, .bl true, .int 7, .str "", .str "look a 0 b c", .ref u1, .ref u2, .ref u3, .ref u5, .ref u6] ++ [V.ref w2, .ref w3])) = G12 at s12 e12 ⊢
      have s11b := s11.trans s12
      have s8c := s8.trans (s9.trans (s10.trans s11b))
      have s6b := s7.trans s8c
      have s1b := s1'.trans (s2.trans (s3.trans (s4.trans (s5.trans (s6.trans s6b)))))
      have i12 := i6.same s1b
      have f4 := s5.trans (s6.trans s6b)
      have g1 := s2.trans (s3.trans (s4.trans f4)) _ _ e1
      have g2 := s3.trans (s4.trans f4) _ _ e2
      have g3 := s4.trans f4 _ _ e3
      have g4 := f4 _ _ e4
      have g5 := s6.trans s6b _ _ e5
      have g6 := s6b _ _ e6
      have g8 := s9.trans (s10.trans s11b) _ _ e8
      have g9 := s10.trans s11b _ _ e9
      have g10 := s11b _ _ e10
      have all : ∀ x ∈ [V.non, .bl true, .int 7, .str "", .str "look a 0 b c", .ref u1, .ref u2, .ref u3, .ref u5, .ref u6] ++ [V.ref w2, .ref w3], NoEnt G12 x := by
        intro x hx
        simp only [List.cons_append, List.nil_append, List.mem_cons, List.not_mem_nil, or_false] at hx
        have short : ∀ {xs : List V}, IsE xs → xs.length < 5 → False := fun h l => absurd (isE_five h) (by omega)
        rcases hx with rfl | rfl | rfl | rfl | rfl | rfl | rfl | rfl | rfl | rfl | rfl | rfl
        · exact .inl ⟨fun a => nofun, .non⟩
        · exact .inl ⟨fun a => nofun, .bl _⟩
        · exact .inl ⟨fun a => nofun, .int _⟩
        · exact .inl ⟨fun a => nofun, .str _ (by decide +kernel)⟩
        · exact .inl ⟨fun a => nofun, .str _ (by decide +kernel)⟩
        · exact .inr (.inr (.inr ⟨u1, _, rfl, g1, by decide, (fun y hy => nomatch hy), fun h => short h (by decide)⟩))
        · exact .inr (.inl ⟨u2, _, rfl, g2⟩)
        · exact .inr (.inr (.inl ⟨u3, _, rfl, g3⟩))
        · refine .inr (.inr (.inr ⟨u5, _, rfl, g5, Nat.le_of_ble_eq_true rfl, fun y hy => ?_, fun h => short h (Nat.le_of_ble_eq_true rfl)⟩))
          rw [List.mem_singleton.mp hy]
          exact .tup g4
        · refine .inr (.inr (.inr ⟨u6, _, rfl, g6, Nat.le_of_ble_eq_true rfl, fun y hy => ?_, fun h => short h (Nat.le_of_ble_eq_true rfl)⟩))
          rw [List.mem_singleton.mp hy]
          exact .str _ (by decide +kernel)
        · refine .inr (.inr (.inr ⟨w2, _, rfl, g9, Nat.le_of_ble_eq_true rfl, fun y hy => ?_, fun h => ?_⟩))
          · simp only [List.mem_cons, List.not_mem_nil, or_false] at hy
            rcases hy with rfl | rfl | rfl | rfl | rfl
            · exact .lst g8
            · exact .str _ (by decide +kernel)
            · exact .int _
            · exact .str _ (by decide +kernel)
            · exact .str _ (by decide +kernel)
          · obtain ⟨f, e⟩ := isE_word h
            exact nomatch e
        · exact .inr (.inr (.inl ⟨w3, _, rfl, g10⟩))
      refine ⟨L3, rfl, ⟨_, SqL.of e12⟩, for_list (K := K) (a := L3) (xs := [V.non, .bl true, .int 7, .str "", .str "look a 0 b c", .ref u1, .ref u2, .ref u3, .ref u5, .ref u6] ++ [V.ref w2, .ref w3]) (fun i σ H' => ∃ y11, σ = [some (.ref a), some (.ref p), some (.ref l1), some (.ref l2), some (.ref l3), some (.ref l4), some (.ref l5), y7, y8, y9, y10, y11, y12, some (.ref L)] ∧ GxR.TabG H' T1 ∧ GxR.TabG H' T2 ∧ H' L3 = some (.lst ([V.non, .bl true, .int 7, .str "", .str "look a 0 b c", .ref u1, .ref u2, .ref u3, .ref u5, .ref u6] ++ [V.ref w2, .ref w3])) ∧ ∀ x ∈ [V.non, .bl true, .int 7, .str "", .str "look a 0 b c", .ref u1, .ref u2, .ref u3, .ref u5, .ref u6] ++ [V.ref w2, .ref w3], NoEnt H' x) ⟨_, rfl, i12.t1, i12.t2, e12, all⟩ (fun i σ H' _ h => ?_) ?_ ?_⟩
      · obtain ⟨_, _, _, _, h, _⟩ := h
        exact SqL.of h
      · rintro i x σ H7 hx ⟨z11, rfl, v1, v2, hL3, al⟩
        rcases (al x (List.mem_of_getElem? hx)).dis with ⟨th, nt⟩ | ⟨a', xs', rfl, hx', lx, tx, nx⟩
        · refine ⟨_, rfl, _, rfl, v1, v2, .inl ⟨th, nt, fun H8 tb => ?_⟩⟩
          have k8 : ∀ a o, H7 a = some o → (∀ ps, o ≠ .tbl ps) → H8 a = some o := fun a o e n => tb.keep v1 v2 e n
          refine ⟨false, false, rfl, rfl, false, rfl, iteF ?_⟩
          exact ⟨_, rfl, tb.2.1, tb.2.2, k8 _ _ hL3 (fun ps z => nomatch z), fun y hy => (al y hy).on k8⟩
        · refine ⟨_, rfl, _, rfl, v1, v2, .inr ⟨a', xs', rfl, hx', lx, tx, fun y => absurd y nx, fun _ H8 tb => ?_⟩⟩
          have k8 : ∀ a o, H7 a = some o → (∀ ps, o ≠ .tbl ps) → H8 a = some o := fun a o e n => tb.keep v1 v2 e n
          refine ⟨false, false, rfl, rfl, false, rfl, iteF ?_⟩
          exact ⟨_, rfl, tb.2.1, tb.2.2, k8 _ _ hL3 (fun ps z => nomatch z), fun y hy => (al y hy).on k8⟩
      · rintro σ H7 ⟨z11, rfl, v1, v2, hL3, al⟩
        exact q H7
end
theorem tab_is {K : PySem.W.Frag} {x : Str} {f c T : Addr} {oc occ : Value} {od odc : Option Addr} {sl slc : Array (Option Value)} {fd : FuncData} {vs : Array Value}
    (a : PySem.W.nsIn K mainGlobals x = some (some (.ref f))) (l : K.lookup f = some ⟨oc, od, .func fd, sl⟩) (hc : fd.code = .ref c) (lc : K.lookup c = some ⟨occ, odc, .fields vs, slc⟩) (hv : (vs[11]? : Option Value) = some (.ref T)) :
    PySem.W.tabIn K x = some (c, T) := by
  unfold PySem.W.tabIn
  simp only [a, l, hc, lc, hv]
set_option maxHeartbeats 4000000 in
theorem all_mk {l : PySem.W.OpenLaw} {q : Program} {loose : List Str} {XP : (Str → Option Value) → Heap → Prop} {w : World} {s0 : Shared} {K : PySem.W.Frag} {h : Heap} {mg mb : Str → Option Value} {fa f1 f2 f3 f4 f5 f6 f7 f8 f9 f10 f11 f12 f13 f15 f16 f17 f18 f19 f20 f21 c1 T1 c3 T3 aFo aBo aFo1 aFo2 aFo3 aFo4 aFo5 aFo6 aFo7 aBo1 aBo2 aBo3 aBo4 : Addr} {dr1 : PySem.DefRec} {dr3 : PySem.DefRec}
    (G : PySem.W.Ground q loose [] XP w s0 mg mb h) (X : K.In h) (hfa : mg "law" = some (.ref fa))
    {od1 an1 odc1 od2 an2 od3 an3 odc3 od4 an4 od5 an5 od6 an6 od7 an7 od8 an8 od9 an9 od10 an10 od11 an11 od12 an12 od13 an13 od15 an15 od16 an16 od17 an17 od18 an18 od19 an19 od20 an20 od21 an21 odFo1 odFo2 odFo3 odFo4 odFo5 odFo6 odFo7 odBo1 odBo2 odBo3 odBo4 : Option Addr} {sl1 slc1 sl2 sl3 slc3 sl4 sl5 sl6 sl7 sl8 sl9 sl10 sl11 sl12 sl13 sl15 sl16 sl17 sl18 sl19 sl20 sl21 slFo1 slFo2 slFo3 slFo4 slFo5 slFo6 slFo7 slBo1 slBo2 slBo3 slBo4 : Array (Option Value)} {oc1 kV1 dc1 pm1 ct1 occ1 oc2 kV2 dc2 pm2 ct2 cd2 oc3 kV3 dc3 pm3 ct3 occ3 oc4 kV4 dc4 pm4 ct4 cd4 oc5 kV5 dc5 pm5 ct5 cd5 oc6 kV6 dc6 pm6 ct6 cd6 oc7 kV7 dc7 pm7 ct7 cd7 oc8 kV8 dc8 pm8 ct8 cd8 oc9 kV9 dc9 pm9 ct9 cd9 oc10 kV10 dc10 pm10 ct10 cd10 oc11 kV11 dc11 pm11 ct11 cd11 oc12 kV12 dc12 pm12 ct12 cd12 oc13 kV13 dc13 pm13 ct13 cd13 oc15 kV15 dc15 pm15 ct15 cd15 oc16 kV16 dc16 pm16 ct16 cd16 oc17 kV17 dc17 pm17 ct17 cd17 oc18 kV18 dc18 pm18 ct18 cd18 oc19 kV19 dc19 pm19 ct19 cd19 oc20 kV20 dc20 pm20 ct20 cd20 oc21 kV21 dc21 pm21 ct21 cd21 : Value}
    {nFo nFo1 nFo2 nFo3 nFo4 nFo5 nFo6 nFo7 nBo nBo1 nBo2 nBo3 nBo4 : Nat}
    {itFo1 itFo2 itFo3 itFo4 itFo5 itFo6 itFo7 itBo1 itBo2 itBo3 itBo4 vsc1 vsc3 : Array Value}
    {esFo esBo : Array DictEntry}
    {tL tN : Tok}
    (a1 : PySem.W.nsIn K mainGlobals "is_name" = some (some (.ref f1)))
    (l1 : K.lookup f1 = some ⟨oc1, od1, .func (PySem.W.fnOf "is_name" "is_name" (defArgs sName) (defBody sName) (defScope sName) .none kV1 dc1 pm1 an1 (.ref c1) ct1), sl1⟩)
    (c_1 : PySem.W.codeIn K (.ref c1) "is_name" = true)
    (k1 : PySem.W.keepIn K (.ref f1) = true)
    (lc1 : K.lookup c1 = some ⟨occ1, odc1, .fields vsc1, slc1⟩)
    (hv1 : (vsc1[11]? : Option Value) = some (.ref T1))
    (nT1 : K.lookup T1 = none)
    (r1 : (PyProof.Rows.recsOf q).find? (fun e => e.name == ("is_name" : Str)) = some dr1)
    (a2 : PySem.W.nsIn K mainGlobals "is_whole" = some (some (.ref f2)))
    (l2 : K.lookup f2 = some ⟨oc2, od2, .func (PySem.W.fnOf "is_whole" "is_whole" (defArgs sWhole) (defBody sWhole) (defScope sWhole) .none kV2 dc2 pm2 an2 cd2 ct2), sl2⟩)
    (c_2 : PySem.W.codeIn K cd2 "is_whole" = true)
    (k2 : PySem.W.keepIn K (.ref f2) = true)
    (a3 : PySem.W.nsIn K mainGlobals "is_entry" = some (some (.ref f3)))
    (l3 : K.lookup f3 = some ⟨oc3, od3, .func (PySem.W.fnOf "is_entry" "is_entry" (defArgs sIsEntry) (defBody sIsEntry) (defScope sIsEntry) .none kV3 dc3 pm3 an3 (.ref c3) ct3), sl3⟩)
    (c_3 : PySem.W.codeIn K (.ref c3) "is_entry" = true)
    (k3 : PySem.W.keepIn K (.ref f3) = true)
    (lc3 : K.lookup c3 = some ⟨occ3, odc3, .fields vsc3, slc3⟩)
    (hv3 : (vsc3[11]? : Option Value) = some (.ref T3))
    (nT3 : K.lookup T3 = none)
    (r3 : (PyProof.Rows.recsOf q).find? (fun e => e.name == ("is_entry" : Str)) = some dr3)
    (a4 : PySem.W.nsIn K mainGlobals "fits" = some (some (.ref f4)))
    (l4 : K.lookup f4 = some ⟨oc4, od4, .func (PySem.W.fnOf "fits" "fits" (defArgs sFits) (defBody sFits) (defScope sFits) .none kV4 dc4 pm4 an4 cd4 ct4), sl4⟩)
    (c_4 : PySem.W.codeIn K cd4 "fits" = true)
    (k4 : PySem.W.keepIn K (.ref f4) = true)
    (a5 : PySem.W.nsIn K mainGlobals "places_of" = some (some (.ref f5)))
    (l5 : K.lookup f5 = some ⟨oc5, od5, .func (PySem.W.fnOf "places_of" "places_of" (defArgs sPlacesOf) (defBody sPlacesOf) (defScope sPlacesOf) .none kV5 dc5 pm5 an5 cd5 ct5), sl5⟩)
    (c_5 : PySem.W.codeIn K cd5 "places_of" = true)
    (k5 : PySem.W.keepIn K (.ref f5) = true)
    (a6 : PySem.W.nsIn K mainGlobals "_law_pen" = some (some (.ref f6)))
    (l6 : K.lookup f6 = some ⟨oc6, od6, .func (PySem.W.fnOf "_law_pen" "_law_pen" (defArgs sPen) (defBody sPen) (defScope sPen) .none kV6 dc6 pm6 an6 cd6 ct6), sl6⟩)
    (c_6 : PySem.W.codeIn K cd6 "_law_pen" = true)
    (k6 : PySem.W.keepIn K (.ref f6) = true)
    (a7 : PySem.W.nsIn K mainGlobals "_law_take" = some (some (.ref f7)))
    (l7 : K.lookup f7 = some ⟨oc7, od7, .func (PySem.W.fnOf "_law_take" "_law_take" (defArgs sTake) (defBody sTake) (defScope sTake) .none kV7 dc7 pm7 an7 cd7 ct7), sl7⟩)
    (c_7 : PySem.W.codeIn K cd7 "_law_take" = true)
    (k7 : PySem.W.keepIn K (.ref f7) = true)
    (a8 : PySem.W.nsIn K mainGlobals "_law_same" = some (some (.ref f8)))
    (l8 : K.lookup f8 = some ⟨oc8, od8, .func (PySem.W.fnOf "_law_same" "_law_same" (defArgs sSame) (defBody sSame) (defScope sSame) .none kV8 dc8 pm8 an8 cd8 ct8), sl8⟩)
    (c_8 : PySem.W.codeIn K cd8 "_law_same" = true)
    (k8 : PySem.W.keepIn K (.ref f8) = true)
    (a9 : PySem.W.nsIn K mainGlobals "_law_names" = some (some (.ref f9)))
    (l9 : K.lookup f9 = some ⟨oc9, od9, .func (PySem.W.fnOf "_law_names" "_law_names" (defArgs sNames) (defBody sNames) (defScope sNames) .none kV9 dc9 pm9 an9 cd9 ct9), sl9⟩)
    (c_9 : PySem.W.codeIn K cd9 "_law_names" = true)
    (k9 : PySem.W.keepIn K (.ref f9) = true)
    (a10 : PySem.W.nsIn K mainGlobals "_law_words" = some (some (.ref f10)))
    (l10 : K.lookup f10 = some ⟨oc10, od10, .func (PySem.W.fnOf "_law_words" "_law_words" (defArgs sWords) (defBody sWords) (defScope sWords) .none kV10 dc10 pm10 an10 cd10 ct10), sl10⟩)
    (c_10 : PySem.W.codeIn K cd10 "_law_words" = true)
    (k10 : PySem.W.keepIn K (.ref f10) = true)
    (a11 : PySem.W.nsIn K mainGlobals "_law_moments" = some (some (.ref f11)))
    (l11 : K.lookup f11 = some ⟨oc11, od11, .func (PySem.W.fnOf "_law_moments" "_law_moments" (defArgs sMoments) (defBody sMoments) (defScope sMoments) .none kV11 dc11 pm11 an11 cd11 ct11), sl11⟩)
    (c_11 : PySem.W.codeIn K cd11 "_law_moments" = true)
    (k11 : PySem.W.keepIn K (.ref f11) = true)
    (a12 : PySem.W.nsIn K mainGlobals "_law_many" = some (some (.ref f12)))
    (l12 : K.lookup f12 = some ⟨oc12, od12, .func (PySem.W.fnOf "_law_many" "_law_many" (defArgs sMany) (defBody sMany) (defScope sMany) .none kV12 dc12 pm12 an12 cd12 ct12), sl12⟩)
    (c_12 : PySem.W.codeIn K cd12 "_law_many" = true)
    (k12 : PySem.W.keepIn K (.ref f12) = true)
    (a13 : PySem.W.nsIn K mainGlobals "_law_entry_of" = some (some (.ref f13)))
    (l13 : K.lookup f13 = some ⟨oc13, od13, .func (PySem.W.fnOf "_law_entry_of" "_law_entry_of" (defArgs sEntryOf) (defBody sEntryOf) (defScope sEntryOf) .none kV13 dc13 pm13 an13 cd13 ct13), sl13⟩)
    (c_13 : PySem.W.codeIn K cd13 "_law_entry_of" = true)
    (k13 : PySem.W.keepIn K (.ref f13) = true)
    (a15 : PySem.W.nsIn K mainGlobals "_law_is_name" = some (some (.ref f15)))
    (l15 : K.lookup f15 = some ⟨oc15, od15, .func (PySem.W.fnOf "_law_is_name" "_law_is_name" (defArgs sOwn) (defBody sOwn) (defScope sOwn) .none kV15 dc15 pm15 an15 cd15 ct15), sl15⟩)
    (c_15 : PySem.W.codeIn K cd15 "_law_is_name" = true)
    (k15 : PySem.W.keepIn K (.ref f15) = true)
    (a16 : PySem.W.nsIn K mainGlobals "_law_whole" = some (some (.ref f16)))
    (l16 : K.lookup f16 = some ⟨oc16, od16, .func (PySem.W.fnOf "_law_whole" "_law_whole" (defArgs sLWhole) (defBody sLWhole) (defScope sLWhole) .none kV16 dc16 pm16 an16 cd16 ct16), sl16⟩)
    (c_16 : PySem.W.codeIn K cd16 "_law_whole" = true)
    (k16 : PySem.W.keepIn K (.ref f16) = true)
    (a17 : PySem.W.nsIn K mainGlobals "_law_ends" = some (some (.ref f17)))
    (l17 : K.lookup f17 = some ⟨oc17, od17, .func (PySem.W.fnOf "_law_ends" "_law_ends" (defArgs sEnds) (defBody sEnds) (defScope sEnds) .none kV17 dc17 pm17 an17 cd17 ct17), sl17⟩)
    (c_17 : PySem.W.codeIn K cd17 "_law_ends" = true)
    (k17 : PySem.W.keepIn K (.ref f17) = true)
    (a18 : PySem.W.nsIn K mainGlobals "_law_is_entry" = some (some (.ref f18)))
    (l18 : K.lookup f18 = some ⟨oc18, od18, .func (PySem.W.fnOf "_law_is_entry" "_law_is_entry" (defArgs sLIsEntry) (defBody sLIsEntry) (defScope sLIsEntry) .none kV18 dc18 pm18 an18 cd18 ct18), sl18⟩)
    (c_18 : PySem.W.codeIn K cd18 "_law_is_entry" = true)
    (k18 : PySem.W.keepIn K (.ref f18) = true)
    (a19 : PySem.W.nsIn K mainGlobals "_law_odd" = some (some (.ref f19)))
    (l19 : K.lookup f19 = some ⟨oc19, od19, .func (PySem.W.fnOf "_law_odd" "_law_odd" (defArgs sOdd) (defBody sOdd) (defScope sOdd) .none kV19 dc19 pm19 an19 cd19 ct19), sl19⟩)
    (c_19 : PySem.W.codeIn K cd19 "_law_odd" = true)
    (k19 : PySem.W.keepIn K (.ref f19) = true)
    (a20 : PySem.W.nsIn K mainGlobals "_law_bent" = some (some (.ref f20)))
    (l20 : K.lookup f20 = some ⟨oc20, od20, .func (PySem.W.fnOf "_law_bent" "_law_bent" (defArgs sBent) (defBody sBent) (defScope sBent) .none kV20 dc20 pm20 an20 cd20 ct20), sl20⟩)
    (c_20 : PySem.W.codeIn K cd20 "_law_bent" = true)
    (k20 : PySem.W.keepIn K (.ref f20) = true)
    (a21 : PySem.W.nsIn K mainGlobals "law" = some (some (.ref f21)))
    (l21 : K.lookup f21 = some ⟨oc21, od21, .func (PySem.W.fnOf "law" "law" (defArgs sLaw) (defBody sLaw) (defScope sLaw) .none kV21 dc21 pm21 an21 cd21 ct21), sl21⟩)
    (c_21 : PySem.W.codeIn K cd21 "law" = true)
    (k21 : PySem.W.keepIn K (.ref f21) = true)
    (ne13 : T1 ≠ T3)
    (AFo : PySem.W.nsIn K mainGlobals "FORMS" = some (some (.ref aFo)))
    (LFo : K.lookup aFo = some ⟨.type "dict", none, .dict esFo nFo, #[]⟩)
    (litFo : PySem.W.KeysLit w.params esFo.toList)
    (lowFo : (aFo == sysModules) = false)
    (gFo1 : PySem.W.nsIn K aFo "come" = some (some (.ref aFo1)))
    (LFo1 : K.lookup aFo1 = some ⟨.type "tuple", odFo1, .seq itFo1 nFo1, slFo1⟩)
    (zFo1 : itFo1.size ≤ sizeLine)
    (vFo1 : Vals ([.str "name", .str "moment", .str "name", .str "name", .str "many", .str "price"] : List V) itFo1.toList)
    (gFo2 : PySem.W.nsIn K aFo "go" = some (some (.ref aFo2)))
    (LFo2 : K.lookup aFo2 = some ⟨.type "tuple", odFo2, .seq itFo2 nFo2, slFo2⟩)
    (zFo2 : itFo2.size ≤ sizeLine)
    (vFo2 : Vals ([.str "name", .str "moment", .str "name", .str "name", .str "many"] : List V) itFo2.toList)
    (gFo3 : PySem.W.nsIn K aFo "move" = some (some (.ref aFo3)))
    (LFo3 : K.lookup aFo3 = some ⟨.type "tuple", odFo3, .seq itFo3 nFo3, slFo3⟩)
    (zFo3 : itFo3.size ≤ sizeLine)
    (vFo3 : Vals ([.str "name", .str "moment", .str "name", .str "name", .str "name", .str "many"] : List V) itFo3.toList)
    (gFo4 : PySem.W.nsIn K aFo "some" = some (some (.ref aFo4)))
    (LFo4 : K.lookup aFo4 = some ⟨.type "tuple", odFo4, .seq itFo4 nFo4, slFo4⟩)
    (zFo4 : itFo4.size ≤ sizeLine)
    (vFo4 : Vals ([.str "name", .str "moment", .str "name", .str "name", .str "end"] : List V) itFo4.toList)
    (gFo5 : PySem.W.nsIn K aFo "swap" = some (some (.ref aFo5)))
    (LFo5 : K.lookup aFo5 = some ⟨.type "tuple", odFo5, .seq itFo5 nFo5, slFo5⟩)
    (zFo5 : itFo5.size ≤ sizeLine)
    (vFo5 : Vals ([.str "name", .str "moment", .str "name", .str "name"] : List V) itFo5.toList)
    (gFo6 : PySem.W.nsIn K aFo "count" = some (some (.ref aFo6)))
    (LFo6 : K.lookup aFo6 = some ⟨.type "tuple", odFo6, .seq itFo6 nFo6, slFo6⟩)
    (zFo6 : itFo6.size ≤ sizeLine)
    (vFo6 : Vals ([.str "name", .str "moment", .str "name", .str "name", .str "counted", .str "name"] : List V) itFo6.toList)
    (gFo7 : PySem.W.nsIn K aFo "look" = some (some (.ref aFo7)))
    (LFo7 : K.lookup aFo7 = some ⟨.type "tuple", odFo7, .seq itFo7 nFo7, slFo7⟩)
    (zFo7 : itFo7.size ≤ sizeLine)
    (vFo7 : Vals ([.str "name", .str "moment", .str "name", .str "name"] : List V) itFo7.toList)
    (ABo : PySem.W.nsIn K mainGlobals "BOUNDS" = some (some (.ref aBo)))
    (LBo : K.lookup aBo = some ⟨.type "dict", none, .dict esBo nBo, #[]⟩)
    (litBo : PySem.W.KeysLit w.params esBo.toList)
    (lowBo : (aBo == sysModules) = false)
    (gBo1 : PySem.W.nsIn K aBo "moment" = some (some (.ref aBo1)))
    (LBo1 : K.lookup aBo1 = some ⟨.type "tuple", odBo1, .seq itBo1 nBo1, slBo1⟩)
    (zBo1 : itBo1.size ≤ sizeLine)
    (vBo1 : Vals ([.int 0, .int 9999] : List V) itBo1.toList)
    (gBo2 : PySem.W.nsIn K aBo "many" = some (some (.ref aBo2)))
    (LBo2 : K.lookup aBo2 = some ⟨.type "tuple", odBo2, .seq itBo2 nBo2, slBo2⟩)
    (zBo2 : itBo2.size ≤ sizeLine)
    (vBo2 : Vals ([.int 1, .int 1000000000] : List V) itBo2.toList)
    (gBo3 : PySem.W.nsIn K aBo "counted" = some (some (.ref aBo3)))
    (LBo3 : K.lookup aBo3 = some ⟨.type "tuple", odBo3, .seq itBo3 nBo3, slBo3⟩)
    (zBo3 : itBo3.size ≤ sizeLine)
    (vBo3 : Vals ([.int 0, .int 1000000000] : List V) itBo3.toList)
    (gBo4 : PySem.W.nsIn K aBo "price" = some (some (.ref aBo4)))
    (LBo4 : K.lookup aBo4 = some ⟨.type "tuple", odBo4, .seq itBo4 nBo4, slBo4⟩)
    (zBo4 : itBo4.size ≤ sizeLine)
    (vBo4 : Vals ([.int 0, .int 1000000000] : List V) itBo4.toList)
    (zL : PySem.W.nsIn K mainGlobals "LETTERS" = some (some (.str abc tL)))
    (zN : PySem.W.nsIn K mainGlobals "LONGEST_NAME" = some (some (.int 8 tN)))
    (xFo : (esFo.toList.all fun e => match e.key with | .str s _ => words7.any fun y => s == y | _ => false) = true)
    (y_abs : PySem.W.nsIn K mainGlobals "abs" = some none)
    (y_all : PySem.W.nsIn K mainGlobals "all" = some none)
    (y_bool : PySem.W.nsIn K mainGlobals "bool" = some none)
    (y_int : PySem.W.nsIn K mainGlobals "int" = some none)
    (y_isinstance : PySem.W.nsIn K mainGlobals "isinstance" = some none)
    (y_len : PySem.W.nsIn K mainGlobals "len" = some none)
    (y_list : PySem.W.nsIn K mainGlobals "list" = some none)
    (y_range : PySem.W.nsIn K mainGlobals "range" = some none)
    (y_repr : PySem.W.nsIn K mainGlobals "repr" = some none)
    (y_set : PySem.W.nsIn K mainGlobals "set" = some none)
    (y_str : PySem.W.nsIn K mainGlobals "str" = some none)
    (y_tuple : PySem.W.nsIn K mainGlobals "tuple" = some none)
    (y_zip : PySem.W.nsIn K mainGlobals "zip" = some none) :
    LawG l w K 5 63 "_law_script" mg fa h := by
  have Gg := G.T.g
  have e := hfa.symm.trans (PySem.W.mg_of X Gg a21)
  cases e
  have n_abs := PySem.W.mg_none_of X Gg y_abs
  have n_all := PySem.W.mg_none_of X Gg y_all
  have n_bool := PySem.W.mg_none_of X Gg y_bool
  have n_int := PySem.W.mg_none_of X Gg y_int
  have n_isinstance := PySem.W.mg_none_of X Gg y_isinstance
  have n_len := PySem.W.mg_none_of X Gg y_len
  have n_list := PySem.W.mg_none_of X Gg y_list
  have n_range := PySem.W.mg_none_of X Gg y_range
  have n_repr := PySem.W.mg_none_of X Gg y_repr
  have n_set := PySem.W.mg_none_of X Gg y_set
  have n_str := PySem.W.mg_none_of X Gg y_str
  have n_tuple := PySem.W.mg_none_of X Gg y_tuple
  have n_zip := PySem.W.mg_none_of X Gg y_zip
  have m_L := PySem.W.mg_of X Gg zL
  have m_N := PySem.W.mg_of X Gg zN
  have m_Fo := PySem.W.mg_of X Gg AFo
  have m_Bo := PySem.W.mg_of X Gg ABo
  have F1 := fun_mk (st := sName) l1 c_1 k1
  have b1 := F1.binds (ps := ["thing"]) fun _ _ _ _ _ _ us hl => match us, hl with | [_], _ => rfl
  have g1 := PySem.W.mg_of X Gg a1
  have F2 := fun_mk (st := sWhole) l2 c_2 k2
  have b2 := F2.binds (ps := ["thing"]) fun _ _ _ _ _ _ us hl => match us, hl with | [_], _ => rfl
  have g2 := PySem.W.mg_of X Gg a2
  have F3 := fun_mk (st := sIsEntry) l3 c_3 k3
  have b3 := F3.binds (ps := ["thing"]) fun _ _ _ _ _ _ us hl => match us, hl with | [_], _ => rfl
  have g3 := PySem.W.mg_of X Gg a3
  have F4 := fun_mk (st := sFits) l4 c_4 k4
  have b4 := F4.binds (ps := ["part", "sort"]) fun _ _ _ _ _ _ us hl => match us, hl with | [_, _], _ => rfl
  have g4 := PySem.W.mg_of X Gg a4
  have F5 := fun_mk (st := sPlacesOf) l5 c_5 k5
  have b5 := F5.binds (ps := ["entry"]) fun _ _ _ _ _ _ us hl => match us, hl with | [_], _ => rfl
  have g5 := PySem.W.mg_of X Gg a5
  have F6 := fun_mk (st := sPen) l6 c_6 k6
  have b6 := F6.binds (ps := ["_law_script"]) fun _ _ _ _ _ _ us hl => match us, hl with | [_], _ => rfl
  have g6 := PySem.W.mg_of X Gg a6
  have F7 := fun_mk (st := sTake) l7 c_7 k7
  have b7 := F7.binds (ps := ["_law_pen_here", "_law_many_here"]) fun _ _ _ _ _ _ us hl => match us, hl with | [_, _], _ => rfl
  have g7 := PySem.W.mg_of X Gg a7
  have F8 := fun_mk (st := sSame) l8 c_8 k8
  have b8 := F8.binds (ps := ["_law_found", "_law_due"]) fun _ _ _ _ _ _ us hl => match us, hl with | [_, _], _ => rfl
  have g8 := PySem.W.mg_of X Gg a8
  have F9 := fun_mk (st := sNames) l9 c_9 k9
  have b9 := F9.binds (ps := ["_law_pen_here", "_law_many_here"]) fun _ _ _ _ _ _ us hl => match us, hl with | [_, _], _ => rfl
  have g9 := PySem.W.mg_of X Gg a9
  have F10 := fun_mk (st := sWords) l10 c_10 k10
  have b10 := F10.binds (ps := ["_law_pen_here", "_law_places", "_law_goods", "_law_entries"]) fun _ _ _ _ _ _ us hl => match us, hl with | [_, _, _, _], _ => rfl
  have g10 := PySem.W.mg_of X Gg a10
  have F11 := fun_mk (st := sMoments) l11 c_11 k11
  have b11 := F11.binds (ps := ["_law_pen_here", "_law_many_here"]) fun _ _ _ _ _ _ us hl => match us, hl with | [_, _], _ => rfl
  have g11 := PySem.W.mg_of X Gg a11
  have F12 := fun_mk (st := sMany) l12 c_12 k12
  have b12 := F12.binds (ps := ["_law_pen_here"]) fun _ _ _ _ _ _ us hl => match us, hl with | [_], _ => rfl
  have g12 := PySem.W.mg_of X Gg a12
  have F13 := fun_mk (st := sEntryOf) l13 c_13 k13
  have b13 := F13.binds (ps := ["_law_pen_here", "_law_word", "_law_name", "_law_moment", "_law_places", "_law_goods", "_law_hands"]) fun _ _ _ _ _ _ us hl => match us, hl with | [_, _, _, _, _, _, _], _ => rfl
  have g13 := PySem.W.mg_of X Gg a13
  have F15 := fun_mk (st := sOwn) l15 c_15 k15
  have b15 := F15.binds (ps := ["_law_thing"]) fun _ _ _ _ _ _ us hl => match us, hl with | [_], _ => rfl
  have g15 := PySem.W.mg_of X Gg a15
  have F16 := fun_mk (st := sLWhole) l16 c_16 k16
  have b16 := F16.binds (ps := ["_law_thing", "_law_least", "_law_most"]) fun _ _ _ _ _ _ us hl => match us, hl with | [_, _, _], _ => rfl
  have g16 := PySem.W.mg_of X Gg a16
  have F17 := fun_mk (st := sEnds) l17 c_17 k17
  have b17 := F17.binds (ps := ["_law_thing"]) fun _ _ _ _ _ _ us hl => match us, hl with | [_], _ => rfl
  have g17 := PySem.W.mg_of X Gg a17
  have F18 := fun_mk (st := sLIsEntry) l18 c_18 k18
  have b18 := F18.binds (ps := ["_law_thing"]) fun _ _ _ _ _ _ us hl => match us, hl with | [_], _ => rfl
  have g18 := PySem.W.mg_of X Gg a18
  have F19 := fun_mk (st := sOdd) l19 c_19 k19
  have b19 := F19.binds (ps := ["_law_pen_here", "_law_part"]) fun _ _ _ _ _ _ us hl => match us, hl with | [_, _], _ => rfl
  have g19 := PySem.W.mg_of X Gg a19
  have F20 := fun_mk (st := sBent) l20 c_20 k20
  have b20 := F20.binds (ps := ["_law_pen_here", "_law_entry_here"]) fun _ _ _ _ _ _ us hl => match us, hl with | [_, _], _ => rfl
  have g20 := PySem.W.mg_of X Gg a20
  have F21 := fun_mk (st := sLaw) l21 c_21 k21
  have t1 := tab_is a1 l1 rfl lc1 hv1
  obtain ⟨hd1, tb1⟩ := PySem.W.tab_of G.T X r1 t1
  have t3 := tab_is a3 l3 rfl lc3 hv3
  obtain ⟨hd3, tb3⟩ := PySem.W.tab_of G.T X r3 t3
  have DF : KDict K w aFo esFo nFo := ⟨LFo, litFo, lowFo⟩
  have hF : ∀ e : Ent, ∃ aS, KDct K w aFo e.word (.ref aS) ∧ ∀ H, SqT K H aS (e.sorts.map V.str) := fun e => by
    cases e
    · exact ⟨_, ⟨esFo, nFo, _, LFo, litFo, gFo1, rfl⟩, fun H => .inr ⟨_, _, _, LFo1, rfl, rfl, zFo1, vFo1⟩⟩
    · exact ⟨_, ⟨esFo, nFo, _, LFo, litFo, gFo2, rfl⟩, fun H => .inr ⟨_, _, _, LFo2, rfl, rfl, zFo2, vFo2⟩⟩
    · exact ⟨_, ⟨esFo, nFo, _, LFo, litFo, gFo3, rfl⟩, fun H => .inr ⟨_, _, _, LFo3, rfl, rfl, zFo3, vFo3⟩⟩
    · exact ⟨_, ⟨esFo, nFo, _, LFo, litFo, gFo4, rfl⟩, fun H => .inr ⟨_, _, _, LFo4, rfl, rfl, zFo4, vFo4⟩⟩
    · exact ⟨_, ⟨esFo, nFo, _, LFo, litFo, gFo5, rfl⟩, fun H => .inr ⟨_, _, _, LFo5, rfl, rfl, zFo5, vFo5⟩⟩
    · exact ⟨_, ⟨esFo, nFo, _, LFo, litFo, gFo6, rfl⟩, fun H => .inr ⟨_, _, _, LFo6, rfl, rfl, zFo6, vFo6⟩⟩
    · exact ⟨_, ⟨esFo, nFo, _, LFo, litFo, gFo7, rfl⟩, fun H => .inr ⟨_, _, _, LFo7, rfl, rfl, zFo7, vFo7⟩⟩
  have hB : ∀ x ∈ sorts4, ∃ aT, KDct K w aBo x (.ref aT) ∧ ∀ H, SqT K H aT [.int (bnd x).1, .int (bnd x).2] := fun x hx => by
    simp only [sorts4, List.mem_cons, List.not_mem_nil, or_false] at hx
    rcases hx with rfl | rfl | rfl | rfl
    · exact ⟨_, ⟨esBo, nBo, _, LBo, litBo, gBo1, rfl⟩, fun H => .inr ⟨_, _, _, LBo1, rfl, rfl, zBo1, vBo1⟩⟩
    · exact ⟨_, ⟨esBo, nBo, _, LBo, litBo, gBo2, rfl⟩, fun H => .inr ⟨_, _, _, LBo2, rfl, rfl, zBo2, vBo2⟩⟩
    · exact ⟨_, ⟨esBo, nBo, _, LBo, litBo, gBo3, rfl⟩, fun H => .inr ⟨_, _, _, LBo3, rfl, rfl, zBo3, vBo3⟩⟩
    · exact ⟨_, ⟨esBo, nBo, _, LBo, litBo, gBo4, rfl⟩, fun H => .inr ⟨_, _, _, LBo4, rfl, rfl, zBo4, vBo4⟩⟩
  refine ⟨PySem.W.fnOf "law" "law" (defArgs sLaw) (defBody sLaw) (defScope sLaw) .none kV21 dc21 pm21 an21 cd21 ct21, [(c1, T1), (c3, T3)], spLaw K T1 T3, ⟨fun p hp => ?_, fun p hp => ?_, fun p hp => ?_⟩, fun s v => .of_eq rfl, fun H a ns hlen hT hS => ?_, fun base _ _ TB => ?_⟩
  · simp only [List.mem_cons, List.not_mem_nil, or_false] at hp
    rcases hp with rfl | rfl
    · exact tb1
    · exact tb3
  · simp only [List.mem_cons, List.not_mem_nil, or_false] at hp
    rcases hp with rfl | rfl
    · exact nT1
    · exact nT3
  · simp only [List.mem_cons, List.not_mem_nil, or_false] at hp
    rcases hp with rfl | rfl
    · exact hd1
    · exact hd3
  · exact ⟨a, ns, rfl, hS, ⟨#[], hT (c1, T1) (by simp), trivial⟩, ⟨#[], hT (c3, T3) (by simp), trivial⟩, fun _ => rfl⟩
  · have B1 := TB (c1, T1) (by simp)
    have B3 := TB (c3, T3) (by simp)
    have TT : TakeT l.prog w K mg base f7 _ := ⟨ok_take F7 n_len n_abs, g7, k7, b7⟩
    have NA : DefT l.prog w K mg base "_law_names" 2 f9 _ _ (spNames) := ⟨ok_names F9 TT n_len n_range, g9, k9, b9⟩
    have MY : DefT l.prog w K mg base "_law_many" 2 f12 _ _ (spMany) := ⟨ok_many F12 TT, g12, k12, b12⟩
    have EO : DefT l.prog w K mg base "_law_entry_of" 3 f13 _ _ (spEntryOf) := ⟨ok_entryOf F13 TT MY n_len, g13, k13, b13⟩
    have GP : DefT l.prog w K mg base "_law_pen" 1 f6 _ _ (spPen K) := ⟨ok_pen F6 n_list, g6, k6, b6⟩
    have WO : DefT l.prog w K mg base "_law_words" 3 f10 _ _ (spWords) := ⟨ok_words F10 TT NA, g10, k10, b10⟩
    have MO : DefT l.prog w K mg base "_law_moments" 2 f11 _ _ (spMoments) := ⟨ok_moments F11 TT n_len n_range n_int, g11, k11, b11⟩
    have NM : DefT l.prog w K mg base "is_name" 1 f1 _ _ (spName K T1) := ⟨ok_name l1 c_1 ⟨B1.code, B1.bm, B1.gP⟩ n_isinstance n_str n_len n_all ⟨_, m_L⟩ ⟨_, m_N⟩, g1, k1, b1⟩
    have WHA : DefT l.prog w K mg base "is_whole" 1 f2 _ _ (spWholeA) := ⟨ok_wholeA F2 n_isinstance n_int n_bool, g2, k2, b2⟩
    have FIA : DefT l.prog w K mg base "fits" 2 f4 _ _ (spFitsA T1) := ⟨ok_fitsA F4 NM WHA m_Bo hB, g4, k4, b4⟩
    have PO : DefT l.prog w K mg base "places_of" 1 f5 _ _ (spPlaces) := ⟨ok_placesOf F5, g5, k5, b5⟩
    have IEA : DefT l.prog w K mg base "is_entry" 4 f3 _ _ (spIsEntryA T1 T3) := ⟨ok_isEntryA l3 c_3 ⟨B3.code, B3.bm, B3.gP⟩ ne13 FIA PO n_isinstance n_tuple n_len n_str n_all n_zip n_set m_Fo DF hF (forms_only LFo xFo), g3, k3, b3⟩
    have SM : DefT l.prog w K mg base "_law_same" 1 f8 _ _ (spSame) := ⟨ok_same F8, g8, k8, b8⟩
    have OW : DefT l.prog w K mg base "_law_is_name" 1 f15 _ _ (spOwn3) := ⟨ok_own3 F15 n_isinstance n_str n_len, g15, k15, b15⟩
    have LW : DefT l.prog w K mg base "_law_whole" 1 f16 _ _ (spLWhole) := ⟨ok_lwhole F16 n_isinstance n_int n_bool, g16, k16, b16⟩
    have LN : DefT l.prog w K mg base "_law_ends" 2 f17 _ _ (spEnds) := ⟨ok_ends F17 OW n_isinstance n_str, g17, k17, b17⟩
    have LE : DefT l.prog w K mg base "_law_is_entry" 3 f18 _ _ (spLIsE) := ⟨ok_lisE F18 OW LW LN n_isinstance n_tuple n_len n_str, g18, k18, b18⟩
    have OD : DefT l.prog w K mg base "_law_odd" 2 f19 _ _ (spOdd) := ⟨ok_odd F19 TT n_str n_len, g19, k19, b19⟩
    have BN : DefT l.prog w K mg base "_law_bent" 3 f20 _ _ (spBent) := ⟨ok_bent F20 TT OD n_len n_list, g20, k20, b20⟩
    exact ok_law F21 GP TT WO MO EO IEA BN SM LE n_range n_repr
end Shelf
open PySem PySem.W PyProof.Rows
set_option maxHeartbeats 0 in
theorem PySem.Challenge.cw_shelfcounts_k03_what_is_no_entry_holds : PySem.Challenge.rw_shelfcounts_k03_what_is_no_entry.Holds := by
  w_on; o_law; k_head; (case hw => w_witness2)
  k_fill
  refine Shelf.end_G (l := PySem.Challenge.rw_shelfcounts_k03_what_is_no_entry) (n := 63) (k := 5) (x := "_law_script") rfl (by decide) rfl ⟨rfl, by decide, by decide⟩ (fun w h Y => PySem.W.kIn_of Y) ?F
  case F =>
    intro w s0 mg mb fa h G KX hmg
    refine' Shelf.all_mk G KX hmg ?a1 ?l1 ?c_1 ?k1 ?lc1 ?hv1 ?nT1 ?r1 ?a2 ?l2 ?c_2 ?k2 ?a3 ?l3 ?c_3 ?k3 ?lc3 ?hv3 ?nT3 ?r3 ?a4 ?l4 ?c_4 ?k4 ?a5 ?l5 ?c_5 ?k5 ?a6 ?l6 ?c_6 ?k6 ?a7 ?l7 ?c_7 ?k7 ?a8 ?l8 ?c_8 ?k8 ?a9 ?l9 ?c_9 ?k9 ?a10 ?l10 ?c_10 ?k10 ?a11 ?l11 ?c_11 ?k11 ?a12 ?l12 ?c_12 ?k12 ?a13 ?l13 ?c_13 ?k13 ?a15 ?l15 ?c_15 ?k15 ?a16 ?l16 ?c_16 ?k16 ?a17 ?l17 ?c_17 ?k17 ?a18 ?l18 ?c_18 ?k18 ?a19 ?l19 ?c_19 ?k19 ?a20 ?l20 ?c_20 ?k20 ?a21 ?l21 ?c_21 ?k21 ?ne13 ?AFo ?LFo ?litFo ?lowFo ?gFo1 ?LFo1 ?zFo1 ?vFo1 ?gFo2 ?LFo2 ?zFo2 ?vFo2 ?gFo3 ?LFo3 ?zFo3 ?vFo3 ?gFo4 ?LFo4 ?zFo4 ?vFo4 ?gFo5 ?LFo5 ?zFo5 ?vFo5 ?gFo6 ?LFo6 ?zFo6 ?vFo6 ?gFo7 ?LFo7 ?zFo7 ?vFo7 ?ABo ?LBo ?litBo ?lowBo ?gBo1 ?LBo1 ?zBo1 ?vBo1 ?gBo2 ?LBo2 ?zBo2 ?vBo2 ?gBo3 ?LBo3 ?zBo3 ?vBo3 ?gBo4 ?LBo4 ?zBo4 ?vBo4 ?zL ?zN ?xFo ?y_abs ?y_all ?y_bool ?y_int ?y_isinstance ?y_len ?y_list ?y_range ?y_repr ?y_set ?y_str ?y_tuple ?y_zip
    (case a1 => k_is); (case l1 => k_is); (case c_1 => k_is); (case k1 => k_is); (case lc1 => k_is); (case hv1 => rfl)
    (case nT1 => kernel_rfl); (case r1 => rfl); (case a2 => k_is); (case l2 => k_is); (case c_2 => k_is); (case k2 => k_is)
    (case a3 => k_is); (case l3 => k_is); (case c_3 => k_is); (case k3 => k_is); (case lc3 => k_is); (case hv3 => rfl)
    (case nT3 => kernel_rfl); (case r3 => rfl); (case a4 => k_is); (case l4 => k_is); (case c_4 => k_is); (case k4 => k_is)
    (case a5 => k_is); (case l5 => k_is); (case c_5 => k_is); (case k5 => k_is); (case a6 => k_is); (case l6 => k_is)
    (case c_6 => k_is); (case k6 => k_is); (case a7 => k_is); (case l7 => k_is); (case c_7 => k_is); (case k7 => k_is)
    (case a8 => k_is); (case l8 => k_is); (case c_8 => k_is); (case k8 => k_is); (case a9 => k_is); (case l9 => k_is)
    (case c_9 => k_is); (case k9 => k_is); (case a10 => k_is); (case l10 => k_is); (case c_10 => k_is); (case k10 => k_is)
    (case a11 => k_is); (case l11 => k_is); (case c_11 => k_is); (case k11 => k_is); (case a12 => k_is); (case l12 => k_is)
    (case c_12 => k_is); (case k12 => k_is); (case a13 => k_is); (case l13 => k_is); (case c_13 => k_is); (case k13 => k_is)
    (case a15 => k_is); (case l15 => k_is); (case c_15 => k_is); (case k15 => k_is); (case a16 => k_is); (case l16 => k_is)
    (case c_16 => k_is); (case k16 => k_is); (case a17 => k_is); (case l17 => k_is); (case c_17 => k_is); (case k17 => k_is)
    (case a18 => k_is); (case l18 => k_is); (case c_18 => k_is); (case k18 => k_is); (case a19 => k_is); (case l19 => k_is)
    (case c_19 => k_is); (case k19 => k_is); (case a20 => k_is); (case l20 => k_is); (case c_20 => k_is); (case k20 => k_is)
    (case a21 => k_is); (case l21 => k_is); (case c_21 => k_is); (case k21 => k_is); (case ne13 => decide); (case AFo => k_is)
    (case LFo => k_is); (case litFo => repeat' (first | exact True.intro | refine ⟨⟨_, _, rfl, rfl⟩, ?_⟩)); (case lowFo => rfl); (case gFo1 => k_is); (case LFo1 => k_is); (case zFo1 => decide)
    (case vFo1 => repeat' (first | exact .nil | refine .cons ⟨_, rfl⟩ ?_)); (case gFo2 => k_is); (case LFo2 => k_is); (case zFo2 => decide); (case vFo2 => repeat' (first | exact .nil | refine .cons ⟨_, rfl⟩ ?_)); (case gFo3 => k_is)
    (case LFo3 => k_is); (case zFo3 => decide); (case vFo3 => repeat' (first | exact .nil | refine .cons ⟨_, rfl⟩ ?_)); (case gFo4 => k_is); (case LFo4 => k_is); (case zFo4 => decide)
    (case vFo4 => repeat' (first | exact .nil | refine .cons ⟨_, rfl⟩ ?_)); (case gFo5 => k_is); (case LFo5 => k_is); (case zFo5 => decide); (case vFo5 => repeat' (first | exact .nil | refine .cons ⟨_, rfl⟩ ?_)); (case gFo6 => k_is)
    (case LFo6 => k_is); (case zFo6 => decide); (case vFo6 => repeat' (first | exact .nil | refine .cons ⟨_, rfl⟩ ?_)); (case gFo7 => k_is); (case LFo7 => k_is); (case zFo7 => decide)
    (case vFo7 => repeat' (first | exact .nil | refine .cons ⟨_, rfl⟩ ?_)); (case ABo => k_is); (case LBo => k_is); (case litBo => repeat' (first | exact True.intro | refine ⟨⟨_, _, rfl, rfl⟩, ?_⟩)); (case lowBo => rfl); (case gBo1 => k_is)
    (case LBo1 => k_is); (case zBo1 => decide); (case vBo1 => repeat' (first | exact .nil | refine .cons ⟨_, rfl⟩ ?_)); (case gBo2 => k_is); (case LBo2 => k_is); (case zBo2 => decide)
    (case vBo2 => repeat' (first | exact .nil | refine .cons ⟨_, rfl⟩ ?_)); (case gBo3 => k_is); (case LBo3 => k_is); (case zBo3 => decide); (case vBo3 => repeat' (first | exact .nil | refine .cons ⟨_, rfl⟩ ?_)); (case gBo4 => k_is)
    (case LBo4 => k_is); (case zBo4 => decide); (case vBo4 => repeat' (first | exact .nil | refine .cons ⟨_, rfl⟩ ?_)); (case zL => k_is); (case zN => k_is); (case xFo => rfl)
    (case y_abs => k_is); (case y_all => k_is); (case y_bool => k_is); (case y_int => k_is); (case y_isinstance => k_is); (case y_len => k_is)
    (case y_list => k_is); (case y_range => k_is); (case y_repr => k_is); (case y_set => k_is); (case y_str => k_is); (case y_tuple => k_is)
    (case y_zip => k_is)

import PyProof.Rows.All
import Wide.All
import OpenK.AllK
import Wide.FinOn
import HandS.ForMost
import HandS.AnyAll
import HandS.IsInst
import HandS.Style
import HandS.EndTab
import HandS.Codes
import HandS.GenOver
import HandS.Strs
import HandS.Zip
import HandS.Walk
import HandS.More
import KE.KEqSeq
import HandS.SortKw
import HandS.Keys
import HandS.ExcValue
import HandS.ExcIs
import HandS.ForExc
import HandS.Lambda
import HandS.TupAny
import HandS.DictComp
import KE.SortKeyHeap
import KE.KRevSl
import PyProof.DictUpdate
import PyProof.DictDisplay
import PyProof.DictValues
import HandS.SetTxt0
import HandS.Set
import KE.KDictList
import PyProof.MeetsDict
import PySem.Challenge.RW_shelfcounts_k07_entries_put_in_and_left
import HandS.Conv
set_option Elab.async false
set_option linter.all false
set_option maxRecDepth 100000
namespace Shelf
open PySem PySem.Spec PyProof.Rows L2
def topS (i : Nat) : Stmt := PySem.Challenge.pw_shelfcounts_k07_entries_put_in_and_left.main.body.getD i (.Pass ⟨0, 0, 0, 0⟩)
abbrev sName : Stmt := topS 3
abbrev sWhole : Stmt := topS 4
abbrev sIsEntry : Stmt := topS 9
abbrev sFits : Stmt := topS 10
abbrev sIsEntryOf : Stmt := topS 11
abbrev sGood : Stmt := topS 12
abbrev sPlacesOf : Stmt := topS 13
abbrev sOrd : Stmt := topS 14
abbrev sWithPlaces : Stmt := topS 15
abbrev sInOrder : Stmt := topS 37
abbrev sCalled : Stmt := topS 38
abbrev sWithE : Stmt := topS 39
abbrev sWithoutE : Stmt := topS 40
abbrev sTurned : Stmt := topS 41
abbrev sPen : Stmt := topS 43
abbrev sTake : Stmt := topS 44
abbrev sNames : Stmt := topS 45
abbrev sWords : Stmt := topS 46
abbrev sMoments : Stmt := topS 47
abbrev sMany : Stmt := topS 48
abbrev sEntryOf : Stmt := topS 49
abbrev sEntry : Stmt := topS 50
abbrev sOwn : Stmt := topS 51
abbrev sClass : Stmt := topS 52
abbrev sLTold : Stmt := topS 53
abbrev sSorted : Stmt := topS 54
abbrev sTwin : Stmt := topS 55
abbrev sPutIn : Stmt := topS 56
abbrev sPutR : Stmt := topS 57
abbrev sLeftR : Stmt := topS 58
abbrev sNoName : Stmt := topS 59
abbrev sLaw : Stmt := topS 60
/-! ### the pen: what a script is drawn from -/
theorem same_new {H : Hp} {p : Addr} {o : HO} (h : H p = none) : Same H (upd H p o) := fun b x e => (upd_ne (ne_of_none e h)).trans e
/-- all but the object at p is as it was -/
def But (p : Addr) (H H' : Hp) : Prop := ∀ b o, H b = some o → b ≠ p → H' b = some o
theorem But.refl (p : Addr) (H : Hp) : But p H H := fun _ _ e _ => e
theorem But.of {p : Addr} {H H' : Hp} (h : Same H H') : But p H H' := fun b o e _ => h b o e
theorem But.tr {p : Addr} {H H1 H2 : Hp} (a : But p H H1) (b : But p H1 H2) : But p H H2 := fun c o e n => b c o (a c o e n) n
theorem But.to {p : Addr} {H H1 : Hp} (a : But p H H1) {l : Addr} {o : HO} (h : H l = none) (n : H p ≠ none) : But p H (upd H1 l o) := fun c u e nc => (upd_ne (ne_of_none e h)).trans (a c u e nc)
theorem dget_s {H : Hp} {p : Addr} {kvs : List (Key × V)} {x : Str} {v : V} (h : H p = some (.dK kvs)) (e : valV kvs (Sum.inr x) = some v) : DGet H p (.str x) (some v) := .inl ⟨kvs, Sum.inr x, .inl h, rfl, e.symm⟩
theorem dput_s {H : Hp} {p : Addr} {kvs : List (Key × V)} {x : Str} {v : V} (h : H p = some (.dK kvs)) (hl : kvs.length < sizeLine) : DPut H p (.str x) v (upd H p (.dK (putK kvs (Sum.inr x) v))) := .inl ⟨kvs, Sum.inr x, h, rfl, hl, rfl⟩
theorem put_len {kvs : List (Key × V)} {k : Key} {v u : V} (e : valV kvs k = some u) : (putK kvs k v).length = kvs.length := by
  have h := valV_any k kvs
  rw [e] at h
  have h' : (kvs.any fun kv => decide (kv.1 = k)) = true := h
  unfold putK
  rw [if_pos h', List.length_map]
abbrev kCells : Key := Sum.inr "cells"
abbrev kAt : Key := Sum.inr "at"
abbrev kLeft : Key := Sum.inr "left"
theorem nCA : ¬ kCells = kAt := by decide +kernel
theorem nCL : ¬ kCells = kLeft := by decide +kernel
theorem nAL : ¬ kAt = kLeft := by decide +kernel
theorem nLA : ¬ kLeft = kAt := by decide +kernel
/-- a pen stands at p, its cells at c; at most n have been drawn -/
structure PenAt (H : Hp) (p c : Addr) (n : Nat) : Prop where
  ex : ∃ (kvs : List (Key × V)) (ns : List Int) (a l : Int), H p = some (.dK kvs) ∧ kvs.length ≤ 3 ∧ valV kvs kCells = some (.ref c) ∧ valV kvs kAt = some (.int a) ∧ valV kvs kLeft = some (.int l) ∧ H c = some (.lst (ns.map V.int)) ∧ 0 ≤ a ∧ a ≤ n ∧ 0 ≤ l
theorem PenAt.same {H H' : Hp} {p c : Addr} {n : Nat} (P : PenAt H p c n) (h : Same H H') : PenAt H' p c n := by
  obtain ⟨kvs, ns, a, l, h1, h2, h3, h4, h5, h6, h7⟩ := P.ex
  exact ⟨kvs, ns, a, l, h _ _ h1, h2, h3, h4, h5, h _ _ h6, h7⟩
theorem PenAt.there {H : Hp} {p c : Addr} {n : Nat} (P : PenAt H p c n) : H p ≠ none := by
  obtain ⟨kvs, ns, a, l, h1, _⟩ := P.ex
  rw [h1]
  exact fun z => nomatch z
theorem PenAt.cells {H : Hp} {p c : Addr} {n : Nat} (P : PenAt H p c n) : H c ≠ none := by
  obtain ⟨kvs, ns, a, l, _, _, _, _, _, h1, _⟩ := P.ex
  rw [h1]
  exact fun z => nomatch z
theorem PenAt.upd {H : Hp} {p c l : Addr} {n : Nat} {o : HO} (P : PenAt H p c n) (h1 : l ≠ p) (h2 : l ≠ c) : PenAt (L2.upd H l o) p c n := by
  obtain ⟨kvs, ns, a, x, g1, g2, g3, g4, g5, g6, g7⟩ := P.ex
  exact ⟨kvs, ns, a, x, (upd_ne h1.symm).trans g1, g2, g3, g4, g5, (upd_ne h2.symm).trans g6, g7⟩
theorem PenAt.mono {H : Hp} {p c : Addr} {n m : Nat} (P : PenAt H p c n) (h : n ≤ m) : PenAt H p c m := by
  obtain ⟨kvs, ns, a, l, g1, g2, g3, g4, g5, g6, g7, g8, g9⟩ := P.ex
  exact ⟨kvs, ns, a, l, g1, g2, g3, g4, g5, g6, g7, by omega, g9⟩
theorem dp_ints {K : PySem.W.Frag} {H : Hp} : ∀ ns : List Int, DpAll K H (ns.map V.int) (ns.map PyData.int)
  | [] => .nil
  | n :: r => .cons (.int n) (dp_ints r)
/-- what a draw promises: a number below many, the pen drawn once more, nothing else touched -/
def spTake : Sp := fun vs H Q _ => ∃ (p c : Addr) (n : Nat) (m : Int), vs = [.ref p, .int m] ∧ PenAt H p c n ∧ n ≤ 100000 ∧ 1 ≤ m ∧ m ≤ 1000000000 ∧
  ∀ (r : Int) (H' : Hp), 0 ≤ r → r < m → PenAt H' p c (n + 1) → But p H H' → Q (.int r) H'
def spPen (K : PySem.W.Frag) : Sp := fun vs H Q _ => ∃ (a : Addr) (ns : List Int), vs = [.ref a] ∧ SqL K H a (ns.map V.int) ∧
  ∀ (p c : Addr) (H' : Hp), H p = none → H c = none → PenAt H' p c 0 → Same H H' → Q (.ref p) H'
theorem mem_cut {α : Type} {xs : List α} {lo hi : Nat} : ∀ x ∈ (xs.drop lo).take hi, x ∈ xs := fun x h => List.mem_of_mem_drop (List.mem_of_mem_take h)
theorem cut_ints (ns : List Int) (lo hi : Option Int) : ∃ ms : List Int, cutV (ns.map V.int) lo hi = ms.map V.int := by
  unfold cutV
  rw [← List.map_drop, ← List.map_take]
  exact ⟨_, rfl⟩
section
variable {P : Program} {w : World} {K : PySem.W.Frag} {mg : Str → Option Value} {base : Heap}
theorem scPen : FnScope ["_law_script"] ["_law_script"] (defScope sPen) := ⟨rfl, rfl, rfl, by decide +kernel, rfl, by decide +kernel, by decide +kernel⟩
theorem scTake : FnScope ["_law_pen_here", "_law_many_here", "_law_found", "_law_at", "_law_cells", "_law_cell", "_law_one", "_law_two"] ["_law_pen_here", "_law_many_here"] (defScope sTake) := ⟨rfl, rfl, rfl, by decide +kernel, rfl, by decide +kernel, by decide +kernel⟩
theorem ok_pen {f : Addr} {fd : FuncData} (F : Fun K "_law_pen" "_law_pen" sPen f fd) (ml : mg "list" = none) : FnOk P w K mg base CX0 1 f fd ["_law_script"] (spPen K) := by
  refine F.ok scPen (fun vs H Q E h => ?_) (fun cdv A outer s H vs Q E hr h => ?_)
  · obtain ⟨a, ns, rfl, _⟩ := h
    rfl
  · obtain ⟨a, ns, rfl, hS, q⟩ := h
    refine ⟨_, pss_one (ps_ret (pe_disp (pps_cons pe_str (pe_callTy call_list_of (by rfl) ml (by decide +kernel) (pa_cons (pe_slice sl_list (pv 0) po_none (po_some pe_int)) pa_nil))
      (pps_cons pe_str pe_int (pps_cons pe_str pe_int pps_nil))) (by rfl) (by rfl) (fun z => by cases z) (by decide))), ?_⟩
    refine fun p np => ?_
    have s1 : Same H (upd H p (.dK [])) := same_new np
    refine ⟨.ref a, rfl, 63, rfl, a, ns.map V.int, rfl, s1.seq hS, fun t nt => ?_⟩
    obtain ⟨ms, em⟩ := cut_ints ns none (some 63)
    have s2 : Same (upd H p (.dK [])) (upd (upd H p (.dK [])) t (.lst (cutV (ns.map V.int) none (some 63)))) := same_new nt
    refine ⟨t, _, rfl, .inl (SqL.of upd_same), fun c nc => ?_⟩
    have s3 := @same_new _ _ (.lst (cutV (ns.map V.int) none (some 63))) nc
    have hp := s3 _ _ (s2 _ _ upd_same)
    refine ⟨hp, [(kCells, .ref c), (kAt, .int 0), (kLeft, .int 0)], rfl, (by show 3 ≤ 15; decide), ?_⟩
    have s4 := s1.trans (s2.trans s3)
    have npc : p ≠ c := ne_of_none (s2 _ _ upd_same) nc
    refine q p c _ np (s1.free (s2.free nc)) ⟨_, ms, 0, 0, upd_same, (by exact Nat.le_refl 3), ?_, ?_, ?_, ?_, Int.le_refl _, Int.le_refl _, Int.le_refl _⟩ fun b o e => (upd_ne (ne_of_none e np)).trans (s4 b o e)
    · rfl
    · rfl
    · rfl
    · rw [upd_ne npc.symm, upd_same, em]
theorem ok_take {f : Addr} {fd : FuncData} (F : Fun K "_law_take" "_law_take" sTake f fd) (mlen : mg "len" = none) (mabs : mg "abs" = none) : FnOk P w K mg base CX0 1 f fd ["_law_pen_here", "_law_many_here"] spTake := by
  refine F.ok scTake (fun vs H Q E h => ?_) (fun cdv A outer s H vs Q E hr h => ?_)
  · obtain ⟨p, c, n, m, rfl, _⟩ := h
    rfl
  · obtain ⟨p, c, n, m, rfl, pen, hn, m1, m2, q⟩ := h
    have hu := hu_of hr
    have nd := scTake.nd
    refine ⟨_, pss_cons (ps_if (pt_cmpR op_gt (pe_dget hu (pv 0) pe_str (fun _ _ => rfl)) pe_int (nomark _))
        (pss_cons (ps_set (i := 2) nd rfl (Or.inl rfl) (pe_op op_mod (pe_dget hu (pv 0) pe_str (fun _ _ => rfl)) (pv 1)))
        (pss_cons (ps_dput hu (pv 0) pe_str (pe_op op_fdiv (pe_dget hu (pv 0) pe_str (fun _ _ => rfl)) (pv 1)) rfl)
        (pss_one (ps_ret (pv 2))))) pss_nil)
      (pss_cons (ps_set (i := 3) nd rfl (Or.inl rfl) (pe_dget hu (pv 0) pe_str (fun _ _ => rfl)))
      (pss_cons (ps_dput hu (pv 0) pe_str (pe_op op_add (pv 3) pe_int) rfl)
      (pss_cons (ps_set (i := 4) nd rfl (Or.inl rfl) (pe_dget hu (pv 0) pe_str (fun _ _ => rfl)))
      (pss_cons (ps_set (i := 5) nd rfl (Or.inl rfl) (pe_op op_add (pe_op op_add (pe_op op_mul (pe_op op_mul pe_int (pv 3)) (pv 3)) (pe_op op_mul pe_int (pv 3))) pe_int))
      (C8.pss_cut (ps_if (pt_cmpR (op_neD hr.units) (pv 4) (pe_lst pa_nil) (nomark _))
        (pss_one (ps_set (i := 5) nd rfl (Or.inl rfl) (pe_ix ix_list (pv 4) (pe_op op_mod (pv 3) (pe_callB call_len_seq (by rfl) mlen PySem.boot_len (pa_cons (pv 4) pa_nil))) (fun _ _ => rfl)))) pss_nil)
      (C8.pss_cut (ps_if (PW.pt (pw_and (pt_cmpR op_lt (pv 3) (pe_callB call_len_seq (by rfl) mlen PySem.boot_len (pa_cons (pv 4) pa_nil)) (nomark _))
          (pw_and1 (pt_cmpR op_ge (pe_callB call_abs (by rfl) mabs (by decide +kernel) (pa_cons (pv 5) pa_nil)) (pe_op op_pow pe_int pe_int) (nomark _)))))
        (pss_cons (ps_dput hu (pv 0) pe_str (pe_op op_fdiv (pe_callB call_abs (by rfl) mabs (by decide +kernel) (pa_cons (pv 5) pa_nil)) (pv 1)) rfl)
        (pss_one (ps_ret (pe_op op_mod (pe_callB call_abs (by rfl) mabs (by decide +kernel) (pa_cons (pv 5) pa_nil)) (pv 1))))) pss_nil)
      (pss_cons (ps_set (i := 6) nd rfl (Or.inl rfl) (pe_op op_mod (pe_op op_pow (pe_op op_add (pe_op op_add (pe_op op_mod (pv 5) pe_int) (pe_op op_mul pe_int (pv 3))) pe_int) pe_int) pe_int))
      (pss_cons (ps_set (i := 7) nd rfl (Or.inl rfl) (pe_op op_mod (pe_op op_pow (pe_op op_add (pe_op op_add (pv 6) (pe_op op_mul (pe_op op_mul pe_int (pv 3)) (pv 3))) pe_int) pe_int) pe_int))
      (pss_one (ps_ret (pe_op op_mod (pe_op op_fdiv (pe_op op_mod (pe_op op_mul (pv 7) (pe_op op_add (pe_op op_mod (pv 6) pe_int) pe_int)) pe_int) pe_int) (pv 1)))))))))))), ?_⟩
    obtain ⟨kvs, ns, a, l, g1, g2, g3, g4, g5, g6, g7, g8, g9⟩ := pen.ex
    have hsz : kvs.length < sizeLine := small1000 (by omega)
    have npc : p ≠ c := ne_of g1 g6 (by intro z; cases z)
    -- the left
    refine ⟨_, rfl, p, _, rfl, dget_s g1 g5, l, 0, rfl, rfl, _, rfl, ite2 (fun e => ?_) (fun e => ?_)⟩
    · have e' : 0 < l := of_decide_eq_true e
      refine ⟨_, rfl, p, _, rfl, dget_s g1 g5, _, rfl, l, m, rfl, rfl, (by show (0 : Int) < m; omega), ?_⟩
      refine ⟨_, rfl, p, _, rfl, dget_s g1 g5, _, rfl, l, m, rfl, rfl, ⟨by omega, by omega⟩, _, rfl, p, _, rfl, dput_s g1 hsz, _, rfl, ?_⟩
      refine q _ _ (Int.emod_nonneg _ (by omega)) (Int.emod_lt_of_pos _ (by omega)) ⟨_, ns, a, l / m, upd_same, (by rw [put_len g5]; exact g2), ?_, ?_, ?_, ?_, g7, by omega, Int.ediv_nonneg (by omega) (by omega)⟩ fun b o z nb => (upd_ne nb).trans z
      · rw [valV_put, if_neg nCL]; exact g3
      · rw [valV_put, if_neg nAL]; exact g4
      · rw [valV_put, if_pos rfl]
      · rw [upd_ne npc.symm]; exact g6
    · -- a new cell
      refine ⟨_, rfl, p, _, rfl, dget_s g1 g4, ?_⟩
      refine ⟨_, rfl, a, 1, rfl, rfl, _, rfl, p, _, rfl, dput_s g1 hsz, ?_⟩
      have k1 : (upd H p (.dK (putK kvs kAt (.int (a + 1))))) p = some (.dK (putK kvs kAt (.int (a + 1)))) := upd_same
      have v3 : valV (putK kvs kAt (.int (a + 1))) kCells = some (.ref c) := by rw [valV_put, if_neg nCA]; exact g3
      have v4 : valV (putK kvs kAt (.int (a + 1))) kAt = some (.int (a + 1)) := by rw [valV_put, if_pos rfl]
      have v5 : valV (putK kvs kAt (.int (a + 1))) kLeft = some (.int l) := by rw [valV_put, if_neg nLA]; exact g5
      have k2 : (putK kvs kAt (.int (a + 1))).length ≤ 3 := by rw [put_len g4]; exact g2
      have k6 : (upd H p (.dK (putK kvs kAt (.int (a + 1))))) c = some (.lst (ns.map V.int)) := by rw [upd_ne npc.symm]; exact g6
      generalize putK kvs kAt (.int (a + 1)) = kw at k1 k2 k6 v3 v4 v5
      refine ⟨_, rfl, p, _, rfl, dget_s k1 v3, ?_⟩
      refine ⟨_, rfl, 70207, a, rfl, rfl, .inl ⟨by decide, by decide⟩, _, rfl, _, a, rfl, rfl, .inr ⟨by omega, by omega⟩, _, rfl, 131, a, rfl, rfl, .inl ⟨by decide, by decide⟩, _, _, rfl, rfl, _, 29, rfl, rfl, ?_⟩
      refine ⟨fun σ' H' => ∃ x : Int, σ' = [some (.ref p), some (.int m), none, some (.int a), some (.ref c), some (.int x), none, none] ∧ Same (upd H p (.dK kw)) H', ?_, ?_⟩
      · refine ⟨_, rfl, Nat.zero_le _, fun t nt => ?_⟩
        have s1 := @same_new _ _ (.lst []) nt
        refine ⟨.list (ns.map PyData.int), .list [], .lst (SqL.of (s1 _ _ k6)) (dp_ints ns), .lst (SqL.of upd_same) .nil, PySem.W.ke_shaped_ints ns, PySem.W.ke_shaped_ints [], _, rfl, ?_⟩
        cases e2 : (!PyData.eqv (.list (ns.map PyData.int)) (.list [])) with
        | false => exact iteF ⟨_, rfl, s1⟩
        | true =>
          refine iteT ?_
          have hne : ns ≠ [] := fun z => by
            subst z
            rw [show PyData.eqv (.list (([] : List Int).map PyData.int)) (.list []) = true from rfl] at e2
            cases e2
          have hlen : 0 < ns.length := List.length_pos_iff.mpr hne
          have hlt : (a % (ns.length : Int)).toNat < ns.length := by
            have h1 := Int.emod_nonneg a (show (ns.length : Int) ≠ 0 by omega)
            have h2 := Int.emod_lt_of_pos a (show (0 : Int) < ns.length by omega)
            omega
          refine ⟨_, rfl, _, rfl, _, rfl, c, _, rfl, .inl (SqL.of (s1 _ _ k6)), a, _, rfl, rfl, ?_, c, _, _, .int ns[(a % (ns.length : Int)).toNat], rfl, rfl, SqL.of (s1 _ _ k6), ?_, _, rfl, s1⟩
          · show (0 : Int) < ((ns.map V.int).length : Int)
            rw [List.length_map]; omega
          · rw [List.length_map]
            refine at_of (j := (a % (ns.length : Int)).toNat) (Int.toNat_of_nonneg (Int.emod_nonneg a (show (ns.length : Int) ≠ 0 by omega))).symm ?_
            rw [List.getElem?_map, List.getElem?_eq_getElem hlt]
            rfl
      · rintro σ' H2 ⟨x, rfl, s1⟩
        have j1 := s1 _ _ k1
        have j6 := s1 _ _ k6
        have bt : But p H H2 := fun b o z nb => s1 _ _ ((upd_ne nb).trans z)
        have absn : (0 : Int) ≤ if x < 0 then -x else x := by split <;> omega
        have fin : ∀ r : Int, 0 ≤ r → r < m → Q (.int r) H2 := fun r r1 r2 => q r H2 r1 r2 ⟨kw, ns, a + 1, l, j1, k2, v3, v4, v5, j6, by omega, by omega, g9⟩ bt
        have a2 : 0 ≤ 1213 * a * a ∧ 1213 * a * a ≤ 121300000 * 100000 := ⟨Int.mul_nonneg (by omega) g7, Int.mul_le_mul (by omega) (by omega) g7 (by decide)⟩
        refine ⟨fun σ' H' => σ' = [some (.ref p), some (.int m), none, some (.int a), some (.ref c), some (.int x), none, none] ∧ H' = H2, ?_, ?_⟩
        · refine ⟨_, rfl, _, rfl, c, _, rfl, .inl (SqL.of j6), a, _, rfl, rfl, _, rfl, ?_⟩
          refine ite2 (fun _ => ?_) (fun _ => ?_)
          · refine ⟨_, rfl, x, rfl, 10, 18, rfl, rfl, ⟨by decide, by decide, by decide⟩, _, _, rfl, rfl, _, rfl, ite2 (fun _ => ?_) (fun _ => ⟨rfl, rfl⟩)⟩
            refine ⟨_, rfl, x, rfl, _, rfl, _, m, rfl, rfl, ⟨by omega, by omega⟩, _, rfl, p, _, rfl, dput_s j1 (small1000 (by omega)), ?_⟩
            refine ⟨_, rfl, x, rfl, _, rfl, _, m, rfl, rfl, (by show (0 : Int) < m; omega), ?_⟩
            refine q _ _ (Int.emod_nonneg _ (by omega)) (Int.emod_lt_of_pos _ (by omega)) ⟨_, ns, a + 1, (if x < 0 then -x else x) / m, upd_same, (by rw [put_len v5]; exact k2), ?_, ?_, ?_, ?_, by omega, by omega, Int.ediv_nonneg absn (by omega)⟩ fun b o z nb => (upd_ne nb).trans (bt b o z nb)
            · rw [valV_put, if_neg nCL]; exact v3
            · rw [valV_put, if_neg nAL]; exact v4
            · rw [valV_put, if_pos rfl]
            · rw [upd_ne npc.symm]; exact j6
          · exact iteF ⟨rfl, rfl⟩
        · rintro σ' H' ⟨rfl, rfl⟩
          have b1 := Int.emod_nonneg x (show (2147483587 : Int) ≠ 0 by decide)
          have b2 := Int.emod_lt_of_pos x (show (0 : Int) < 2147483587 by decide)
          refine ⟨_, rfl, x, _, rfl, rfl, (by show (0 : Int) < 2147483587; decide), _, rfl, 45007, a, rfl, rfl, .inl ⟨by decide, by decide⟩, _, _, rfl, rfl, _, 11, rfl, rfl, _, 3, rfl, rfl, ⟨by decide, by decide, ?_⟩, _, 2147483629, rfl, rfl, (by show (0 : Int) < 2147483629; decide), ?_⟩
          · generalize x % 2147483587 = y at b1 b2
            show (y + 45007 * a + 11).natAbs < 2 ^ 64
            omega
          · generalize (x % 2147483587 + 45007 * a + 11) ^ (3 : Int).toNat = z
            have d1 := Int.emod_nonneg z (show (2147483629 : Int) ≠ 0 by decide)
            have d2 := Int.emod_lt_of_pos z (show (0 : Int) < 2147483629 by decide)
            obtain ⟨o, ho⟩ : ∃ o, z % 2147483629 = o := ⟨_, rfl⟩
            rw [ho] at d1 d2
            show tSeq _ _ _ [some (.ref p), some (.int m), none, some (.int a), some (.ref c), some (.int x), some (.int (z % 2147483629)), none] _
            rw [ho]
            have f1 := Int.emod_nonneg o (show (64007 : Int) ≠ 0 by decide)
            have f2 := Int.emod_lt_of_pos o (show (0 : Int) < 64007 by decide)
            refine ⟨_, rfl, _, rfl, 1213, a, rfl, rfl, .inl ⟨by decide, by decide⟩, _, rfl, _, a, rfl, rfl, .inr ⟨by omega, by omega⟩, o, _, rfl, rfl, _, 3, rfl, rfl, _, 5, rfl, rfl, ⟨by decide, by decide, ?_⟩, _, 2147483543, rfl, rfl, (by show (0 : Int) < 2147483543; decide), ?_⟩
            · show (o + 1213 * a * a + 3).natAbs < 2 ^ 64
              omega
            · refine ⟨_, rfl, _, rfl, o, 64007, rfl, rfl, (by show (0 : Int) < 64007; decide), _, 1, rfl, rfl, _, _, rfl, rfl, .inr ⟨by omega, by omega⟩, _, 2147483579, rfl, rfl, (by show (0 : Int) < 2147483579; decide), _, 64, rfl, rfl, ⟨by decide, by decide⟩, _, rfl, _, m, rfl, rfl, (by show (0 : Int) < m; omega), ?_⟩
              exact fin _ (Int.emod_nonneg _ (by omega)) (Int.emod_lt_of_pos _ (by omega))
end
/-! ### texts as lists of signs -/
abbrev sc (l : List Nat) : Str := ⟨l.toArray⟩
theorem sc_list (z : Str) : sc z.cps.toList = z := rfl
theorem sc_len (l : List Nat) : (sc l).length = l.length := by
  show l.toArray.size = l.length
  simp
theorem sc_app (a b : List Nat) : (sc a ++ sc b : Str) = sc (a ++ b) := by
  have h : TL.tl (sc a ++ sc b) = TL.tl (sc (a ++ b)) := by
    rw [TL.tl_append]
  have h2 := congrArg sc h
  exact h2
theorem sc_take (l : List Nat) {k : Nat} (hk : k ≤ l.length) : cutS (sc l) none (some (k : Int)) = sc (l.take k) := by
  unfold cutS
  rw [HT.sIx_none, HT.sIx_nat, sc_len, Nat.min_eq_left hk]
  show sc ((l.toArray.toList.drop 0).take (k - 0)) = sc (l.take k)
  simp
theorem sc_drop (l : List Nat) {k : Nat} (hk : k ≤ l.length) : cutS (sc l) (some (k : Int)) none = sc (l.drop k) := by
  unfold cutS
  rw [HT.sIx_none, HT.sIx_nat, sc_len, Nat.min_eq_left hk]
  show sc ((l.toArray.toList.drop k).take (l.length - k)) = sc (l.drop k)
  rw [List.take_of_length_le (by simp)]
theorem sc_join (ls : List (List Nat)) : Txt.join "" (ls.map sc) = sc ls.flatten := by
  have h : ∀ l : List (List Nat), TL.joinL [] l = l.flatten := by
    intro l
    induction l with
    | nil => rfl
    | cons p r ih =>
      cases r with
      | nil => show p = [p].flatten; simp
      | cons q r => show p ++ ([] ++ TL.joinL [] (q :: r)) = _; rw [List.nil_append, ih]; rfl
  have e := TL.tl_join "" (ls.map sc)
  rw [show TL.tl ("" : Str) = [] from rfl, h, List.map_map] at e
  rw [TL.join_eq]
  have e2 : ls.map (TL.tl ∘ sc) = ls := by
    have : (TL.tl ∘ sc) = id := funext fun l => by show l.toArray.toList = l; simp
    rw [this, List.map_id]
  rw [e2] at e
  exact congrArg sc e
abbrev abc : Str := "abcdefghijklmnopqrstuvwxyz"
def Lc (i : Nat) : Nat := abc.cps.toList.getD i 0
theorem abc_len : abc.cps.toList.length = 26 := by decide +kernel
theorem at_abc {r : Int} (h0 : 0 ≤ r) (h1 : r < 26) : atI abc.cps.toList r = some (Lc r.toNat) := by
  have h : r.toNat < abc.cps.toList.length := by rw [abc_len]; omega
  have e : ((r.toNat : Nat) : Int) = r := by omega
  have q := atI_nat (List.getElem?_eq_getElem h)
  rw [e] at q
  rw [q, Lc, List.getD_eq_getElem?_getD, List.getElem?_eq_getElem h]
  rfl
theorem Lc_in {i : Nat} (h : i < 26) : Lc i ∈ abc.cps.toList := by
  rw [Lc, List.getD_eq_getElem?_getD, List.getElem?_eq_getElem (by rw [abc_len]; exact h)]
  exact List.getElem_mem _
/-! ### the names that a law draws -/
def nmPair (t k : Nat) : List Nat := [Lc ((t + 7 * k) % 26), Lc ((t + k / 26) % 26)]
def bij (t : Nat) : Nat → List Nat
  | 0 => []
  | r + 1 => bij t (r / 2) ++ [Lc ((t + 9 * ((r + 1) % 2)) % 26)]
def nm (way t : Nat) (B : List Nat) (sp k : Nat) : List Nat := if way = 1 then bij t (k + 1) else B.take sp ++ nmPair t k ++ B.drop sp
def nmStr (way t : Nat) (B : List Nat) (sp k : Nat) : Str := sc (nm way t B sp k)
structure NmOk (way t : Nat) (B : List Nat) (sp : Nat) : Prop where
  t26 : t < 26
  b6 : B.length ≤ 6
  bl : ∀ c ∈ B, c ∈ abc.cps.toList
  s : sp ≤ B.length
/-- a list of names at l -/
def NmAt (H : Hp) (l : Addr) (m : Nat) : Prop := ∃ way t B sp, NmOk way t B sp ∧ H l = some (.lst ((List.range m).map fun k => V.str (nmStr way t B sp k)))
theorem bij_len (t : Nat) : ∀ r, (bij t r).length = if r = 0 then 0 else (bij t ((r - 1) / 2)).length + 1
  | 0 => by rw [bij]; rfl
  | r + 1 => by rw [bij, List.length_append, if_neg (by omega)]; rfl
theorem bij_le (t : Nat) : ∀ r, (bij t r).length ≤ r
  | 0 => by rw [bij]; exact Nat.le_refl _
  | r + 1 => by
    rw [bij, List.length_append]
    have := bij_le t (r / 2)
    show _ + 1 ≤ _
    omega
theorem flat_one : ∀ B : List Nat, (B.map fun c => [c]).flatten = B
  | [] => rfl
  | b :: r => by rw [List.map_cons, List.flatten_cons, flat_one r]; rfl
theorem sum_one : ∀ B : List Nat, (((B.map fun c => [c]).map sc).map (·.length)).sum = B.length
  | [] => rfl
  | b :: r => by
    rw [List.map_cons, List.map_cons, List.map_cons, List.sum_cons, sum_one r, List.length_cons, sc_len]
    exact Nat.add_comm _ _
def restOf (σ : L2.St) (_ : Hp) : Nat := match σ[10]? with
  | some (some (V.int r)) => r.toNat
  | _ => 0
/-- what _law_names promises -/
def spNames : Sp := fun vs H Q _ => ∃ (p c : Addr) (n : Nat) (m : Int), vs = [.ref p, .int m] ∧ PenAt H p c n ∧ n ≤ 50000 ∧ 0 ≤ m ∧ m ≤ 31 ∧
  ∀ (l : Addr) (H' : Hp), H l = none → NmAt H' l m.toNat → PenAt H' p c (n + 10) → But p H H' → Q (.ref l) H'
theorem yesT {σ : L2.St} {H : Hp} {A B : Hp → Prop} (h : A H) : tYes σ H fun b H3 => if b = true then A H3 else B H3 := iteT (A := A H) (B := B H) h
theorem small_sz {n : Nat} (h : n ≤ 1000) : n ≤ sizeLine := Nat.le_of_lt (small1000 h)
theorem at_ex {α : Type} {xs : List α} {r : Int} (h0 : 0 ≤ r) (h1 : r < (xs.length : Int)) : ∃ v, atI xs r = some v ∧ v ∈ xs := by
  have h : r.toNat < xs.length := by omega
  have e : ((r.toNat : Nat) : Int) = r := by omega
  have q := atI_nat (List.getElem?_eq_getElem h)
  rw [e] at q
  exact ⟨_, q, List.getElem_mem h⟩
/-- the def _law_take, as its callers need it -/
structure TakeT (P : Program) (w : World) (K : PySem.W.Frag) (mg : Str → Option Value) (base : Heap) (f : Addr) (fd : FuncData) : Prop where
  ok : FnOk P w K mg base CX0 1 f fd ["_law_pen_here", "_law_many_here"] spTake
  g : mg "_law_take" = some (.ref f)
  kp : PySem.W.keepIn K (.ref f) = true
  b : Binds K fd ["_law_pen_here", "_law_many_here"] []
/-- any def, as its callers need it -/
structure DefT (P : Program) (w : World) (K : PySem.W.Frag) (mg : Str → Option Value) (base : Heap) (x : Str) (k : Nat) (f : Addr) (fd : FuncData) (ps : List Str) (sp : Sp) : Prop where
  ok : FnOk P w K mg base CX0 k f fd ps sp
  g : mg x = some (.ref f)
  kp : PySem.W.keepIn K (.ref f) = true
  b : Binds K fd ps []
abbrev namesN : List Str := ["_law_pen_here", "_law_many_here", "_law_letters", "_law_way", "_law_turn", "_law_k", "_law_base", "_law_spot", "_law_found", "_law_word", "_law_rest"]
section
variable {P : Program} {w : World} {K : PySem.W.Frag} {mg : Str → Option Value} {base : Heap}
theorem scNames : FnScope namesN ["_law_pen_here", "_law_many_here"] (defScope sNames) := ⟨rfl, rfl, rfl, by decide +kernel, rfl, by decide +kernel, by decide +kernel⟩
set_option maxHeartbeats 4000000 in
theorem ok_names {f fT : Addr} {fd fdT : FuncData} (F : Fun K "_law_names" "_law_names" sNames f fd) (T : TakeT P w K mg base fT fdT) (ml : mg "len" = none) (mr : mg "range" = none) :
    FnOk P w K mg base CX0 2 f fd ["_law_pen_here", "_law_many_here"] spNames := by
  refine F.ok scNames (fun vs H Q E h => ?_) (fun cdv A outer s H vs Q E hr h => ?_)
  · obtain ⟨p, c, n, m, rfl, _⟩ := h
    rfl
  · obtain ⟨p, c, n, m, rfl, pen, hn, m0, m31, q⟩ := h
    have nd := scNames.nd
    refine ⟨_, pss_cons (ps_set (i := 2) nd rfl (Or.inr rfl) pe_str)
      (pss_cons (ps_set (i := 3) nd rfl (Or.inl rfl) (pe_call T.ok hr (by rfl) T.g T.kp T.b .nil pass0 (pa_cons (pv 0) (pa_cons pe_int pa_nil))))
      (pss_cons (ps_set (i := 4) nd rfl (Or.inl rfl) (pe_call T.ok hr (by rfl) T.g T.kp T.b .nil pass0 (pa_cons (pv 0) (pa_cons pe_int pa_nil))))
      (pss_cons (ps_set (i := 6) nd rfl (Or.inl rfl) (pe_join pe_str (pe_lc (own := [("_law_k", 5)]) (g := gName 5) (tt := tYes) rfl nd
          (pi_range1 rfl mr (pa_cons (pe_ix ix_list (pe_lst (pa_cons (pe_call T.ok hr (by rfl) T.g T.kp T.b .nil pass0 (pa_cons (pv 0) (pa_cons pe_int pa_nil))) (pa_cons pe_int (pa_cons pe_int pa_nil)))) (pv 3) (fun _ _ => rfl)) pa_nil))
          (blkOk_by (N := namesN) (sc := defScope sNames) (by decide +kernel))
          (fun _ _ _ _ _ => pg_name (i := 5) nd rfl (Or.inl rfl)) (fun _ _ _ _ _ => pts_nil)
          (fun _ _ _ _ _ => pe_ix ix_str (pv 2) (pe_call T.ok hr (by rfl) T.g T.kp T.b .nil pass0 (pa_cons (pv 0) (pa_cons pe_int pa_nil))) (fun _ _ => rfl)))))
      (pss_cons (ps_set (i := 7) nd rfl (Or.inl rfl) (pe_call T.ok hr (by rfl) T.g T.kp T.b .nil pass0 (pa_cons (pv 0) (pa_cons (pe_op op_add (pe_callB call_len_str (by rfl) ml PySem.boot_len (pa_cons (pv 6) pa_nil)) pe_int) pa_nil))))
      (pss_cons (ps_set (i := 8) nd rfl (Or.inl rfl) (pe_lst pa_nil))
      (pss_cons (ps_for PassesOwn.never rfl (pi_range1 rfl mr (pa_cons (pv 1) pa_nil)) (pg_name (i := 5) nd rfl (Or.inl rfl))
        (pss_cons (ps_set (i := 9) nd rfl (Or.inl rfl) (pe_op op_add_str (pe_ix ix_str (pv 2) (pe_op op_mod (pe_op op_add (pv 4) (pe_op op_mul pe_int (pv 5))) pe_int) (fun _ _ => rfl)) (pe_ix ix_str (pv 2) (pe_op op_mod (pe_op op_add (pv 4) (pe_op op_fdiv (pv 5) pe_int)) pe_int) (fun _ _ => rfl))))
        (pss_cons (ps_set (i := 9) nd rfl (Or.inl rfl) (pe_op op_add_str (pe_op op_add_str (pe_slice sl_str (pv 6) po_none (po_some (pv 7))) (pv 9)) (pe_slice sl_str (pv 6) (po_some (pv 7)) po_none)))
        (C8.pss_cut (ps_if (pt_cmpR op_eq (pv 3) pe_int (nomark _))
            (pss_cons (ps_set (i := 9) nd rfl (Or.inl rfl) pe_str)
            (pss_cons (ps_set (i := 10) nd rfl (Or.inl rfl) (pe_op op_add (pv 5) pe_int))
            (pss_one (ps_while PassesOwn.never (pt_cmpR op_gt (pv 10) pe_int (nomark _))
              (pss_cons (ps_set (i := 9) nd rfl (Or.inl rfl) (pe_op op_add_str (pe_ix ix_str (pv 2) (pe_op op_mod (pe_op op_add (pv 4) (pe_op op_mul pe_int (pe_op op_mod (pv 10) pe_int))) pe_int) (fun _ _ => rfl)) (pv 9)))
              (pss_one (ps_set (i := 10) nd rfl (Or.inl rfl) (pe_op op_fdiv (pe_op op_sub (pv 10) pe_int) pe_int)))))))) pss_nil)
        (pss_one (ps_expr (pe_bm PySem.F.plainAttrs_list PySem.F.slot_list_append PySem.F.type_list_append mt_append (pv 8) (pa_cons (pv 9) pa_nil))))))))
      (pss_one (ps_ret (pv 8))))))))), ?_⟩
    -- way, turn
    refine ⟨_, rfl, p, c, n, 3, rfl, pen, by omega, by decide, by decide, fun r1 H1 a1 b1 pen1 bt1 => ?_⟩
    refine ⟨_, rfl, p, c, n + 1, 26, rfl, pen1, by omega, by decide, by decide, fun r2 H2 a2 b2 pen2 bt2 => ?_⟩
    -- the base's size
    refine ⟨⟨_, rfl⟩, _, rfl, p, c, n + 2, 7, rfl, pen2, by omega, by decide, by decide, fun r3 H3 a3 b3 pen3 bt3 => ?_⟩
    refine ⟨(by show 3 ≤ sizeLine; decide), fun l nl => ?_⟩
    have s4 := @same_new _ _ (.lst [V.int r3, .int 0, .int 6]) nl
    obtain ⟨kk, hkk, k0, k6⟩ : ∃ kk : Int, atI [V.int r3, .int 0, .int 6] r1 = some (.int kk) ∧ 0 ≤ kk ∧ kk ≤ 6 := by
      have w3 : r1 = 0 ∨ r1 = 1 ∨ r1 = 2 := by omega
      rcases w3 with rfl | rfl | rfl
      · exact ⟨r3, atI_nat (j := 0) rfl, a3, by omega⟩
      · exact ⟨0, atI_nat (j := 1) rfl, by decide, by decide⟩
      · exact ⟨6, atI_nat (j := 2) rfl, by decide, by decide⟩
    have pen4 := pen3.same s4
    have bt4 : But p H (upd H3 l (.lst [V.int r3, .int 0, .int 6])) := (bt1.tr (bt2.tr bt3)).tr (.of s4)
    refine ⟨_, rfl, l, _, r1, _, rfl, rfl, SqL.of upd_same, hkk, kk, rfl, by omega, by omega, fun D nD => ?_⟩
    generalize upd H3 l (.lst [V.int r3, .int 0, .int 6]) = H4 at pen4 bt4 nD
    have nDp : D ≠ p := fun z => pen4.there (z ▸ nD)
    have nDc : D ≠ c := fun z => pen4.cells (z ▸ nD)
    refine lc_range (lo := 0) (n := kk.toNat) (fun j H' => PenAt H' p c (n + 3 + j) ∧ But p H H' ∧ ∃ B : List Nat, H' D = some (.lst (((B.map fun c => [c]).map sc).map V.str)) ∧ B.length = j ∧ ∀ c ∈ B, c ∈ abc.cps.toList)
      ⟨pen4.same (same_new nD), bt4.tr (.of (same_new nD)), [], upd_same, rfl, fun y hy => nomatch hy⟩ ?_ ?_
    · rintro j H6 hj ⟨pen6, bt6, B, hD6, ly, one⟩
      refine ⟨rfl, yesT ?_⟩
      refine ⟨_, rfl, _, rfl, p, c, _, 26, rfl, pen6, by omega, by decide, by decide, fun r H7 a7 b7 pen7 bt7 => ?_⟩
      have hD7 := bt7 D _ hD6 nDp
      have hDn : H D = none := by
        cases e : H D with
        | none => rfl
        | some o => rw [bt4 D o e nDp] at nD; cases nD
      refine ⟨abc, r, _, rfl, rfl, (by decide +kernel), at_abc a7 b7, _, hD7, (by simp only [List.length_map]; exact small1000 (by omega)), pen7.upd nDp nDc, fun b o e nb => (upd_ne (ne_of_none e hDn)).trans ((bt6.tr bt7) b o e nb), B ++ [Lc r.toNat], ?_, by simp [ly], ?_⟩
      · rw [upd_same, List.map_append, List.map_append, List.map_append]
        rfl
      · intro y hy
        rcases List.mem_append.mp hy with h | h
        · exact one y h
        · rw [List.mem_singleton.mp h]
          exact Lc_in (by omega)
    · rintro H6 ⟨pen6, bt6, B, hD6, ly, one⟩
      have bl : B.length ≤ 6 := by omega
      have ej : Txt.join "" ((B.map fun c => [c]).map sc) = sc B := by rw [sc_join, flat_one]
      refine ⟨"", D, (B.map fun c => [c]).map sc, rfl, rfl, .inl (SqL.of hD6), (by rw [sum_one]; simp only [List.length_map]; show B.length + B.length * 0 ≤ 16777216; omega), ?_⟩
      rw [ej]
      -- the spot
      refine ⟨_, rfl, _, rfl, sc B, rfl, (by rw [sc_len]; exact small_sz (by omega)), _, 1, rfl, rfl, p, c, n + 9, (B.length : Int) + 1, (by rw [sc_len]; rfl), pen6.mono (by omega), by omega, by omega, by omega, fun r4 H7 a4 b4 pen7 bt7 => ?_⟩
      refine ⟨Nat.zero_le _, fun Fd nFd => ?_⟩
      have nFp : Fd ≠ p := fun z => pen7.there (z ▸ nFd)
      have nFc : Fd ≠ c := fun z => pen7.cells (z ▸ nFd)
      have bt8 := bt6.tr bt7
      have hFn : H Fd = none := by
        cases e : H Fd with
        | none => rfl
        | some o => rw [bt8 Fd o e nFp] at nFd; cases nFd
      have nmok : NmOk r1.toNat r2.toNat B r4.toNat := ⟨by omega, bl, one, by omega⟩
      refine ⟨_, rfl, m, rfl, by omega, by omega, for_range (lo := 0) (n := m.toNat) (fun j σ H' => ∃ y5 y9 y10, σ = [some (.ref p), some (.int m), some (.str abc), some (.int r1), some (.int r2), y5, some (.str (sc B)), some (.int r4), some (.ref Fd), y9, y10] ∧
        PenAt H' p c (n + 10) ∧ But p H H' ∧ H' Fd = some (.lst ((List.range j).map fun k => V.str (nmStr r1.toNat r2.toNat B r4.toNat k)))) ⟨_, _, _, rfl, pen7.same (same_new nFd), bt8.tr (.of (same_new nFd)), upd_same⟩ ?_ ?_⟩
      · rintro j σ H9 hj ⟨y5, y9, y10, rfl, pen9, bt9, hF9⟩
        have i1 : 0 ≤ (r2 + 7 * (0 + (j : Int))) % 26 := Int.emod_nonneg _ (by decide)
        have i2 : (r2 + 7 * (0 + (j : Int))) % 26 < 26 := Int.emod_lt_of_pos _ (by decide)
        have i3 : 0 ≤ (r2 + (0 + (j : Int)) / 26) % 26 := Int.emod_nonneg _ (by decide)
        have i4 : (r2 + (0 + (j : Int)) / 26) % 26 < 26 := Int.emod_lt_of_pos _ (by decide)
        refine ⟨_, rfl, _, rfl, _, rfl, 7, 0 + (j : Int), rfl, rfl, .inl ⟨by decide, by decide⟩, r2, _, rfl, rfl, _, 26, rfl, rfl, (by show (0 : Int) < 26; decide), abc, _, _, rfl, rfl, (by decide +kernel), at_abc i1 i2, ?_⟩
        refine ⟨_, rfl, _, rfl, _, rfl, 0 + (j : Int), 26, rfl, rfl, ⟨by decide, by decide⟩, r2, _, rfl, rfl, _, 26, rfl, rfl, (by show (0 : Int) < 26; decide), abc, _, _, rfl, rfl, (by decide +kernel), at_abc i3 i4, _, _, rfl, rfl, (by show 1 + 1 ≤ sizeLine; decide), ?_⟩
        have q1 : ((r2 + 7 * (0 + (j : Int))) % 26).toNat = (r2.toNat + 7 * j) % 26 := by omega
        have q2 : ((r2 + (0 + (j : Int)) / 26) % 26).toNat = (r2.toNat + j / 26) % 26 := by
          have h : (0 + (j : Int)) / 26 = ((j / 26 : Nat) : Int) := by omega
          rw [h]
          generalize j / 26 = u
          omega
        have wd : ((⟨#[Lc ((r2 + 7 * (0 + (j : Int))) % 26).toNat]⟩ : Str) ++ ⟨#[Lc ((r2 + (0 + (j : Int)) / 26) % 26).toNat]⟩ : Str) = sc (nmPair r2.toNat j) := by
          rw [q1, q2]
          exact sc_app [_] [_]
        have e4 : ((r4.toNat : Nat) : Int) = r4 := by omega
        have c1 : cutS (sc B) none (some r4) = sc (B.take r4.toNat) := by rw [← e4]; exact sc_take B (by omega)
        have c2 : cutS (sc B) (some r4) none = sc (B.drop r4.toNat) := by rw [← e4]; exact sc_drop B (by omega)
        have szB : (sc B).length ≤ sizeLine := by rw [sc_len]; exact small_sz (by omega)
        refine ⟨_, rfl, _, rfl, r4, rfl, sc B, rfl, szB, _, rfl, _, _, rfl, rfl, ?_, _, rfl, _, rfl, r4, rfl, sc B, rfl, szB, _, _, rfl, rfl, ?_, ?_⟩
        · rw [wd, c1, sc_len, sc_len]
          refine small_sz ?_
          rw [List.length_take]
          show _ + 2 ≤ _
          omega
        · rw [wd, c1, c2, sc_app, sc_len, sc_len, List.length_append, List.length_take, List.length_drop]
          refine small_sz ?_
          show _ + 2 + _ ≤ _
          omega
        rw [wd, c1, c2, sc_app, sc_app]
        refine ⟨fun σ' H' => ∃ y10, σ' = [some (.ref p), some (.int m), some (.str abc), some (.int r1), some (.int r2), some (.int (0 + (j : Int))), some (.str (sc B)), some (.int r4), some (.ref Fd), some (.str (nmStr r1.toNat r2.toNat B r4.toNat j)), y10] ∧ H' = H9, ?_, ?_⟩
        · refine ⟨_, rfl, rfl, _, rfl, ite2 (fun e => ?_) (fun e => ?_)⟩
          · have e1 : r1 = 1 := V.int.inj (of_decide_eq_true e)
            subst e1
            refine ⟨_, rfl, _, 1, rfl, rfl, ?_⟩
            have el : (bij r2.toNat (j + 1)).length ≤ 100 := Nat.le_trans (bij_le _ _) (by omega)
            refine while_by (fun σ' H' => ∃ (L : List Nat) (r : Int), σ' = [some (.ref p), some (.int m), some (.str abc), some (.int 1), some (.int r2), some (.int (0 + (j : Int))), some (.str (sc B)), some (.int r4), some (.ref Fd), some (.str (sc L)), some (.int r)] ∧ H' = H9 ∧ 0 ≤ r ∧ bij r2.toNat (j + 1) = bij r2.toNat r.toNat ++ L)
              restOf ⟨[], _, rfl, rfl, by omega, ?_⟩ ?_ ?_
            · rw [List.append_nil, show (0 + (j : Int) + 1).toNat = j + 1 by omega]
            · rintro σ' H' ⟨L, r, rfl, rfl, r0, hb⟩
              have lL : L.length ≤ 100 := by
                have := congrArg List.length hb
                rw [List.length_append] at this
                omega
              refine ⟨_, rfl, r, 0, rfl, rfl, _, rfl, ite2 (fun er => ?_) (fun er => ?_)⟩
              · have er' : 0 < r := of_decide_eq_true er
                have d1 : 0 ≤ (r2 + 9 * (r % 2)) % 26 := Int.emod_nonneg _ (by decide)
                have d2 : (r2 + 9 * (r % 2)) % 26 < 26 := Int.emod_lt_of_pos _ (by decide)
                refine ⟨_, rfl, _, rfl, _, rfl, r, 2, rfl, rfl, (by show (0 : Int) < 2; decide), 9, _, rfl, rfl, .inl ⟨by decide, by decide⟩, r2, _, rfl, rfl, _, 26, rfl, rfl, (by show (0 : Int) < 26; decide), abc, _, _, rfl, rfl, (by decide +kernel), at_abc d1 d2, _, rfl, _, sc L, rfl, rfl, ?_, ?_⟩
                · show 1 + (sc L).length ≤ sizeLine
                  rw [sc_len]
                  exact small_sz (by omega)
                · refine ⟨_, rfl, r, 1, rfl, rfl, r - 1, 2, rfl, rfl, ⟨by decide, by decide⟩, ⟨Lc ((r2 + 9 * (r % 2)) % 26).toNat :: L, (r - 1) / 2, ?_, rfl, by omega, ?_⟩, ?_⟩
                  · rw [show ((⟨#[Lc ((r2 + 9 * (r % 2)) % 26).toNat]⟩ : Str) ++ sc L : Str) = sc (Lc ((r2 + 9 * (r % 2)) % 26).toNat :: L) from sc_app [_] L]
                    rfl
                  · rw [hb]
                    obtain ⟨u, rfl⟩ : ∃ u : Nat, r = ((u + 1 : Nat) : Int) := ⟨(r - 1).toNat, by omega⟩
                    rw [Int.toNat_natCast, bij, List.append_assoc, show ((((u + 1 : Nat) : Int) - 1) / 2).toNat = u / 2 by omega, show ((r2 + 9 * ((((u + 1 : Nat) : Int)) % 2)) % 26).toNat = (r2.toNat + 9 * ((u + 1) % 2)) % 26 by omega]
                    rfl
                  · show ((r - 1) / 2).toNat < r.toNat
                    omega
              · have er' : ¬ 0 < r := fun h => er (decide_eq_true h)
                have : r = 0 := by omega
                subst this
                refine ⟨some (.int 0), ?_, rfl⟩
                rw [show nmStr (1 : Int).toNat r2.toNat B r4.toNat j = sc L by
                  show sc (if 1 = 1 then bij r2.toNat (j + 1) else _) = sc L
                  rw [if_pos rfl, hb, show (0 : Int).toNat = 0 from rfl, bij, List.nil_append]]
            · rintro σ' H' Q1 Q2 hq ⟨v, hv, i, k, x1, x2, b, x3, x4⟩
              exact ⟨v, hv, i, k, x1, x2, b, x3, hq _ _ x4⟩
          · have e1 : ¬ r1 = 1 := fun h => e (decide_eq_true (congrArg V.int h))
            refine ⟨y10, ?_, rfl⟩
            rw [show nmStr r1.toNat r2.toNat B r4.toNat j = sc (B.take r4.toNat ++ nmPair r2.toNat j ++ B.drop r4.toNat) by
              show sc (if r1.toNat = 1 then _ else _) = _
              rw [if_neg (by omega)]]
            rfl
        · rintro σ' H' ⟨z10, rfl, rfl⟩
          refine ⟨_, rfl, .inl ⟨rfl, _, SqL.of hF9⟩, _, rfl, Fd, _, _, rfl, rfl, hF9, (by simp only [List.length_map, List.length_range]; exact small1000 (by omega)), ⟨_, _, _, rfl, pen9.upd nFp nFc, fun b o e nb => (upd_ne (ne_of_none e hFn)).trans (bt9 b o e nb), ?_⟩⟩
          rw [upd_same, List.range_succ, List.map_append]
          rfl
      · rintro σ H9 ⟨y5, y9, y10, rfl, pen9, bt9, hF9⟩
        exact ⟨_, rfl, q Fd H9 hFn ⟨_, _, _, _, nmok, hF9⟩ pen9 bt9⟩
end
/-! ### entries -/
inductive Ent where
  | come (nm : Str) (mo : Int) (g pl : Str) (many price : Int)
  | go (nm : Str) (mo : Int) (g pl : Str) (many : Int)
  | move (nm : Str) (mo : Int) (g one other : Str) (many : Int)
  | some_ (nm : Str) (mo : Int) (g one other : Str)
  | swap (nm : Str) (mo : Int) (one other : Str)
  | count (nm : Str) (mo : Int) (g pl : Str) (many : Int) (hand : Str)
  | look (nm : Str) (mo : Int) (g pl : Str)
namespace Ent
def word : Ent → Str
  | come .. => "come" | go .. => "go" | move .. => "move" | some_ .. => "some" | swap .. => "swap" | count .. => "count" | look .. => "look"
def name : Ent → Str
  | come n .. => n | go n .. => n | move n .. => n | some_ n .. => n | swap n .. => n | count n .. => n | look n .. => n
def moment : Ent → Int
  | come _ m .. => m | go _ m .. => m | move _ m .. => m | some_ _ m .. => m | swap _ m .. => m | count _ m .. => m | look _ m .. => m
def rest : Ent → List V
  | come _ _ g p m r => [.str g, .str p, .int m, .int r]
  | go _ _ g p m => [.str g, .str p, .int m]
  | move _ _ g o t m => [.str g, .str o, .str t, .int m]
  | some_ _ _ g o t => [.str g, .str o, .str t]
  | swap _ _ o t => [.str o, .str t]
  | count _ _ g p m h => [.str g, .str p, .int m, .str h]
  | look _ _ g p => [.str g, .str p]
def vals (e : Ent) : List V := .str e.word :: .str e.name :: .int e.moment :: e.rest
/-- its parts are drawn from these places, goods and hands -/
def From (PL GL HL : List Str) : Ent → Prop
  | come _ _ g p m r => g ∈ GL ∧ p ∈ PL ∧ 1 ≤ m ∧ m ≤ 1000000000 ∧ 0 ≤ r ∧ r ≤ 1000000000
  | go _ _ g p m => g ∈ GL ∧ p ∈ PL ∧ 1 ≤ m ∧ m ≤ 1000000000
  | move _ _ g o t m => g ∈ GL ∧ o ∈ PL ∧ t ∈ PL ∧ (PL.Nodup → o ≠ t) ∧ 1 ≤ m ∧ m ≤ 1000000000
  | some_ _ _ g o t => g ∈ GL ∧ o ∈ PL ∧ (t = "" ∨ (t ∈ PL ∧ (PL.Nodup → o ≠ t)))
  | swap _ _ o t => o ∈ PL ∧ t ∈ PL ∧ (PL.Nodup → o ≠ t)
  | count _ _ g p m h => g ∈ GL ∧ p ∈ PL ∧ 0 ≤ m ∧ m ≤ 1000000000 ∧ h ∈ HL
  | look _ _ g p => g ∈ GL ∧ p ∈ PL
end Ent
def words7 : List Str := ["come", "go", "move", "some", "swap", "count", "look"]
abbrev words10 : List Str := ["come", "go", "move", "some", "swap", "count", "look", "count", "swap", "move"]
theorem Ent.word_in (e : Ent) : e.word ∈ words7 := by
  cases e <;> simp [Ent.word, words7]
abbrev StrsAt (H : Hp) (l : Addr) (ys : List Str) : Prop := H l = some (.lst (ys.map V.str))
def spMany : Sp := fun vs H Q _ => ∃ (p c : Addr) (n : Nat), vs = [.ref p] ∧ PenAt H p c n ∧ n ≤ 90000 ∧
  ∀ (r : Int) (H' : Hp), 1 ≤ r → r ≤ 1000000000 → PenAt H' p c (n + 4) → But p H H' → Q (.int r) H'
def spEntryOf : Sp := fun vs H Q _ => ∃ (p c : Addr) (n : Nat) (wd nme : Str) (mo : Int) (a1 a2 a3 : Addr) (PL GL HL : List Str), vs = [.ref p, .str wd, .str nme, .int mo, .ref a1, .ref a2, .ref a3] ∧ PenAt H p c n ∧ n ≤ 80000 ∧ wd ∈ words7 ∧
  StrsAt H a1 PL ∧ StrsAt H a2 GL ∧ StrsAt H a3 HL ∧ PL ≠ [] ∧ GL ≠ [] ∧ HL ≠ [] ∧ PL.length ≤ 100 ∧ GL.length ≤ 100 ∧ HL.length ≤ 100 ∧
  ∀ (tp : Addr) (e : Ent) (H' : Hp), H tp = none → H' tp = some (.tup e.vals) → e.name = nme → e.moment = mo → e.From PL GL HL → PenAt H' p c (n + 20) → But p H H' → Q (.ref tp) H'
def spEntry : Sp := fun vs H Q _ => ∃ (p c : Addr) (n : Nat) (nme : Str) (mo : Int) (a1 a2 a3 : Addr) (PL GL HL : List Str), vs = [.ref p, .str nme, .int mo, .ref a1, .ref a2, .ref a3] ∧ PenAt H p c n ∧ n ≤ 70000 ∧
  StrsAt H a1 PL ∧ StrsAt H a2 GL ∧ StrsAt H a3 HL ∧ PL ≠ [] ∧ GL ≠ [] ∧ HL ≠ [] ∧ PL.length ≤ 100 ∧ GL.length ≤ 100 ∧ HL.length ≤ 100 ∧
  ∀ (tp : Addr) (e : Ent) (H' : Hp), H tp = none → H' tp = some (.tup e.vals) → e.name = nme → e.moment = mo → e.From PL GL HL → PenAt H' p c (n + 30) → But p H H' → Q (.ref tp) H'
theorem pen_strs {H H' : Hp} {p c l : Addr} {n : Nat} {ys : List Str} (pen : PenAt H p c n) (b : But p H H') (h : StrsAt H l ys) : StrsAt H' l ys := by
  obtain ⟨kvs, ns, a, x, g1, _⟩ := pen.ex
  exact b l _ h (ne_of h g1 (by intro z; cases z))
theorem pen_free {H H' : Hp} {p c l : Addr} {n : Nat} (pen : PenAt H p c n) (b : But p H H') (h : H' l = none) (pen' : PenAt H' p c n) : H l = none := by
  cases e : H l with
  | none => rfl
  | some o =>
    have nl : l ≠ p := fun z => pen'.there (z ▸ h)
    rw [b l o e nl] at h
    cases h
theorem But.free {H H' : Hp} {p l : Addr} (b : But p H H') (h : H' l = none) (hp : H' p ≠ none) : H l = none := by
  cases e : H l with
  | none => rfl
  | some o =>
    have nl : l ≠ p := fun z => hp (z ▸ h)
    rw [b l o e nl] at h
    cases h
theorem at_strs {ys : List Str} {r : Int} (h0 : 0 ≤ r) (h1 : r < (ys.length : Int)) : ∃ y, atI (ys.map V.str) r = some (.str y) ∧ ys[r.toNat]? = some y ∧ y ∈ ys := by
  have h : r.toNat < ys.length := by omega
  have e : ((r.toNat : Nat) : Int) = r := by omega
  have q := atI_nat (xs := ys.map V.str) (j := r.toNat) (v := .str ys[r.toNat]) (by rw [List.getElem?_map, List.getElem?_eq_getElem h]; rfl)
  rw [e] at q
  exact ⟨_, q, List.getElem?_eq_getElem h, List.getElem_mem h⟩
section
variable {P : Program} {w : World} {K : PySem.W.Frag} {mg : Str → Option Value} {base : Heap}
theorem scMany : FnScope ["_law_pen_here", "_law_way"] ["_law_pen_here"] (defScope sMany) := ⟨rfl, rfl, rfl, by decide +kernel, rfl, by decide +kernel, by decide +kernel⟩
theorem ok_many {f fT : Addr} {fd fdT : FuncData} (F : Fun K "_law_many" "_law_many" sMany f fd) (T : TakeT P w K mg base fT fdT) : FnOk P w K mg base CX0 2 f fd ["_law_pen_here"] spMany := by
  refine F.ok scMany (fun vs H Q E h => ?_) (fun cdv A outer s H vs Q E hr h => ?_)
  · obtain ⟨p, c, n, rfl, _⟩ := h
    rfl
  · obtain ⟨p, c, n, rfl, pen, hn, q⟩ := h
    have nd := scMany.nd
    refine ⟨_, pss_cons (ps_set (i := 1) nd rfl (Or.inl rfl) (pe_call T.ok hr (by rfl) T.g T.kp T.b .nil pass0 (pa_cons (pv 0) (pa_cons pe_int pa_nil))))
      (pss_one (ps_ret (pe_ix ix_list (pe_lst (pa_cons pe_int (pa_cons (pe_op op_add pe_int (pe_call T.ok hr (by rfl) T.g T.kp T.b .nil pass0 (pa_cons (pv 0) (pa_cons pe_int pa_nil))))
        (pa_cons (pe_op op_sub (pe_op op_pow pe_int pe_int) (pe_call T.ok hr (by rfl) T.g T.kp T.b .nil pass0 (pa_cons (pv 0) (pa_cons pe_int pa_nil))))
        (pa_cons (pe_op op_add pe_int (pe_call T.ok hr (by rfl) T.g T.kp T.b .nil pass0 (pa_cons (pv 0) (pa_cons (pe_op op_pow pe_int pe_int) pa_nil)))) pa_nil))))) (pv 1) (fun _ _ => rfl)))), ?_⟩
    refine ⟨_, rfl, p, c, n, 4, rfl, pen, by omega, by decide, by decide, fun r1 H1 a1 b1 pen1 bt1 => ?_⟩
    refine ⟨_, rfl, p, c, n + 1, 9, rfl, pen1, by omega, by decide, by decide, fun r2 H2 a2 b2 pen2 bt2 => ?_⟩
    refine ⟨1, r2, rfl, rfl, 10, 9, rfl, rfl, ⟨by decide, by decide, by decide⟩, _, rfl, p, c, n + 2, 3, rfl, pen2, by omega, by decide, by decide, fun r3 H3 a3 b3 pen3 bt3 => ?_⟩
    refine ⟨_, r3, rfl, rfl, _, rfl, 10, 9, rfl, rfl, ⟨by decide, by decide, by decide⟩, p, c, n + 3, 10 ^ (9 : Int).toNat, rfl, pen3, by omega, by decide, by decide, fun r4 H4 a4 b4 pen4 bt4 => ?_⟩
    have b4' : r4 < 1000000000 := b4
    refine ⟨1, r4, rfl, rfl, (by show 4 ≤ sizeLine; decide), fun l nl => ?_⟩
    have fin : ∀ r : Int, 1 ≤ r → r ≤ 1000000000 → Q (.int r) (upd H4 l (.lst [.int 1, .int (1 + r2), .int (10 ^ (9 : Int).toNat - r3), .int (1 + r4)])) := fun r h1 h2 => q r _ h1 h2 (pen4.same (same_new nl)) ((bt1.tr (bt2.tr (bt3.tr bt4))).tr (.of (same_new nl)))
    have w4 : r1 = 0 ∨ r1 = 1 ∨ r1 = 2 ∨ r1 = 3 := by omega
    rcases w4 with rfl | rfl | rfl | rfl
    · exact ⟨_, rfl, l, _, 0, _, rfl, rfl, SqL.of upd_same, atI_nat (j := 0) rfl, fin _ (by decide) (by decide)⟩
    · exact ⟨_, rfl, l, _, 1, _, rfl, rfl, SqL.of upd_same, atI_nat (j := 1) rfl, fin _ (by omega) (by omega)⟩
    · exact ⟨_, rfl, l, _, 2, _, rfl, rfl, SqL.of upd_same, atI_nat (j := 2) rfl, fin _ (by show (1 : Int) ≤ 1000000000 - r3; omega) (by show (1000000000 : Int) - r3 ≤ 1000000000; omega)⟩
    · exact ⟨_, rfl, l, _, 3, _, rfl, rfl, SqL.of upd_same, atI_nat (j := 3) rfl, fin _ (by omega) (by omega)⟩
abbrev entN : List Str := ["_law_pen_here", "_law_word", "_law_name", "_law_moment", "_law_places", "_law_goods", "_law_hands", "_law_at", "_law_one", "_law_good", "_law_other"]
theorem scEntryOf : FnScope entN ["_law_pen_here", "_law_word", "_law_name", "_law_moment", "_law_places", "_law_goods", "_law_hands"] (defScope sEntryOf) := ⟨rfl, rfl, rfl, by decide +kernel, rfl, by decide +kernel, by decide +kernel⟩
set_option maxHeartbeats 4000000 in
theorem ok_entryOf {f fT fM : Addr} {fd fdT fdM : FuncData} (F : Fun K "_law_entry_of" "_law_entry_of" sEntryOf f fd) (T : TakeT P w K mg base fT fdT) (M : DefT P w K mg base "_law_many" 2 fM fdM ["_law_pen_here"] spMany) (ml : mg "len" = none) :
    FnOk P w K mg base CX0 3 f fd ["_law_pen_here", "_law_word", "_law_name", "_law_moment", "_law_places", "_law_goods", "_law_hands"] spEntryOf := by
  refine F.ok scEntryOf (fun vs H Q E h => ?_) (fun cdv A outer s H vs Q E hr h => ?_)
  · obtain ⟨p, c, n, wd, nme, mo, a1, a2, a3, PL, GL, HL, rfl, _⟩ := h
    rfl
  · obtain ⟨p, c, n, wd, nme, mo, a1, a2, a3, PL, GL, HL, rfl, pen, hn, hw, h1, h2, h3, ne1, ne2, ne3, lp, lg, lh, q⟩ := h
    have nd := scEntryOf.nd
    have hr1 : Room 1 _ := hr.mono (by decide)
    refine ⟨_, pss_cons (ps_set (i := 7) nd rfl (Or.inl rfl) (pe_call T.ok hr1 (by rfl) T.g T.kp T.b .nil pass0 (pa_cons (pv 0) (pa_cons (pe_callB call_len_seq (by rfl) ml PySem.boot_len (pa_cons (pv 4) pa_nil)) pa_nil))))
      (pss_cons (ps_set (i := 8) nd rfl (Or.inl rfl) (pe_ix ix_list (pv 4) (pv 7) (fun _ _ => rfl)))
      (pss_cons (ps_set (i := 9) nd rfl (Or.inl rfl) (pe_ix ix_list (pv 5) (pe_call T.ok hr1 (by rfl) T.g T.kp T.b .nil pass0 (pa_cons (pv 0) (pa_cons (pe_callB call_len_seq (by rfl) ml PySem.boot_len (pa_cons (pv 5) pa_nil)) pa_nil))) (fun _ _ => rfl)))
      (pss_cons (ps_set (i := 10) nd rfl (Or.inl rfl) pe_str)
      (C8.pss_cut (ps_if (pt_cmpR op_gt (pe_callB call_len_seq (by rfl) ml PySem.boot_len (pa_cons (pv 4) pa_nil)) pe_int (nomark _))
        (pss_one (ps_set (i := 10) nd rfl (Or.inl rfl) (pe_ix ix_list (pv 4) (pe_op op_mod (pe_op op_add (pe_op op_add (pv 7) pe_int) (pe_call T.ok hr1 (by rfl) T.g T.kp T.b .nil pass0 (pa_cons (pv 0) (pa_cons (pe_op op_sub (pe_callB call_len_seq (by rfl) ml PySem.boot_len (pa_cons (pv 4) pa_nil)) pe_int) pa_nil)))) (pe_callB call_len_seq (by rfl) ml PySem.boot_len (pa_cons (pv 4) pa_nil))) (fun _ _ => rfl)))) pss_nil)
      (pss_cons (ps_if (pt_cmpR op_eq (pv 1) pe_str (nomark _)) (pss_one (ps_ret (pe_tup (pa_cons (pv 1) (pa_cons (pv 2) (pa_cons (pv 3) (pa_cons (pv 9) (pa_cons (pv 8) (pa_cons (pe_call M.ok hr (by rfl) M.g M.kp M.b .nil pass0 (pa_cons (pv 0) pa_nil)) (pa_cons (pe_op op_sub (pe_call M.ok hr (by rfl) M.g M.kp M.b .nil pass0 (pa_cons (pv 0) pa_nil)) (pe_call T.ok hr1 (by rfl) T.g T.kp T.b .nil pass0 (pa_cons (pv 0) (pa_cons pe_int pa_nil)))) pa_nil)))))))))) pss_nil)
      (pss_cons (ps_if (pt_cmpR op_eq (pv 1) pe_str (nomark _)) (pss_one (ps_ret (pe_tup (pa_cons (pv 1) (pa_cons (pv 2) (pa_cons (pv 3) (pa_cons (pv 9) (pa_cons (pv 8) (pa_cons (pe_call M.ok hr (by rfl) M.g M.kp M.b .nil pass0 (pa_cons (pv 0) pa_nil)) pa_nil))))))))) pss_nil)
      (C8.pss_cut (ps_if (PW.pt (pw_and (pt_cmpR op_eq (pv 1) pe_str (nomark _)) (pw_and1 (pt_cmpR op_ne (pv 10) pe_str (nomark _))))) (pss_one (ps_ret (pe_tup (pa_cons (pv 1) (pa_cons (pv 2) (pa_cons (pv 3) (pa_cons (pv 9) (pa_cons (pv 8) (pa_cons (pv 10) (pa_cons (pe_call M.ok hr (by rfl) M.g M.kp M.b .nil pass0 (pa_cons (pv 0) pa_nil)) pa_nil)))))))))) pss_nil)
      (pss_cons (ps_if (pt_cmpR op_eq (pv 1) pe_str (nomark _)) (pss_one (ps_ret (pe_tup (pa_cons (pv 1) (pa_cons (pv 2) (pa_cons (pv 3) (pa_cons (pv 9) (pa_cons (pv 8) (pa_cons (pe_ix ix_list (pe_lst (pa_cons (pv 10) (pa_cons (pv 10) (pa_cons pe_str pa_nil)))) (pe_call T.ok hr1 (by rfl) T.g T.kp T.b .nil pass0 (pa_cons (pv 0) (pa_cons pe_int pa_nil))) (fun _ _ => rfl)) pa_nil))))))))) pss_nil)
      (C8.pss_cut (ps_if (PW.pt (pw_and (pt_cmpR op_eq (pv 1) pe_str (nomark _)) (pw_and1 (pt_cmpR op_ne (pv 10) pe_str (nomark _))))) (pss_one (ps_ret (pe_tup (pa_cons (pv 1) (pa_cons (pv 2) (pa_cons (pv 3) (pa_cons (pv 8) (pa_cons (pv 10) pa_nil)))))))) pss_nil)
      (pss_cons (ps_if (pt_cmpR op_eq (pv 1) pe_str (nomark _)) (pss_one (ps_ret (pe_tup (pa_cons (pv 1) (pa_cons (pv 2) (pa_cons (pv 3) (pa_cons (pv 9) (pa_cons (pv 8) (pa_cons (pe_op op_sub (pe_call M.ok hr (by rfl) M.g M.kp M.b .nil pass0 (pa_cons (pv 0) pa_nil)) (pe_call T.ok hr1 (by rfl) T.g T.kp T.b .nil pass0 (pa_cons (pv 0) (pa_cons pe_int pa_nil)))) (pa_cons (pe_ix ix_list (pv 6) (pe_call T.ok hr1 (by rfl) T.g T.kp T.b .nil pass0 (pa_cons (pv 0) (pa_cons (pe_callB call_len_seq (by rfl) ml PySem.boot_len (pa_cons (pv 6) pa_nil)) pa_nil))) (fun _ _ => rfl)) pa_nil)))))))))) pss_nil)
      (pss_one (ps_ret (pe_tup (pa_cons pe_str (pa_cons (pv 2) (pa_cons (pv 3) (pa_cons (pv 9) (pa_cons (pv 8) pa_nil)))))))))))))))))), ?_⟩
    have p1 : 0 < PL.length := List.length_pos_iff.mpr ne1
    have g1 : 0 < GL.length := List.length_pos_iff.mpr ne2
    have k1 : 0 < HL.length := List.length_pos_iff.mpr ne3
    have lmap : ∀ ys : List Str, ((ys.map V.str).length : Int) = (ys.length : Int) := fun ys => by rw [List.length_map]
    -- at, one
    refine ⟨_, rfl, _, rfl, a1, _, rfl, .inl (SqL.of h1), p, c, n, _, rfl, pen, by omega, by rw [lmap]; omega, by rw [lmap]; omega, fun r1 H1 b1 d1 pen1 bt1 => ?_⟩
    rw [lmap] at d1
    have h11 := pen_strs pen bt1 h1
    have h12 := pen_strs pen bt1 h2
    have h13 := pen_strs pen bt1 h3
    obtain ⟨one, ho, ho2, ho3⟩ := at_strs b1 d1
    refine ⟨_, rfl, _, rfl, a1, _, r1, _, rfl, rfl, SqL.of h11, ho, ?_⟩
    refine ⟨_, rfl, _, rfl, _, rfl, a2, _, rfl, .inl (SqL.of h12), p, c, n + 1, _, rfl, pen1, by omega, by rw [lmap]; omega, by rw [lmap]; omega, fun r2 H2 b2 d2 pen2 bt2 => ?_⟩
    rw [lmap] at d2
    have h21 := pen_strs pen1 bt2 h11
    have h22 := pen_strs pen1 bt2 h12
    have h23 := pen_strs pen1 bt2 h13
    obtain ⟨good, hg, _, hg3⟩ := at_strs b2 d2
    have bt02 := bt1.tr bt2
    refine ⟨a2, _, r2, _, rfl, rfl, SqL.of h22, hg, ?_⟩
    refine ⟨fun σ' H' => ∃ other : Str, σ' = [some (.ref p), some (.str wd), some (.str nme), some (.int mo), some (.ref a1), some (.ref a2), some (.ref a3), some (.int r1), some (.str one), some (.str good), some (.str other)] ∧ (other = "" ∨ (other ∈ PL ∧ (PL.Nodup → one ≠ other))) ∧
      PenAt H' p c (n + 3) ∧ But p H H' ∧ StrsAt H' a1 PL ∧ StrsAt H' a2 GL ∧ StrsAt H' a3 HL, ?_, ?_⟩
    · refine ⟨_, rfl, a1, _, rfl, .inl (SqL.of h21), _, 1, rfl, rfl, _, rfl, ite2 (fun e => ?_) (fun e => ⟨"", rfl, .inl rfl, pen2.mono (by omega), bt02, h21, h22, h23⟩)⟩
      have e' : 1 < ((PL.map V.str).length : Int) := of_decide_eq_true e
      rw [lmap] at e'
      refine ⟨_, rfl, _, rfl, r1, 1, rfl, rfl, _, rfl, _, rfl, a1, _, rfl, .inl (SqL.of h21), _, 1, rfl, rfl, p, c, n + 2, _, rfl, pen2, by omega, by rw [lmap]; omega, by rw [lmap]; omega, fun r3 H3 b3 d3 pen3 bt3 => ?_⟩
      rw [lmap] at d3
      have h31 := pen_strs pen2 bt3 h21
      have h32 := pen_strs pen2 bt3 h22
      have h33 := pen_strs pen2 bt3 h23
      have x1 : 0 ≤ (r1 + 1 + r3) % (PL.length : Int) := Int.emod_nonneg _ (by omega)
      have x2 : (r1 + 1 + r3) % (PL.length : Int) < (PL.length : Int) := Int.emod_lt_of_pos _ (by omega)
      obtain ⟨other, hp, hp2, hp3⟩ := at_strs x1 x2
      refine ⟨r1 + 1, r3, rfl, rfl, _, rfl, a1, _, rfl, .inl (SqL.of h31), _, (PL.length : Int), rfl, by rw [lmap], (by show (0 : Int) < PL.length; omega), a1, _, _, .str other, rfl, rfl, SqL.of h31, hp, other, rfl, .inr ⟨hp3, fun nod z => ?_⟩, pen3, bt02.tr bt3, h31, h32, h33⟩
      subst z
      have := (List.getElem?_inj (show r1.toNat < PL.length by omega) nod).mp (ho2.trans hp2.symm)
      have x3 : (r1 + 1 + r3) % (PL.length : Int) = r1 + 1 + r3 ∨ (r1 + 1 + r3) % (PL.length : Int) = r1 + 1 + r3 - PL.length := by
        by_cases h : r1 + 1 + r3 < PL.length
        · exact .inl (Int.emod_eq_of_lt (by omega) h)
        · right
          rw [← Int.sub_emod_right]
          exact Int.emod_eq_of_lt (by omega) (by omega)
      omega
    · rintro σ' H3 ⟨other, rfl, oth, pen3, bt3, h31, h32, h33⟩
      have fin : ∀ (tp : Addr) (e : Ent) (H4 : Hp) (k : Nat), H4 tp = none → But p H3 H4 → PenAt H4 p c (n + 3 + k) → k ≤ 17 → e.name = nme → e.moment = mo → e.From PL GL HL → Q (.ref tp) (upd H4 tp (.tup e.vals)) := fun tp e H4 k ntp bt4 pen4 hk e1 e2 e3 =>
        q tp e _ ((bt3.tr bt4).free ntp pen4.there) upd_same e1 e2 e3 ((pen4.mono (by omega)).same (same_new ntp)) ((bt3.tr bt4).tr (.of (same_new ntp)))
      refine ⟨_, rfl, rfl, _, rfl, ite2 (fun e => ?_) (fun e1 => ?_)⟩
      · have e' : wd = "come" := V.str.inj (of_decide_eq_true e)
        subst e'
        refine ⟨_, rfl, _, rfl, _, rfl, _, rfl, _, rfl, _, rfl, p, c, n + 3, rfl, pen3, by omega, fun m1 H4 c1 d1 pen4 bt4 => ?_⟩
        refine ⟨_, rfl, p, c, _, rfl, pen4, by omega, fun m2 H5 c2 d2 pen5 bt5 => ?_⟩
        refine ⟨_, rfl, p, c, _, 2, rfl, pen5, by omega, by decide, by decide, fun r6 H6 c6 d6 pen6 bt6 => ?_⟩
        refine ⟨m2, r6, rfl, rfl, (by show 7 ≤ sizeLine; decide), fun tp ntp => ?_⟩
        exact fin tp (.come nme mo good one m1 (m2 - r6)) H6 9 ntp (bt4.tr (bt5.tr bt6)) pen6 (by decide) rfl rfl ⟨hg3, ho3, c1, d1, by omega, by omega⟩
      refine ⟨_, rfl, rfl, _, rfl, ite2 (fun e => ?_) (fun e2 => ?_)⟩
      · have e' : wd = "go" := V.str.inj (of_decide_eq_true e)
        subst e'
        refine ⟨_, rfl, _, rfl, _, rfl, _, rfl, _, rfl, _, rfl, p, c, n + 3, rfl, pen3, by omega, fun m1 H4 c1 d1 pen4 bt4 => ?_⟩
        refine ⟨(by show 6 ≤ sizeLine; decide), fun tp ntp => ?_⟩
        exact fin tp (.go nme mo good one m1) H4 4 ntp bt4 pen4 (by decide) rfl rfl ⟨hg3, ho3, c1, d1⟩
      have mv : ∀ (A B : Prop), (other ≠ "" → A) → B → (if (!decide (V.str other = V.str "")) = true then A else B) := fun A B hA hB => by
        by_cases z : other = ""
        · subst z
          rw [decide_eq_true rfl]
          exact iteF hB
        · rw [decide_eq_false fun h => z (V.str.inj h)]
          exact iteT (hA z)
      have oin : other ≠ "" → other ∈ PL ∧ (PL.Nodup → one ≠ other) := fun z => oth.resolve_left z
      refine ⟨fun σ' H' => σ' = [some (.ref p), some (.str wd), some (.str nme), some (.int mo), some (.ref a1), some (.ref a2), some (.ref a3), some (.int r1), some (.str one), some (.str good), some (.str other)] ∧ H' = H3, ?_, ?_⟩
      · refine ⟨_, rfl, rfl, _, rfl, ite2 (fun e => ?_) (fun _ => iteF ⟨rfl, rfl⟩)⟩
        have e' : wd = "move" := V.str.inj (of_decide_eq_true e)
        subst e'
        refine ⟨_, rfl, rfl, _, rfl, mv _ _ (fun z => ?_) ⟨rfl, rfl⟩⟩
        refine ⟨_, rfl, _, rfl, _, rfl, _, rfl, _, rfl, _, rfl, _, rfl, p, c, n + 3, rfl, pen3, by omega, fun m1 H4 c1 d1 pen4 bt4 => ?_⟩
        refine ⟨(by show 7 ≤ sizeLine; decide), fun tp ntp => ?_⟩
        exact fin tp (.move nme mo good one other m1) H4 4 ntp bt4 pen4 (by decide) rfl rfl ⟨hg3, ho3, (oin z).1, (oin z).2, c1, d1⟩
      rintro σ' H' ⟨rfl, rfl⟩
      refine ⟨_, rfl, rfl, _, rfl, ite2 (fun e => ?_) (fun e3 => ?_)⟩
      · have e' : wd = "some" := V.str.inj (of_decide_eq_true e)
        subst e'
        refine ⟨_, rfl, _, rfl, _, rfl, _, rfl, _, rfl, _, rfl, _, rfl, (by show 3 ≤ sizeLine; decide), fun l nl => ?_⟩
        have sl := @same_new _ _ (.lst [V.str other, .str other, .str ""]) nl
        have nlp : l ≠ p := fun z => pen3.there (z ▸ nl)
        refine ⟨_, rfl, p, c, n + 3, 3, rfl, pen3.same sl, by omega, by decide, by decide, fun r4 H4 c4 d4 pen4 bt4 => ?_⟩
        have hl := bt4 l _ upd_same nlp
        obtain ⟨to, ht, hto⟩ : ∃ to : Str, atI [V.str other, .str other, .str ""] r4 = some (.str to) ∧ (to = "" ∨ (to ∈ PL ∧ (PL.Nodup → one ≠ to))) := by
          have w3 : r4 = 0 ∨ r4 = 1 ∨ r4 = 2 := by omega
          rcases w3 with rfl | rfl | rfl
          · exact ⟨other, atI_nat (j := 0) rfl, oth⟩
          · exact ⟨other, atI_nat (j := 1) rfl, oth⟩
          · exact ⟨"", atI_nat (j := 2) rfl, .inl rfl⟩
        refine ⟨l, _, r4, _, rfl, rfl, SqL.of hl, ht, (by show 6 ≤ sizeLine; decide), fun tp ntp => ?_⟩
        exact fin tp (.some_ nme mo good one to) H4 1 ntp ((But.of sl).tr bt4) pen4 (by decide) rfl rfl ⟨hg3, ho3, hto⟩
      refine ⟨fun σ' H1 => σ' = [some (.ref p), some (.str wd), some (.str nme), some (.int mo), some (.ref a1), some (.ref a2), some (.ref a3), some (.int r1), some (.str one), some (.str good), some (.str other)] ∧ H1 = H', ?_, ?_⟩
      · refine ⟨_, rfl, rfl, _, rfl, ite2 (fun e => ?_) (fun _ => iteF ⟨rfl, rfl⟩)⟩
        have e' : wd = "swap" := V.str.inj (of_decide_eq_true e)
        subst e'
        refine ⟨_, rfl, rfl, _, rfl, mv _ _ (fun z => ?_) ⟨rfl, rfl⟩⟩
        refine ⟨_, rfl, _, rfl, _, rfl, _, rfl, _, rfl, (by show 5 ≤ sizeLine; decide), fun tp ntp => ?_⟩
        exact fin tp (.swap nme mo one other) H' 0 ntp (.refl _ _) pen3 (by decide) rfl rfl ⟨ho3, (oin z).1, (oin z).2⟩
      rintro σ' H2 ⟨rfl, rfl⟩
      refine ⟨_, rfl, rfl, _, rfl, ite2 (fun e => ?_) (fun e5 => ?_)⟩
      · have e' : wd = "count" := V.str.inj (of_decide_eq_true e)
        subst e'
        refine ⟨_, rfl, _, rfl, _, rfl, _, rfl, _, rfl, _, rfl, p, c, n + 3, rfl, pen3, by omega, fun m1 H4 c1 d1 pen4 bt4 => ?_⟩
        refine ⟨_, rfl, p, c, _, 2, rfl, pen4, by omega, by decide, by decide, fun r5 H5 c5 d5 pen5 bt5 => ?_⟩
        have h43 := pen_strs pen4 bt5 (pen_strs pen3 bt4 h33)
        refine ⟨m1, r5, rfl, rfl, _, rfl, _, rfl, _, rfl, a3, _, rfl, .inl (SqL.of h43), p, c, _, _, rfl, pen5, by omega, by rw [lmap]; omega, by rw [lmap]; omega, fun r6 H6 c6 d6 pen6 bt6 => ?_⟩
        rw [lmap] at d6
        obtain ⟨hand, hh, _, hh3⟩ := at_strs c6 d6
        refine ⟨a3, _, r6, _, rfl, rfl, SqL.of (pen_strs pen5 bt6 h43), hh, (by show 7 ≤ sizeLine; decide), fun tp ntp => ?_⟩
        exact fin tp (.count nme mo good one (m1 - r5) hand) H6 6 ntp (bt4.tr (bt5.tr bt6)) pen6 (by decide) rfl rfl ⟨hg3, ho3, by omega, by omega, hh3⟩
      refine ⟨_, rfl, _, rfl, _, rfl, _, rfl, (by show 5 ≤ sizeLine; decide), fun tp ntp => ?_⟩
      exact fin tp (.look nme mo good one) H2 0 ntp (.refl _ _) pen3 (by decide) rfl rfl ⟨hg3, ho3⟩
abbrev entryN : List Str := ["_law_pen_here", "_law_name", "_law_moment", "_law_places", "_law_goods", "_law_hands", "_law_words_here"]
theorem scEntry : FnScope entryN ["_law_pen_here", "_law_name", "_law_moment", "_law_places", "_law_goods", "_law_hands"] (defScope sEntry) := ⟨rfl, rfl, rfl, by decide +kernel, rfl, by decide +kernel, by decide +kernel⟩
theorem ok_entry {f fT fE : Addr} {fd fdT fdE : FuncData} (F : Fun K "_law_entry" "_law_entry" sEntry f fd) (T : TakeT P w K mg base fT fdT)
    (EO : DefT P w K mg base "_law_entry_of" 3 fE fdE ["_law_pen_here", "_law_word", "_law_name", "_law_moment", "_law_places", "_law_goods", "_law_hands"] spEntryOf) :
    FnOk P w K mg base CX0 4 f fd ["_law_pen_here", "_law_name", "_law_moment", "_law_places", "_law_goods", "_law_hands"] spEntry := by
  refine F.ok scEntry (fun vs H Q E h => ?_) (fun cdv A outer s H vs Q E hr h => ?_)
  · obtain ⟨p, c, n, nme, mo, a1, a2, a3, PL, GL, HL, rfl, _⟩ := h
    rfl
  · obtain ⟨p, c, n, nme, mo, a1, a2, a3, PL, GL, HL, rfl, pen, hn, h1, h2, h3, ne1, ne2, ne3, lp, lg, lh, q⟩ := h
    have nd := scEntry.nd
    have hr1 : Room 1 _ := hr.mono (by decide)
    refine ⟨_, pss_cons (ps_set (i := 6) nd rfl (Or.inl rfl) (pe_lst (pa_cons pe_str (pa_cons pe_str (pa_cons pe_str (pa_cons pe_str (pa_cons pe_str (pa_cons pe_str (pa_cons pe_str (pa_cons pe_str (pa_cons pe_str (pa_cons pe_str pa_nil))))))))))))
      (pss_one (ps_ret (pe_call EO.ok hr (by rfl) EO.g EO.kp EO.b .nil pass0 (pa_cons (pv 0) (pa_cons (pe_ix ix_list (pv 6) (pe_call T.ok hr1 (by rfl) T.g T.kp T.b .nil pass0 (pa_cons (pv 0) (pa_cons pe_int pa_nil))) (fun _ _ => rfl)) (pa_cons (pv 1) (pa_cons (pv 2) (pa_cons (pv 3) (pa_cons (pv 4) (pa_cons (pv 5) pa_nil)))))))))), ?_⟩
    refine ⟨(by show 10 ≤ sizeLine; decide), fun l nl => ?_⟩
    have sl := @same_new _ _ (.lst (words10.map V.str)) nl
    have nlp : l ≠ p := fun z => pen.there (z ▸ nl)
    have pen' := pen.same sl
    refine ⟨_, rfl, _, rfl, _, rfl, p, c, n, 10, rfl, pen', by omega, by decide, by decide, fun r1 H1 b1 d1 pen1 bt1 => ?_⟩
    obtain ⟨wd, hw, _, hw3⟩ := at_strs (ys := words10) b1 d1
    have hl : StrsAt H1 l words10 := bt1 l _ upd_same nlp
    have w7 : wd ∈ words7 := by
      simp only [List.mem_cons, List.not_mem_nil, or_false] at hw3
      rcases hw3 with rfl | rfl | rfl | rfl | rfl | rfl | rfl | rfl | rfl | rfl <;> simp [words7]
    refine ⟨l, _, r1, _, rfl, rfl, SqL.of hl, hw, _, rfl, _, rfl, _, rfl, _, rfl, _, rfl, p, c, n + 1, wd, nme, mo, a1, a2, a3, PL, GL, HL, rfl, pen1, by omega, w7, pen_strs pen' bt1 (sl _ _ h1), pen_strs pen' bt1 (sl _ _ h2), pen_strs pen' bt1 (sl _ _ h3), ne1, ne2, ne3, lp, lg, lh, fun tp e H2 ntp ht en em ef pen2 bt2 => ?_⟩
    exact q tp e H2 (sl.free ((bt1.free ntp pen1.there))) ht en em ef (pen2.mono (by omega)) ((But.of sl).tr (bt1.tr bt2))
end
/-! ### words and moments -/
def NmL (ys : List Str) (m : Nat) : Prop := ∃ way t B sp, NmOk way t B sp ∧ ys = (List.range m).map (nmStr way t B sp)
theorem nmAt_strs {H : Hp} {l : Addr} {m : Nat} (h : NmAt H l m) : ∃ ys, StrsAt H l ys ∧ NmL ys m := by
  obtain ⟨way, t, B, sp, ok, e⟩ := h
  refine ⟨(List.range m).map (nmStr way t B sp), ?_, way, t, B, sp, ok, rfl⟩
  show H l = _
  rw [e, List.map_map]
  rfl
theorem NmL.len {ys : List Str} {m : Nat} (h : NmL ys m) : ys.length = m := by
  obtain ⟨way, t, B, sp, ok, rfl⟩ := h
  simp
theorem NmL.take {ys : List Str} {m k : Nat} (h : NmL ys m) (hk : k ≤ m) : NmL (ys.take k) k := by
  obtain ⟨way, t, B, sp, ok, rfl⟩ := h
  refine ⟨way, t, B, sp, ok, ?_⟩
  rw [← List.map_take, List.take_range, Nat.min_eq_left hk]
theorem cut_take {xs : List V} {k : Nat} : cutV xs none (some (k : Int)) = xs.take k := by
  unfold cutV
  rw [HT.sIx_none, HT.sIx_nat]
  show (xs.drop 0).take (min k xs.length - 0) = xs.take k
  rw [List.drop_zero, Nat.sub_zero]
  by_cases h : k ≤ xs.length
  · rw [Nat.min_eq_left h]
  · rw [Nat.min_eq_right (by omega), List.take_length, List.take_of_length_le (by omega)]
def spWords : Sp := fun vs H Q _ => ∃ (p c : Addr) (n : Nat) (a b e : Nat), vs = [.ref p, .int a, .int b, .int e] ∧ PenAt H p c n ∧ n ≤ 40000 ∧ a ≤ 31 ∧ b ≤ 31 ∧ e ≤ 31 ∧
  ∀ (tp l1 l2 l3 l4 : Addr) (PL GL HL EL : List Str) (H' : Hp), H tp = none → H' tp = some (.tup [.ref l1, .ref l2, .ref l3, .ref l4]) → StrsAt H' l1 PL → StrsAt H' l2 GL → StrsAt H' l3 HL → StrsAt H' l4 EL →
    NmL PL a → NmL GL b → NmL HL 3 → NmL EL e → PenAt H' p c (n + 50) → But p H H' → Q (.ref tp) H'
def spMoments : Sp := fun vs H Q _ => ∃ (p c : Addr) (n : Nat) (m : Nat), vs = [.ref p, .int m] ∧ PenAt H p c n ∧ n ≤ 60000 ∧ m ≤ 31 ∧
  ∀ (l : Addr) (ns : List Int) (H' : Hp), H l = none → H' l = some (.lst (ns.map V.int)) → ns.length = m → (∀ x ∈ ns, 0 ≤ x ∧ x ≤ 9999) → PenAt H' p c (n + 100) → But p H H' → Q (.ref l) H'
section
variable {P : Program} {w : World} {K : PySem.W.Frag} {mg : Str → Option Value} {base : Heap}
abbrev wordsN : List Str := ["_law_pen_here", "_law_places", "_law_goods", "_law_entries", "_law_some", "_law_hands"]
theorem scWords : FnScope wordsN ["_law_pen_here", "_law_places", "_law_goods", "_law_entries"] (defScope sWords) := ⟨rfl, rfl, rfl, by decide +kernel, rfl, by decide +kernel, by decide +kernel⟩
theorem ok_words {f fT fN : Addr} {fd fdT fdN : FuncData} (F : Fun K "_law_words" "_law_words" sWords f fd) (T : TakeT P w K mg base fT fdT) (N : DefT P w K mg base "_law_names" 2 fN fdN ["_law_pen_here", "_law_many_here"] spNames) :
    FnOk P w K mg base CX0 3 f fd ["_law_pen_here", "_law_places", "_law_goods", "_law_entries"] spWords := by
  refine F.ok scWords (fun vs H Q E h => ?_) (fun cdv A outer s H vs Q E hr h => ?_)
  · obtain ⟨p, c, n, a, b, e, rfl, _⟩ := h
    rfl
  · obtain ⟨p, c, n, a, b, e, rfl, pen, hn, ha, hb, he, q⟩ := h
    have nd := scWords.nd
    have hr1 : Room 1 _ := hr.mono (by decide)
    refine ⟨_, pss_cons (ps_if (pt_cmpR op_eq (pe_call T.ok hr1 (by rfl) T.g T.kp T.b .nil pass0 (pa_cons (pv 0) (pa_cons pe_int pa_nil))) pe_int (nomark _))
        (pss_cons (ps_set (i := 4) nd rfl (Or.inl rfl) (pe_call N.ok hr (by rfl) N.g N.kp N.b .nil pass0 (pa_cons (pv 0) (pa_cons pe_int pa_nil))))
        (pss_one (ps_ret (pe_tup (pa_cons (pe_slice sl_list (pv 4) po_none (po_some (pv 1))) (pa_cons (pe_slice sl_list (pv 4) po_none (po_some (pv 2))) (pa_cons (pe_slice sl_list (pv 4) po_none (po_some pe_int)) (pa_cons (pe_slice sl_list (pv 4) po_none (po_some (pv 3))) pa_nil)))))))) pss_nil)
      (pss_cons (ps_set (i := 5) nd rfl (Or.inl rfl) (pe_call N.ok hr (by rfl) N.g N.kp N.b .nil pass0 (pa_cons (pv 0) (pa_cons pe_int pa_nil))))
      (pss_one (ps_ret (pe_tup (pa_cons (pe_call N.ok hr (by rfl) N.g N.kp N.b .nil pass0 (pa_cons (pv 0) (pa_cons (pv 1) pa_nil))) (pa_cons (pe_call N.ok hr (by rfl) N.g N.kp N.b .nil pass0 (pa_cons (pv 0) (pa_cons (pv 2) pa_nil))) (pa_cons (pv 5) (pa_cons (pe_call N.ok hr (by rfl) N.g N.kp N.b .nil pass0 (pa_cons (pv 0) (pa_cons (pv 3) pa_nil))) pa_nil)))))))), ?_⟩
    refine ⟨_, rfl, p, c, n, 4, rfl, pen, by omega, by decide, by decide, fun r1 H1 b1 d1 pen1 bt1 => ⟨rfl, _, rfl, ite2 (fun _ => ?_) (fun _ => ?_)⟩⟩
    · refine ⟨_, rfl, p, c, n + 1, 31, rfl, pen1, by omega, by decide, by decide, fun l H2 nl hl pen2 bt2 => ?_⟩
      obtain ⟨ys, hy, ny⟩ := nmAt_strs hl
      have tk : ∀ k : Nat, cutV (ys.map V.str) none (some (k : Int)) = (ys.take k).map V.str := fun k => by rw [cut_take, List.map_take]
      refine ⟨_, rfl, _, rfl, (a : Int), rfl, l, _, rfl, SqL.of hy, fun l1 n1 => ?_⟩
      have s1 := @same_new _ _ (.lst (cutV (ys.map V.str) none (some (a : Int)))) n1
      refine ⟨_, rfl, _, rfl, (b : Int), rfl, l, _, rfl, SqL.of (s1 _ _ hy), fun l2 n2 => ?_⟩
      have s2 := @same_new _ _ (.lst (cutV (ys.map V.str) none (some (b : Int)))) n2
      refine ⟨_, rfl, 3, rfl, l, _, rfl, SqL.of (s2 _ _ (s1 _ _ hy)), fun l3 n3 => ?_⟩
      have s3 := @same_new _ _ (.lst (cutV (ys.map V.str) none (some (3 : Int)))) n3
      refine ⟨_, rfl, _, rfl, (e : Int), rfl, l, _, rfl, SqL.of (s3 _ _ (s2 _ _ (s1 _ _ hy))), fun l4 n4 => ?_⟩
      have s4 := @same_new _ _ (.lst (cutV (ys.map V.str) none (some (e : Int)))) n4
      refine ⟨(by show 4 ≤ sizeLine; decide), fun tp ntp => ?_⟩
      have s5 := @same_new _ _ (.tup [V.ref l1, .ref l2, .ref l3, .ref l4]) ntp
      have u4 := s4.trans s5
      have u3 := s3.trans u4
      have u2 := s2.trans u3
      have u1 := s1.trans u2
      have bt := (bt1.tr bt2).tr (.of u1)
      have f0 : H tp = none := (bt1.tr bt2).free (s1.free (s2.free (s3.free (s4.free ntp)))) pen2.there
      refine q tp l1 l2 l3 l4 (ys.take a) (ys.take b) (ys.take 3) (ys.take e) _ f0 upd_same ?_ ?_ ?_ ?_ (ny.take ha) (ny.take hb) (ny.take (by decide)) (ny.take he) ((pen2.mono (by omega)).same u1) bt
      · exact u2 _ _ (by rw [upd_same, tk])
      · exact u3 _ _ (by rw [upd_same, tk])
      · exact u4 _ _ (by rw [upd_same]; exact congrArg (fun z => some (HO.lst z)) (tk 3))
      · exact s5 _ _ (by rw [upd_same, tk])
    · refine ⟨_, rfl, p, c, n + 1, 3, rfl, pen1, by omega, by decide, by decide, fun l3 H2 nl3 hl3 pen2 bt2 => ?_⟩
      obtain ⟨ys3, hy3, ny3⟩ := nmAt_strs hl3
      refine ⟨_, rfl, _, rfl, p, c, n + 11, (a : Int), rfl, pen2, by omega, by omega, by omega, fun l1 H3 nl1 hl1 pen3 bt3 => ?_⟩
      obtain ⟨ys1, hy1, ny1⟩ := nmAt_strs hl1
      refine ⟨_, rfl, _, rfl, p, c, n + 21, (b : Int), rfl, pen3, by omega, by omega, by omega, fun l2 H4 nl2 hl2 pen4 bt4 => ?_⟩
      obtain ⟨ys2, hy2, ny2⟩ := nmAt_strs hl2
      refine ⟨_, rfl, _, rfl, _, rfl, p, c, n + 31, (e : Int), rfl, pen4, by omega, by omega, by omega, fun l4 H5 nl4 hl4 pen5 bt5 => ?_⟩
      obtain ⟨ys4, hy4, ny4⟩ := nmAt_strs hl4
      refine ⟨(by show 4 ≤ sizeLine; decide), fun tp ntp => ?_⟩
      have s5 := @same_new _ _ (.tup [V.ref l1, .ref l2, .ref l3, .ref l4]) ntp
      have bt := bt1.tr (bt2.tr (bt3.tr (bt4.tr bt5)))
      exact q tp l1 l2 l3 l4 ys1 ys2 ys3 ys4 _ (bt.free ntp pen5.there) upd_same (s5 _ _ (pen_strs pen4 bt5 (pen_strs pen3 bt4 hy1))) (s5 _ _ (pen_strs pen4 bt5 hy2)) (s5 _ _ (pen_strs pen4 bt5 (pen_strs pen3 bt4 (pen_strs pen2 bt3 hy3)))) (s5 _ _ hy4)
        (by rw [Int.toNat_natCast] at ny1; exact ny1) (by rw [Int.toNat_natCast] at ny2; exact ny2) ny3 (by rw [Int.toNat_natCast] at ny4; exact ny4) ((pen5.mono (by omega)).same s5) (bt.tr (.of s5))
abbrev momN : List Str := ["_law_pen_here", "_law_many_here", "_law_way", "_law_some", "_law_k", "_law_few", "_law_found"]
theorem scMom : FnScope momN ["_law_pen_here", "_law_many_here"] (defScope sMoments) := ⟨rfl, rfl, rfl, by decide +kernel, rfl, by decide +kernel, by decide +kernel⟩
theorem at_ints {ns : List Int} {r : Int} (h0 : 0 ≤ r) (h1 : r < (ns.length : Int)) : ∃ y, atI (ns.map V.int) r = some (.int y) ∧ y ∈ ns := by
  have h : r.toNat < ns.length := by omega
  have e : ((r.toNat : Nat) : Int) = r := by omega
  have q := atI_nat (xs := ns.map V.int) (j := r.toNat) (v := .int ns[r.toNat]) (by rw [List.getElem?_map, List.getElem?_eq_getElem h]; rfl)
  rw [e] at q
  exact ⟨_, q, List.getElem_mem h⟩
set_option maxHeartbeats 4000000 in
theorem ok_moments {f fT : Addr} {fd fdT : FuncData} (F : Fun K "_law_moments" "_law_moments" sMoments f fd) (T : TakeT P w K mg base fT fdT) (ml : mg "len" = none) (mr : mg "range" = none) (mi : mg "int" = none) :
    FnOk P w K mg base CX0 2 f fd ["_law_pen_here", "_law_many_here"] spMoments := by
  refine F.ok scMom (fun vs H Q E h => ?_) (fun cdv A outer s H vs Q E hr h => ?_)
  · obtain ⟨p, c, n, m, rfl, _⟩ := h
    rfl
  · obtain ⟨p, c, n, m, rfl, pen, hn, hm, q⟩ := h
    have nd := scMom.nd
    refine ⟨_, pss_cons (ps_set (i := 2) nd rfl (Or.inl rfl) (pe_call T.ok hr (by rfl) T.g T.kp T.b .nil pass0 (pa_cons (pv 0) (pa_cons pe_int pa_nil))))
      (pss_cons (ps_set (i := 3) nd rfl (Or.inr rfl) (pe_lst (pa_cons pe_int (pa_cons pe_int (pa_cons pe_int (pa_cons pe_int (pa_cons (pe_call T.ok hr (by rfl) T.g T.kp T.b .nil pass0 (pa_cons (pv 0) (pa_cons pe_int pa_nil))) (pa_cons (pe_call T.ok hr (by rfl) T.g T.kp T.b .nil pass0 (pa_cons (pv 0) (pa_cons pe_int pa_nil))) pa_nil))))))))
      (pss_cons (ps_setLc (i := 5) (own := [("_law_k", 4)]) (g := gName 4) (tt := tYes) (te := tOp (rIxL K) (tVar 3) (tCall spTake [] E0 (tCons (tVar 0) (tCons (tC (V.int 6)) tNil)))) rfl nd rfl rfl (sw_true rfl rfl rfl (by decide +kernel))
          (pi_range1 rfl mr (pa_cons (pe_op op_add pe_int (pe_call T.ok hr (by rfl) T.g T.kp T.b .nil pass0 (pa_cons (pv 0) (pa_cons pe_int pa_nil)))) pa_nil))
          (blkOk_by (N := momN) (sc := defScope sMoments) (by decide +kernel))
          (fun _ _ _ _ _ => pg_name (i := 4) nd rfl (Or.inl rfl)) (fun _ _ _ _ _ => pts_nil)
          (fun _ _ _ _ _ => pe_ix ix_list (pv 3) (pe_call T.ok hr (by rfl) T.g T.kp T.b .nil pass0 (pa_cons (pv 0) (pa_cons pe_int pa_nil))) (fun _ _ => rfl)))
      (pss_cons (ps_set (i := 6) nd rfl (Or.inl rfl) (pe_lst pa_nil))
      (pss_cons (ps_for PassesOwn.never rfl (pi_range1 rfl mr (pa_cons (pv 1) pa_nil)) (pg_name (i := 4) nd rfl (Or.inl rfl))
        (pss_one (ps_expr (pe_bm PySem.F.plainAttrs_list PySem.F.slot_list_append PySem.F.type_list_append mt_append (pv 6) (pa_cons (pe_ix ix_list
          (pe_lst (pa_cons (pe_ix ix_list (pv 5) (pe_call T.ok hr (by rfl) T.g T.kp T.b .nil pass0 (pa_cons (pv 0) (pa_cons (pe_callB call_len_seq (by rfl) ml PySem.boot_len (pa_cons (pv 5) pa_nil)) pa_nil))) (fun _ _ => rfl)) (pa_cons (pe_call T.ok hr (by rfl) T.g T.kp T.b .nil pass0 (pa_cons (pv 0) (pa_cons pe_int pa_nil))) pa_nil)))
          (pe_callTy call_int1 (by rfl) mi (by decide +kernel) (pa_cons (pe_cmpR op_eq (pv 2) pe_int (nomark _)) pa_nil)) (fun _ _ => rfl)) pa_nil)))))
      (pss_one (ps_ret (pv 6))))))), ?_⟩
    refine ⟨_, rfl, p, c, n, 4, rfl, pen, by omega, by decide, by decide, fun r1 H1 b1 d1 pen1 bt1 => ?_⟩
    refine ⟨_, rfl, p, c, n + 1, 10000, rfl, pen1, by omega, by decide, by decide, fun r2 H2 b2 d2 pen2 bt2 => ?_⟩
    refine ⟨_, rfl, p, c, n + 2, 10000, rfl, pen2, by omega, by decide, by decide, fun r3 H3 b3 d3 pen3 bt3 => ?_⟩
    refine ⟨(by show 6 ≤ sizeLine; decide), fun S nS => ?_⟩
    have sS := @same_new _ _ (.lst (([0, 99, 100, 9999, r2, r3] : List Int).map V.int)) nS
    have penS := pen3.same sS
    have nSp : S ≠ p := fun z => pen3.there (z ▸ nS)
    have btS : But p H (upd H3 S (.lst (([0, 99, 100, 9999, r2, r3] : List Int).map V.int))) := (bt1.tr (bt2.tr bt3)).tr (.of sS)
    have hS : (upd H3 S (.lst (([0, 99, 100, 9999, r2, r3] : List Int).map V.int))) S = some (.lst (([0, 99, 100, 9999, r2, r3] : List Int).map V.int)) := upd_same
    refine ⟨_, rfl, p, c, n + 3, 4, rfl, penS, by omega, by decide, by decide, fun r4 H4 b4 d4 pen4 bt4 => ?_⟩
    have hS4 := bt4 S _ hS nSp
    refine ⟨1, r4, rfl, rfl, 1 + r4, rfl, by omega, by omega, fun D nD => ?_⟩
    have nDp : D ≠ p := fun z => pen4.there (z ▸ nD)
    have nDc : D ≠ c := fun z => pen4.cells (z ▸ nD)
    have nSD : S ≠ D := ne_of_none hS4 nD
    have hDn : H D = none := (btS.tr bt4).free nD pen4.there
    refine lc_range (lo := 0) (n := (1 + r4).toNat) (fun j H' => PenAt H' p c (n + 4 + j) ∧ But p H H' ∧ H' S = some (.lst (([0, 99, 100, 9999, r2, r3] : List Int).map V.int)) ∧ ∃ fs : List Int, H' D = some (.lst (fs.map V.int)) ∧ fs.length = j ∧ ∀ x ∈ fs, 0 ≤ x ∧ x ≤ 9999)
      ⟨pen4.same (same_new nD), (btS.tr bt4).tr (.of (same_new nD)), (upd_ne nSD).trans hS4, [], upd_same, rfl, fun y hy => nomatch hy⟩ ?_ ?_
    · rintro j H6 hj ⟨pen6, bt6, hS6, fs, hD6, lf, bd⟩
      refine ⟨rfl, yesT ?_⟩
      refine ⟨_, rfl, _, rfl, p, c, _, 6, rfl, pen6, by omega, by decide, by decide, fun r H7 b7 d7 pen7 bt7 => ?_⟩
      obtain ⟨y, hy, my⟩ := at_ints (ns := [0, 99, 100, 9999, r2, r3]) b7 d7
      have hD7 := bt7 D _ hD6 nDp
      have hS7 := bt7 S _ hS6 nSp
      refine ⟨S, _, r, _, rfl, rfl, SqL.of hS7, hy, _, hD7, (by rw [List.length_map]; exact small1000 (by omega)), pen7.upd nDp nDc, fun b o e nb => (upd_ne (ne_of_none e hDn)).trans ((bt6.tr bt7) b o e nb), (upd_ne nSD).trans hS7, fs ++ [y], ?_, by simp [lf], ?_⟩
      · rw [upd_same, List.map_append]
        rfl
      · intro x hx
        rcases List.mem_append.mp hx with h | h
        · exact bd x h
        · rw [List.mem_singleton.mp h]
          simp only [List.mem_cons, List.not_mem_nil, or_false] at my
          rcases my with rfl | rfl | rfl | rfl | rfl | rfl <;> constructor <;> omega
    · rintro H6 ⟨pen6, bt6, hS6, fs, hD6, lf, bd⟩
      refine ⟨Nat.zero_le _, fun Fd nFd => ?_⟩
      have nFp : Fd ≠ p := fun z => pen6.there (z ▸ nFd)
      have nFc : Fd ≠ c := fun z => pen6.cells (z ▸ nFd)
      have nDF : D ≠ Fd := ne_of_none hD6 nFd
      have hFn : H Fd = none := bt6.free nFd pen6.there
      refine ⟨_, rfl, (m : Int), rfl, by omega, by omega, for_range (lo := 0) (n := (m : Int).toNat) (fun j σ H' => ∃ y4, σ = [some (.ref p), some (.int (m : Int)), some (.int r1), some (.ref S), y4, some (.ref D), some (.ref Fd)] ∧ PenAt H' p c (n + 8 + 2 * j) ∧ But p H H' ∧ H' D = some (.lst (fs.map V.int)) ∧
        ∃ ns : List Int, H' Fd = some (.lst (ns.map V.int)) ∧ ns.length = j ∧ ∀ x ∈ ns, 0 ≤ x ∧ x ≤ 9999) ⟨_, rfl, (pen6.mono (by omega)).same (same_new nFd), bt6.tr (.of (same_new nFd)), (upd_ne nDF).trans hD6, [], upd_same, rfl, fun y hy => nomatch hy⟩ ?_ ?_⟩
      · rintro j σ H9 hj ⟨y4, rfl, pen9, bt9, hD9, ns, hF9, ln, bn⟩
        have lfs : ((fs.map V.int).length : Int) = (fs.length : Int) := by rw [List.length_map]
        refine ⟨_, rfl, .inl ⟨rfl, _, SqL.of hF9⟩, _, rfl, _, rfl, _, rfl, D, _, rfl, .inl (SqL.of hD9), p, c, _, _, rfl, pen9, by omega, by rw [lfs]; omega, by rw [lfs]; omega, fun r5 H10 b5 d5 pen10 bt10 => ?_⟩
        rw [lfs] at d5
        obtain ⟨y, hy, my⟩ := at_ints b5 d5
        have hD10 := bt10 D _ hD9 nDp
        refine ⟨D, _, r5, _, rfl, rfl, SqL.of hD10, hy, _, rfl, p, c, _, 10000, rfl, pen10, by omega, by decide, by decide, fun r6 H11 b6 d6 pen11 bt11 => ?_⟩
        refine ⟨(by show 2 ≤ sizeLine; decide), fun L nL => ?_⟩
        have sL := @same_new _ _ (.lst (([y, r6] : List Int).map V.int)) nL
        refine ⟨_, rfl, rfl, .inr ⟨decide (V.int r1 = V.int 0), rfl, ?_⟩⟩
        have z01 : (0 : Int) ≤ (if decide (V.int r1 = V.int 0) = true then 1 else 0) ∧ (if decide (V.int r1 = V.int 0) = true then (1 : Int) else 0) < 2 := by
          cases decide (V.int r1 = V.int 0) <;> decide
        obtain ⟨x, hx, mx⟩ := at_ints (ns := [y, r6]) z01.1 z01.2
        have hF12 := sL _ _ (bt11 Fd _ (bt10 Fd _ hF9 nFp) nFp)
        have bt12 := (bt9.tr (bt10.tr bt11)).tr (.of sL)
        refine ⟨L, _, _, _, rfl, rfl, SqL.of upd_same, hx, Fd, _, _, rfl, rfl, hF12, (by rw [List.length_map]; exact small1000 (by omega)), _, rfl, (((pen11.mono (by omega)).same sL).upd nFp nFc), fun b o e nb => (upd_ne (ne_of_none e hFn)).trans (bt12 b o e nb), (upd_ne nDF).trans (sL _ _ (bt11 D _ hD10 nDp)), ns ++ [x], ?_, by simp [ln], ?_⟩
        · rw [upd_same, List.map_append]
          rfl
        · intro z hz
          rcases List.mem_append.mp hz with h | h
          · exact bn z h
          · rw [List.mem_singleton.mp h]
            have by_ := bd y my
            simp only [List.mem_cons, List.not_mem_nil, or_false] at mx
            rcases mx with rfl | rfl <;> constructor <;> omega
      · rintro σ H9 ⟨y4, rfl, pen9, bt9, hD9, ns, hF9, ln, bn⟩
        exact ⟨_, rfl, q Fd ns H9 hFn hF9 (by omega) bn (pen9.mono (by omega)) bt9⟩
end
/-! ### generator expressions whose element reads the module's names and the def's cells -/
section
variable {X : Cx} {pins : List (Addr × Obj)} {σ : L2.St} {H : Hp} {s : Shared}
/-- walking u makes one new object and reads fp alone; n items, the i-th one as Pf says -/
def GSrc (X : Cx) (T : Addr) (u : Value) (s1 : Shared) (n : Nat) (Pf : Nat → Value → Prop) : Prop :=
  ∀ (Q : Value → Shared → Prop) (E : Value → Shared → Prop),
    (∀ (o : Obj) (fp : List Addr) (St : Nat → Heap → Prop),
      (∀ A' : Around, A'.handled = none → Walks X.prog X.w A' s1.heap.objs.size fp [s1.heap.objs.size] n Pf St) →
      St 0 (s1.heap.push o) → (∀ b ∈ fp, b ≤ s1.heap.objs.size ∧ b ≠ T) →
      Q (.ref s1.heap.objs.size) { s1 with heap := s1.heap.push o }) →
    wpAny (model X.prog X.w) X.A (pyIter u) Q E s1
/-- the tests and the element at the item v: nothing that stood is changed -/
structure GElt (X : Cx) (T : Addr) (scope : Scope) (x : Str) (ifs : List Expr) (elt : Expr) (s1 : Shared) (Pf : Nat → Value → Prop) (pz : Nat → Bool) (F : Nat → Value → Prop) : Prop where
  run : ∀ (ce : Env) (A' : Around) (E' : Value → Shared → Prop) (i : Nat) (v : Value) (s2 : Shared) (m2 : Str → Option Value),
    ce.scope = scope → ce.globals = mainGlobals → ce.cells = cloFrom X.env.cells scope.names [] → A'.handled = none → Pf i v → s2.heap.Ns ce.locals m2 → m2 x = some v →
    (∀ b u, b ≠ T → s1.heap.get? b = some u → s2.heap.get? b = some u) →
    wpAny (model X.prog X.w) A' (forIn ifs true fun c r => if r = true then do let ok ← isTrue c ce (eval c ce); pure (ForInStep.yield ok) else pure (ForInStep.yield r)) (fun ok s3 => ok = pz i ∧ Keeps s2 s3) E' s2 ∧
    (pz i = true → wpAny (model X.prog X.w) A' (eval elt ce) (fun y s3 => F i y ∧ Keeps s2 s3) E' s2)
/-- the generator g is ready to be walked in s5 -/
def GReady (X : Cx) (pins : List (Addr × Obj)) (σ : L2.St) (H1 : Hp) (T : Addr) (n : Nat) (pz : Nat → Bool) (F : Nat → Value → Prop) (g : Addr) (s5 : Shared) : Prop :=
  ∃ (fp wr : List Addr) (G : Array GenState → Array GenState → Prop) (St : Nat → Shared → Prop),
    WalksS X.prog X.w X.A.in1 g fp wr G (passing pz n 0).length (fun j y => ∃ i, (passing pz n 0)[j]? = some i ∧ F i y) St ∧ St 0 s5 ∧
    ∀ s', Moved wr G s5 s' → ∃ H2, GxR.Tabbed T H1 H2 ∧ Inv X pins σ H2 s'
theorem gen_mk {c T : Addr} {elt iter : Expr} {x : Str} {px gpos : Pos} {ifs : List Expr} {scope : Scope} {te : TE} {k : Nat} {Q' : Value → Shared → Prop} {R : V → Hp → Prop}
    (hr : Room k X.A) (TB : GxR.TabB X.base X.mg c T) (hcode : X.env.code = .ref c) (S : GxR.GenS X.env scope x) (hi : PE X iter te)
    (hs : ∀ v, genFold iter X.env v = pure v) (I : Inv X pins σ H s) (h : te σ H fun v H1 => GxR.TabG H1 T ∧ R v H1)
    (hQ : ∀ v u H1 s1, Inv X pins σ H1 s1 → RelV v u → GxR.TabG H1 T → R v H1 → ∃ n Pf pz F, GSrc X T u s1 n Pf ∧ GElt X T scope x ifs elt s1 Pf pz F ∧
      ∀ g s5, GReady X pins σ H1 T n pz F g s5 → Q' (.ref g) s5) :
    wpAny (model X.prog X.w) X.A (eval (.GeneratorExp elt [⟨.Name x px, iter, ifs, 0⟩] scope gpos) X.env) Q' X.xe s := by
  refine wpAny_GeneratorExp_walksQ hr.hd S.co (closure_ok S.free) S.cell S.dot S.loc S.kind (Nat.lt_of_le_of_lt (by omega : X.A.depth ≤ X.A.depth + 3 * k + 5) hr.dp) ?_ hs
  refine thn (hi.run pins s σ H _ I h) fun u s1 ⟨v, H1, J, rv, ⟨ps, hT, hok⟩, hR⟩ => ?_
  obtain ⟨n, Pf, pz, F, src, el, fin⟩ := hQ v u H1 s1 J rv ⟨ps, hT, hok⟩ hR
  refine src _ _ fun o fp St W st0 hfp => ?_
  have gT : s1.heap.get? T = some (PySem.W.tabObj ps) := J.hok T _ hT
  have ltT := Heap.lt_size gT
  have sz : (s1.heap.push o).objs.size = s1.heap.objs.size + 1 := Heap.size_push ..
  have cd : PySem.W.CodeHd (s1.heap.push o) c T := TB.code.keeps fun b z e => Heap.get?_push_of_some _ (J.bk b z e)
  have pT : (s1.heap.push o).get? T = some (PySem.W.tabObj ps) := Heap.get?_push_of_some _ gT
  have lim : (s1.heap.push o).NoLimit := J.nolimit.push o
  obtain ⟨mc, nsC, _⟩ := id J.nolimit
  have ltC : cStatics < s1.heap.objs.size := nsC.lt
  have neC : cStatics ≠ T := fun e => by
    obtain ⟨oo, es, ep, go, dd, _⟩ := nsC
    rw [e, gT] at go
    cases go
    cases dd
  refine ⟨lim, ?_⟩
  -- behind the code object: the generator is made and handed on
  have on : ∀ (code : Value) (h3 : Heap) (tk : Nat) (ps' : Array Value), Heap.ExtBut T (s1.heap.push o) h3 → (s1.heap.push o).objs.size ≤ h3.objs.size →
      h3.get? T = some (PySem.W.tabObj ps') → (∃ more, ps' = ps ++ more) → TriplesOk ps'.toList →
      wpAny (model X.prog X.w) X.A (builtinsFor X.env.globals X.env.builtins) (fun bi s4 =>
        ∃ I' fp' wr n0 P' St' pz' F', Value.ref s1.heap.objs.size = .ref I' ∧ (∀ A' : Around, A'.handled = none → Walks X.prog X.w A' I' fp' wr n0 P' St') ∧ St' 0 s4.heap ∧ (∀ b ∈ fp', b < s4.heap.objs.size) ∧
          s4.heap.NoLimit ∧ cStatics ∉ wr ∧
          (∀ href : Heap, (∀ b z, s4.heap.get? b = some z → href.get? b = some z) →
            QuietGen X.prog X.w (genEnv scope (cloFrom X.env.cells scope.names []) s4.heap.objs.size code bi X.env) x ifs elt (List.range s4.heap.objs.size) wr P' pz' F' href) ∧
          (∀ a h5 tk5 gs, gs.bare = true → s4.heap.objs.size < a → h5.objs.size = a + 1 → (∀ b z, s4.heap.get? b = some z → h5.get? b = some z) →
            WalksS X.prog X.w X.A.in4 a (a :: s4.heap.objs.size :: List.range s4.heap.objs.size) (s4.heap.objs.size :: wr) (GenOnlyQ s4.gens.size) (passing pz' n0 0).length
              (fun j y => ∃ i, (passing pz' n0 0)[j]? = some i ∧ F' i y) (GenAt X.prog X.w X.A.in4 a s4.gens.size s4.heap.objs.size (List.range s4.heap.objs.size) wr pz' n0 F') →
            GenAt X.prog X.w X.A.in4 a s4.gens.size s4.heap.objs.size (List.range s4.heap.objs.size) wr pz' n0 F' 0 { s4 with gens := s4.gens.push gs, toks := tk5, heap := h5 } →
            Q' (.ref a) { s4 with gens := s4.gens.push gs, toks := tk5, heap := h5 })) X.xe { s1 with heap := h3, toks := tk } := by
    intro code h3 tk ps' ext ge3 gT3 mo ok3
    have stay : ∀ b z, b ≠ T → s1.heap.get? b = some z → h3.get? b = some z := fun b z nb e => ext b z nb (Heap.get?_push_of_some _ e)
    have glo : ∀ h4 : Heap, (∀ b z, b ≠ T → s1.heap.get? b = some z → h4.get? b = some z) → h4.Ns mainGlobals X.mg := fun h4 st => by
      obtain ⟨oo, es, ep, go, r⟩ := J.mod.glob
      exact ⟨oo, es, ep, st _ _ TB.gP (J.bk _ _ go), r⟩
    obtain ⟨bm, ob, e1, e2, _, e4, e5, e6, e7, e8⟩ := TB.bm
    refine wpAny_builtinsFor (m := X.mg) (by rw [J.ok.glob]; exact glo h3 stay) e1 e2 (stay _ _ e4 (J.bk _ _ e5)) e6 e7 e8 ?_
    refine ⟨s1.heap.objs.size, fp, [s1.heap.objs.size], n, Pf, St, pz, F, rfl, W, ?_, fun b hb => ?_, lim.extBut ext neC, fun z => ?_, fun href keepR => ⟨?_, ?_⟩, ?_⟩
    · exact (W X.A hr.hd).frame _ _ _ st0 fun b hb z e => ext b z (hfp b hb).2 e
    · have l1 := (hfp b hb).1
      have l2 := ge3
      rw [sz] at l2
      exact Nat.lt_of_lt_of_le (Nat.lt_succ_of_le l1) l2
    · rw [List.mem_singleton] at z
      exact absurd z (Nat.ne_of_lt ltC)
    · intro A' E' i v2 s2 m2 hA hP hn hm hk
      refine (el.run (genEnv scope (cloFrom X.env.cells scope.names []) h3.objs.size code builtinsNs X.env) A' E' i v2 s2 m2 rfl J.ok.glob rfl hA hP hn hm fun b z nb e => ?_).1
      have hb := Heap.lt_size e
      refine hk b (List.mem_range.mpr ?_) (fun q => ?_) z (keepR b z (stay b z nb e))
      · have := ge3
        rw [sz] at this
        exact Nat.lt_of_lt_of_le (Nat.lt_succ_of_lt hb) this
      · rw [List.mem_singleton] at q
        exact absurd q (Nat.ne_of_lt hb)
    · intro A' E' i v2 s2 m2 hA hP hz hn hm hk
      refine (el.run (genEnv scope (cloFrom X.env.cells scope.names []) h3.objs.size code builtinsNs X.env) A' E' i v2 s2 m2 rfl J.ok.glob rfl hA hP hn hm fun b z nb e => ?_).2 hz
      have hb := Heap.lt_size e
      refine hk b (List.mem_range.mpr ?_) (fun q => ?_) z (keepR b z (stay b z nb e))
      · have := ge3
        rw [sz] at this
        exact Nat.lt_of_lt_of_le (Nat.lt_succ_of_lt hb) this
      · rw [List.mem_singleton] at q
        exact absurd q (Nat.ne_of_lt hb)
    · intro g h5 tk5 gs bare ltg sz5 keep5 W5 at5
      refine fin g _ ⟨_, _, _, _, W5.in4_1, at5, fun s' mv => ?_⟩
      obtain ⟨more, em⟩ := mo
      have out : ∀ b z, s1.heap.get? b = some z → b ∉ h3.objs.size :: [s1.heap.objs.size] := fun b z e hb => by
        have l1 := Heap.lt_size e
        have l3 := ge3
        rw [sz] at l3
        rcases List.mem_cons.mp hb with q | q
        · rw [q] at l1
          exact Nat.lt_irrefl _ (Nat.lt_trans l1 l3)
        · rw [List.mem_singleton] at q
          rw [q] at l1
          exact Nat.lt_irrefl _ l1
      have K5 := GxR.inv_tab (more := more) (h' := s'.heap) (g' := s'.gens) (d' := s'.drawn) (t' := s'.toks) J hT
        (fun b z nb e => mv.heap b z (out b z e) (keep5 b z (stay b z nb e))) (by rw [← em]; exact mv.heap T _ (out T _ gT) (keep5 T _ gT3)) (AllBare.movedS (J.bare.push bare) mv)
      rw [GxR.sh_eta s1 s' mv.os] at K5
      exact ⟨upd H1 T (.tbl (ps ++ more)), ⟨⟨_, upd_same, by rw [← em]; exact ok3⟩, fun b nb => upd_ne nb⟩, K5⟩
  cases among : codeAmong gpos ps.toList with
  | some cv =>
    refine wpAny_genexprCode_hit hcode (cd.code pT hok) among ?_
    exact on cv _ s1.toks ps (Heap.ExtBut.refl _ _) (Nat.le_refl _) pT ⟨#[], (Array.append_empty).symm⟩ hok
  | none =>
    refine wpAny_genexprCodeX hcode (cd.code pT hok) (cd.tab pT) among fun c' h' tk hx hge hlt isC _ tab' _ => ?_
    obtain ⟨_, _, _, _, _, _, _, _, _, _, _, _, _, _, _, _, _, _, _, ok', _⟩ := isC
    exact on _ h' tk _ hx (Nat.le_trans hge (Nat.le_of_lt hlt)) tab'.2 ⟨_, rfl⟩ ok'
/-- a text's signs as what is walked -/
theorem gsrc_str {T : Addr} {a : Str} {t : Tok} {s1 : Shared} (hT : T < s1.heap.objs.size) : GSrc X T (.str a t) s1 a.cps.size (SignAt a) := fun Q E h =>
  wpAny_pyIter_str fun o St W st0 => h o _ St W st0 fun b hb => by
    rw [List.mem_singleton] at hb
    subst hb
    exact ⟨Nat.le_refl _, Nat.ne_of_gt hT⟩
theorem pass_all (n : Nat) : passing (fun _ => true) n 0 = List.range n := by
  simp [passing]
/-- all(test for x in e), e a text -/
def tAllT (T : Addr) (pb : Nat → Bool) (te : TE) : TE := fun σ H Q => te σ H fun v H1 => GxR.TabG H1 T ∧ ∃ a : Str, v = .str a ∧ ∀ H2, GxR.Tabbed T H1 H2 → Q (.bl (a.cps.toList.all pb)) H2
theorem pe_allT {c T : Addr} {elt iter : Expr} {x : Str} {px p pos gpos : Pos} {scope : Scope} {pb : Nat → Bool} {te : TE} {k : Nat}
    (hr : Room k X.A) (hg : Gl X "all") (hm : X.mg "all" = none) (TB : GxR.TabB X.base X.mg c T) (hcode : X.env.code = .ref c) (S : GxR.GenS X.env scope x) (hi : PE X iter te)
    (hel : ∀ pins s1 σ H1 a, Inv X pins σ H1 s1 → GElt X T scope x [] elt s1 (SignAt a) (fun _ => true) (fun i y => ∃ cc, a.cps[i]? = some cc ∧ y = .bool (pb cc)))
    (hs : ∀ v, genFold iter X.env v = pure v)
    (he : starEach [.GeneratorExp elt [⟨.Name x px, iter, [], 0⟩] scope gpos] X.env = (false, eval (.GeneratorExp elt [⟨.Name x px, iter, [], 0⟩] scope gpos) X.env) :: starEach [] X.env := by rfl) :
    PE X (.Call (.Name "all" p) [.GeneratorExp elt [⟨.Name x px, iter, [], 0⟩] scope gpos] [] pos) (tAllT T pb te) := by
  refine ⟨fun pins s σ H Q I h => wpAny_Call_Name_kw (ld_blt I hg hm (show bootBuiltins "all" = some (.builtin "all") by decide +kernel) ?_)⟩
  refine PyProof.Rows.callWith_builtin1 ?_ he (by rfl)
  rw [he]
  refine Calls.spliced_cons (gen_mk hr TB hcode S hi hs I h fun v u H1 s1 J rv tg hR => ?_)
  obtain ⟨a, rfl, hR⟩ := hR
  obtain ⟨t, rfl⟩ := id rv
  refine ⟨_, _, fun _ => true, _, gsrc_str ?_, hel pins s1 σ H1 a J, fun g s5 rdy => ?_⟩
  · obtain ⟨ps, e, _⟩ := tg
    exact J.hok.lt e
  obtain ⟨fp, wr, G, St, W, st0, back⟩ := rdy
  rw [pass_all] at W
  refine Calls.spliced_nil (call_all_walkS (W.self 0 _ _ _ st0 ⟨g, fp, wr, G, _, _, St, GxR.trF pb a.cps.toList, rfl, W, st0, ?_, fun s' mv => ?_⟩))
  · intro j y sj Qj Ej hy hq
    obtain ⟨i, ij, cc, hc, rfl⟩ := hy
    obtain ⟨hj, ej⟩ := List.getElem?_eq_some_iff.mp ij
    rw [List.getElem_range] at ej
    subst ej
    refine wpAny_truthy_bool ?_
    rw [← GxR.trF_some (pb := pb) (show a.cps.toList[j]? = some cc by rw [Array.getElem?_toList]; exact hc)]
    exact hq
  · obtain ⟨H2, tab, K2⟩ := back s' mv
    refine ⟨.bl _, H2, K2, rfl, ?_⟩
    rw [List.length_range, GxR.all_signs a pb]
    exact hR H2 tab
end
/-! ### is_name -/
def signB (c : Nat) : Bool := decide (c ∈ abc.cps.toList)
def nameB (z : Str) : Bool := decide (1 ≤ z.length) && decide (z.length ≤ 8) && z.cps.toList.all signB
theorem nameB_in {z : Str} (h1 : (1 : Int) ≤ (z.length : Int)) (h2 : (z.length : Int) ≤ 8) : nameB z = z.cps.toList.all signB := by
  unfold nameB
  rw [decide_eq_true (show 1 ≤ z.length by omega), decide_eq_true (show z.length ≤ 8 by omega)]
  rfl
theorem nameB_long {z : Str} (h : ¬ (z.length : Int) ≤ 8) : nameB z = false := by
  unfold nameB
  rw [decide_eq_false (show ¬ z.length ≤ 8 by omega), Bool.and_false]
  rfl
theorem nameB_short {z : Str} (h : ¬ (1 : Int) ≤ (z.length : Int)) : nameB z = false := by
  unfold nameB
  rw [decide_eq_false (show ¬ 1 ≤ z.length by omega)]
  rfl
/-- what is_name is told: a text, or what is of another built-in kind -/
def spName (K : PySem.W.Frag) (T : Addr) : Sp := fun vs H Q _ => ∃ v : V, vs = [v] ∧ GxR.TabG H T ∧
  ((∃ z : Str, v = .str z ∧ z.length ≤ sizeLine ∧ ∀ H2, GxR.Tabbed T H H2 → Q (.bl (nameB z)) H2) ∨
   ∃ t : String, TyX K H v (.type t) ∧ kitB t "str" = some false ∧ Q (.bl false) H)
section
variable {P : Program} {w : World} {K : PySem.W.Frag} {mg : Str → Option Value} {base : Heap}
theorem scName : FnScope ["thing"] ["thing"] (defScope sName) := ⟨rfl, rfl, rfl, by decide +kernel, rfl, by decide +kernel, by decide +kernel⟩
theorem ok_name {f c T : Addr} {oc kV doc pm ct : Value} {od an : Option Addr} {osl : Array (Option Value)}
    (lk : K.lookup f = some ⟨oc, od, .func (PySem.W.fnOf "is_name" "is_name" (defArgs sName) (defBody sName) (defScope sName) .none kV doc pm an (.ref c) ct), osl⟩) (cdI : PySem.W.codeIn K (.ref c) "is_name" = true)
    (TB : GxR.TabB base mg c T) (mi : mg "isinstance" = none) (mst : mg "str" = none) (ml : mg "len" = none) (ma : mg "all" = none) (mL : ∃ t, mg "LETTERS" = some (.str abc t)) (mN : ∃ t, mg "LONGEST_NAME" = some (.int 8 t)) :
    FnOk P w K mg base CX0 1 f (PySem.W.fnOf "is_name" "is_name" (defArgs sName) (defBody sName) (defScope sName) .none kV doc pm an (.ref c) ct) ["thing"] (spName K T) := by
  refine fn_of lk cdI scName (fun vs H Q E h => ?_) (fun A outer s H vs Q E hr h => ?_)
  · obtain ⟨v, rfl, _⟩ := h
    rfl
  · obtain ⟨v, rfl, tg, h⟩ := h
    obtain ⟨tL, mL⟩ := mL
    obtain ⟨tN, mN⟩ := mN
    refine ⟨_, pss_cons (ps_if (pt_not (pt_val (pe_callB call_isi (by rfl) mi (by decide +kernel) (pa_cons (pv 0) (pa_cons (pe_bltn (v := .ty "str") (u := .type "str") (by rfl) mst (by decide +kernel) rfl) pa_nil)))))
        (pss_one (ps_ret pe_bl)) pss_nil)
      (pss_one (ps_ret (pe_and (pe_chain op_le op_le pe_int (pe_callB call_len_str (by rfl) ml PySem.boot_len (pa_cons (pv 0) pa_nil)) (pe_glob (v := .int 8) rfl mN ⟨_, rfl⟩))
        (pe_one (pe_allT (T := T) (c := c) (pb := signB) hr (by rfl) ma TB rfl ⟨rfl, rfl, by decide +kernel, rfl, rfl, by intro y hy e; simp only [List.mem_cons, List.not_mem_nil, or_false] at hy; rcases hy with rfl | rfl | rfl <;> cases e⟩ (pv 0) ?_ (fun _ => rfl)))))), ?_⟩
    · intro pins s1 σ H1 a J
      refine ⟨fun ce A' E' i v s2 m2 e1 e2 e3 hA hP hn hm hk => ⟨?_, fun _ => ?_⟩⟩
      · simp only [List.forIn_nil]
        exact wpAny_pure ⟨rfl, GxR.keeps_refl _⟩
      · obtain ⟨cc, u, hc, rfl⟩ := hP
        refine wpAny_Compare1 ?_
        refine wpAny_Name (wpAny_loadName_local (by rw [e1]) (show ce.scope.names.lookup _ = some .local by rw [e1]; rfl) hn hm ?_) (by decide)
        refine Calls.Name_function_global (by rw [e1]) (show ce.scope.names.lookup _ = some .globalImplicit by rw [e1]; rfl) ?_
        have G : s2.heap.Ns mainGlobals mg := by
          obtain ⟨oo, es, ep, go, r⟩ := J.mod.glob
          exact ⟨oo, es, ep, hk _ _ TB.gP (J.bk _ _ go), r⟩
        refine Calls.loadGlobal_global (by rw [e2]; exact G) mL ?_
        exact PyProof.Rows.in_str ⟨⟨cc, hc, congrArg Value.bool (PySem.StrLaws.found_one abc cc)⟩, GxR.keeps_refl _⟩
    · refine ⟨v, rfl, ?_⟩
      rcases h with ⟨z, rfl, hz, q⟩ | ⟨t, ty, kt, q⟩
      · refine ⟨_, _, _, _, true, rfl, .ty "str", .base (.str z), kit_ty (by decide +kernel), _, rfl, iteF ?_⟩
        refine ⟨_, rfl, z, rfl, hz, 1, _, rfl, rfl, _, rfl, ite2 (fun e1 => ?_) (fun e1 => ?_)⟩
        · refine ⟨_, 8, rfl, rfl, _, rfl, ite2 (fun e2 => ?_) (fun e2 => ?_)⟩
          · refine ⟨_, rfl, tg, z, rfl, fun H2 tb => ?_⟩
            have e3 := q H2 tb
            rw [nameB_in (of_decide_eq_true e1) (of_decide_eq_true e2)] at e3
            exact e3
          · have e3 := q H ⟨tg, fun _ _ => rfl⟩
            rw [nameB_long fun h => e2 (decide_eq_true h)] at e3
            exact e3
        · have e3 := q H ⟨tg, fun _ _ => rfl⟩
          rw [nameB_short fun h => e1 (decide_eq_true h)] at e3
          exact ⟨_, rfl, iteF e3⟩
      · exact ⟨_, _, _, _, false, rfl, .ty "str", ty, kit_ty kt, _, rfl, iteT q⟩
end
/-! ### the drawn names are names, unlike ones -/
theorem bij_pow (t : Nat) : ∀ (j r : Nat), r + 1 ≤ 2 ^ j → (bij t r).length ≤ j
  | 0, r, h => by
    have : r = 0 := by simp at h; exact h
    subst this
    rw [bij]
    exact Nat.le_refl _
  | j + 1, 0, _ => by
    rw [bij]
    exact Nat.zero_le _
  | j + 1, r + 1, h => by
    rw [bij, List.length_append]
    have h2 : 2 ^ (j + 1) = 2 * 2 ^ j := by rw [Nat.pow_succ]; omega
    have := bij_pow t j (r / 2) (by rw [h2] at h; omega)
    show _ + 1 ≤ _
    omega
theorem bij_in (t : Nat) : ∀ (r : Nat), ∀ c ∈ bij t r, c ∈ abc.cps.toList
  | 0, c, h => by
    rw [bij] at h
    cases h
  | r + 1, c, h => by
    rw [bij] at h
    rcases List.mem_append.mp h with h | h
    · exact bij_in t (r / 2) c h
    · rw [List.mem_singleton.mp h]
      exact Lc_in (Nat.mod_lt _ (by decide))
theorem nm_in {way t : Nat} {B : List Nat} {sp : Nat} (ok : NmOk way t B sp) (k : Nat) : ∀ c ∈ nm way t B sp k, c ∈ abc.cps.toList := by
  intro c h
  unfold nm at h
  split at h
  · exact bij_in _ _ c h
  · rcases List.mem_append.mp h with h | h
    · rcases List.mem_append.mp h with h | h
      · exact ok.bl c (List.mem_of_mem_take h)
      · simp only [nmPair, List.mem_cons, List.not_mem_nil, or_false] at h
        rcases h with rfl | rfl <;> exact Lc_in (Nat.mod_lt _ (by decide))
    · exact ok.bl c (List.mem_of_mem_drop h)
theorem nm_len {way t : Nat} {B : List Nat} {sp : Nat} (ok : NmOk way t B sp) {k : Nat} (hk : k ≤ 30) : 1 ≤ (nm way t B sp k).length ∧ (nm way t B sp k).length ≤ 8 := by
  unfold nm
  split
  · have h := bij_pow t 5 (k + 1) (by show k + 1 + 1 ≤ 32; omega)
    refine ⟨?_, by omega⟩
    rw [bij, List.length_append]
    show 1 ≤ _ + 1
    omega
  · have := ok.b6
    have := ok.s
    rw [List.length_append, List.length_append, List.length_take, List.length_drop]
    show 1 ≤ _ + 2 + _ ∧ _ + 2 + _ ≤ 8
    constructor <;> omega
theorem nm_name {way t : Nat} {B : List Nat} {sp : Nat} (ok : NmOk way t B sp) {k : Nat} (hk : k ≤ 30) : nameB (nmStr way t B sp k) = true := by
  have h := nm_len ok hk
  have e : (nmStr way t B sp k).length = (nm way t B sp k).length := sc_len _
  unfold nameB
  rw [e, decide_eq_true h.1, decide_eq_true h.2]
  show (nmStr way t B sp k).cps.toList.all signB = true
  rw [List.all_eq_true]
  intro c hc
  exact decide_eq_true (nm_in ok k c (by simpa [nmStr] using hc))
theorem Lc_inj : ∀ i < 26, ∀ j < 26, Lc i = Lc j → i = j := by decide +kernel
theorem bij_inj {t : Nat} : ∀ (r q : Nat), bij t r = bij t q → r = q := by
  intro r
  induction r using Nat.strongRecOn with
  | ind r ih =>
    intro q h
    cases r with
    | zero =>
      cases q with
      | zero => rfl
      | succ q =>
        have := congrArg List.length h
        rw [bij, bij, List.length_append] at this
        simp at this
    | succ r =>
      cases q with
      | zero =>
        have := congrArg List.length h
        rw [bij, bij, List.length_append] at this
        simp at this
      | succ q =>
        rw [bij, bij] at h
        have h1 := List.append_inj_left' h rfl
        have h2 := List.append_inj_right' h rfl
        have e := ih (r / 2) (by omega) (q / 2) h1
        have e2 : Lc ((t + 9 * ((r + 1) % 2)) % 26) = Lc ((t + 9 * ((q + 1) % 2)) % 26) := List.head_eq_of_cons_eq h2
        have e3 := Lc_inj _ (Nat.mod_lt _ (by decide)) _ (Nat.mod_lt _ (by decide)) e2
        omega
theorem nm_inj {way t : Nat} {B : List Nat} {sp : Nat} {k j : Nat} (hk : k ≤ 30) (hj : j ≤ 30) (h : nm way t B sp k = nm way t B sp j) : k = j := by
  unfold nm at h
  split at h
  · have := bij_inj _ _ h
    omega
  · have h1 := List.append_inj_left' h rfl
    have h2 := List.append_inj_right h1 rfl
    unfold nmPair at h2
    have a := List.head_eq_of_cons_eq h2
    have b := List.head_eq_of_cons_eq (List.tail_eq_of_cons_eq h2)
    have a' := Lc_inj _ (Nat.mod_lt _ (by decide)) _ (Nat.mod_lt _ (by decide)) a
    have b' := Lc_inj _ (Nat.mod_lt _ (by decide)) _ (Nat.mod_lt _ (by decide)) b
    clear h h1 h2 a b
    have u1 : k / 26 ≤ 1 := by omega
    have u2 : j / 26 ≤ 1 := by omega
    have e1 : k / 26 = j / 26 := by
      generalize k / 26 = u at b' u1
      generalize j / 26 = v at b' u2
      omega
    clear b' u1 u2
    have e2 : (7 * k) % 26 = (7 * j) % 26 := by omega
    have e3 : k % 26 = j % 26 := by
      clear a'
      omega
    omega
theorem NmL.names {ys : List Str} {m : Nat} (h : NmL ys m) (hm : m ≤ 31) : ∀ y ∈ ys, nameB y = true := by
  obtain ⟨way, t, B, sp, ok, rfl⟩ := h
  intro y hy
  obtain ⟨k, hk, rfl⟩ := List.mem_map.mp hy
  exact nm_name ok (by have := List.mem_range.mp hk; omega)
theorem NmL.nodup {ys : List Str} {m : Nat} (h : NmL ys m) (hm : m ≤ 31) : ys.Nodup := by
  obtain ⟨way, t, B, sp, ok, rfl⟩ := h
  rw [List.Nodup, List.pairwise_map]
  refine List.Pairwise.imp_of_mem ?_ (List.nodup_range (n := m))
  intro a b ha hb ne e
  have ha' := List.mem_range.mp ha
  have hb' := List.mem_range.mp hb
  have e2 : nm way t B sp a = nm way t B sp b := by
    have := congrArg (fun z : Str => z.cps.toList) e
    simpa [nmStr] using this
  exact ne (nm_inj (by omega) (by omega) e2)
/-! ### defs that are called while nothing is being shown: the guards are known -/
structure FnG (P : Program) (w : World) (K : PySem.W.Frag) (mg : Str → Option Value) (base : Heap) (k : Nat) (f : Addr) (fd : FuncData) (ps : List Str) (sp : Sp) : Prop where
  many : ∀ vs H Q E, sp vs H Q E → vs.length = ps.length
  goes : ∀ (B : Around) (st : List Env) (s : Shared) (H : Hp) (as : Args) (us : List Value) (vs : List V) (Q : VK) (E : XK), B.guards = some [] → Room k B → Env0 P w K mg base B st s H →
    BindsTo s fd as (ps.zip us) → Vals vs us → sp vs H Q E → codeAny (model P w) B (.call (.ref f) as) (CR CX0 st P w H s Q E) s
section
variable {P : Program} {w : World} {K : PySem.W.Frag} {mg : Str → Option Value} {base : Heap}
theorem FnG.of {k : Nat} {f : Addr} {fd : FuncData} {ps : List Str} {sp : Sp} (F : FnOk P w K mg base CX0 k f fd ps sp) : FnG P w K mg base k f fd ps sp :=
  ⟨F.len, fun B st s H as us vs Q E _ => F.run B st s H as us vs Q E⟩
theorem Fun.okG {x qual : Str} {st : Stmt} {f : Addr} {fd : FuncData} {N ps : List Str} {k : Nat} {sp : Sp} (F : Fun K x qual st f fd) (S : FnScope N ps (defScope st)) (many : ∀ vs H Q E, sp vs H Q E → vs.length = ps.length)
    (body : ∀ (cdv : Value) (B : Around) (fs : List Env) (s : Shared) (H : Hp) (vs : List V) (Q : VK) (E : XK), B.guards = some [] → Room k (B.deeper (envOfC qual (defScope st) s.heap.objs.size f cdv)) → sp vs H Q E →
      ∃ t, PSs (cxOf CX0 P w K mg base N qual (defScope st) f cdv B fs s H E).nox (defBody st) t ∧ t { nx := fun _ H' => Q .non H', rt := Q } (start N vs) H) : FnG P w K mg base (k + 1) f fd ps sp := by
  obtain ⟨oc, od, kV, doc, pm, an, cdv, ct, osl, rfl, lk, hcd⟩ := F.ex
  refine ⟨many, fun B fs s H as us vs Q E hg hr e0 hb r hsp => ?_⟩
  have old : ∀ b o, base.get? b = some o → s.heap.get? b = some o := fun b o e => (e0.bs b o e).1
  have KX := e0.mod.kin.keeps old
  obtain ⟨t, pt, ht⟩ := body cdv B fs s H vs Q E hg (hr.deeper _) hsp
  refine codeAny_call_function hr.depth (KX _ _ lk) rfl S.co S.gen rfl (PySem.W.codeRec_of KX hcd) (hb _ _ _ _ ?_)
  refine wpAny_newFunctionEnv_cells S.kind ?_ ?_
  · rintro ⟨n, v⟩ hy
    have hn := (List.of_mem_zip hy).1
    exact (S.par n hn).imp id fun q => ⟨q, PySem.W.cellsFrom_some _ _ _ (.inl q)⟩
  · rintro env rfl s1 x
    have I := inv_start (CX := CX0) (E := E) S hr.hd e0 (many _ _ _ _ hsp) r x
    refine ⟨(e0.mod.nolimit.keeps old).keeps x.toInCall.keep, codeAny_func (wpAny_mono (pt.nox.run [] s1 _ H _ I ht) ?_ fun e s' hs => hs)⟩
    rintro fl s' hs
    cases fl with
    | ret u =>
      obtain ⟨v, σ', H', J, rv, q⟩ := hs
      exact ⟨v, H', J.os, J.bare, J.base, J.hok, rv, q⟩
    | next =>
      obtain ⟨σ', H', J, q⟩ := hs
      exact ⟨.non, H', J.os, J.bare, J.base, J.hok, rfl, q⟩
    | brk =>
      obtain ⟨_, _, _, q⟩ := hs
      exact False.elim q
    | cont =>
      obtain ⟨_, _, _, q⟩ := hs
      exact False.elim q
end
/-- f(e, ..): a def of this kind -/
theorem pe_callG {X : Cx} {k : Nat} {f : Addr} {fd : FuncData} {ps : List Str} {sp : Sp} {x : Str} {p pos : Pos} {e : Expr} {es : List Expr} {t : TA} (F : FnG X.prog X.w X.K X.mg X.base k f fd ps sp) (hG : X.A.guards = some []) (hr : Room k X.A) (hg : Gl X x) (hm : X.mg x = some (.ref f))
    (hk : PySem.W.keepIn X.K (.ref f) = true) (hb : Binds X.K fd ps []) (ha : PA X (e :: es) t) (hdb : (x == ("__debug__" : Str)) = false := by decide) (he : starEach (e :: es) X.env = (false, eval e X.env) :: starEach es X.env := by rfl)
    (hpl : (backTo pos (starEach es X.env)).any (·.1) = false := by rfl) : PE X (.Call (.Name x p) (e :: es) [] pos) (tCall sp [] E0 t) := by
  refine ⟨fun pins s σ H Q I h => wpAny_Call_Name_kw (ld_glob I hg hm ?_ hdb)⟩
  refine PySem.W.callWith_K (h₀ := X.base) I.ok.mod.kin hk (thn (ha.run pos pins s σ H _ I h) ?_) he hpl
  rintro us s1 ⟨vs, H1, I1, r, q⟩
  rw [List.append_nil] at q
  have hl : us.length = ps.length := r.length.symm.trans (F.many _ _ _ _ q)
  have bd := hb s1 us I1.kIn (by rw [List.append_nil]; exact hl)
  rw [List.append_nil] at bd
  refine ⟨I1.kIn, wpAny_call (codeAny_mono (F.goes X.A X.stack s1 H1 ⟨us, []⟩ us vs Q E0 hG hr I1.env0 bd r q) ?_)⟩
  rintro r2 s2 hq
  cases r2 with
  | error e => exact False.elim hq
  | ok fl =>
    cases fl with
    | ret u => exact I1.after hq
    | next => exact False.elim hq
    | brk => exact False.elim hq
    | cont => exact False.elim hq
/-! ### the top's call of the law, for a law that shows things -/
def topH (K : PySem.W.Frag) (a : Addr) (o : Obj) (xs : List V) (cs : List (Addr × Addr)) : Hp := fun b =>
  if b ∈ cs.map (·.2) then some (.tbl #[]) else if b = a ∧ K.lookup a = none then some (.frz o (.lst xs)) else none
section
variable {P : Program} {w : World} {K : PySem.W.Frag} {mg mb : Str → Option Value} {a : Addr} {o : Obj} {cs : List (Addr × Addr)} {s₁ : Shared} {vs : List Value} {ns : List Int}
theorem topH_tab {xs : List V} {p : Addr × Addr} (hp : p ∈ cs) : topH K a o xs cs p.2 = some (.tbl #[]) := if_pos (List.mem_map.mpr ⟨p, hp, rfl⟩)
theorem topH_cases {xs : List V} {b : Addr} {u : HO} (h : topH K a o xs cs b = some u) : (b ∈ cs.map (·.2) ∧ u = .tbl #[]) ∨ (b = a ∧ K.lookup a = none ∧ u = .frz o (.lst xs)) := by
  unfold topH at h
  split at h
  · rename_i hb
    exact .inl ⟨hb, (Option.some.inj h).symm⟩
  · split at h
    · rename_i hb
      exact .inr ⟨hb.1, hb.2, (Option.some.inj h).symm⟩
    · cases h
theorem top_call {fa : Addr} {k : Nat} {fd : FuncData} {x : Str} {sp : Sp}
    (KX : K.In s₁.heap) (hns : s₁.heap.Ns mainGlobals mg) (hb : s₁.heap.Ns builtinsNs mb) (hbb : ∀ x : Str, x ≠ "__name__" → mb x = bootBuiltins x) (hlim : s₁.heap.NoLimit) (hg : s₁.gens = #[])
    (hT : ∀ p ∈ cs, s₁.heap.get? p.2 = some { cls := .none, data := .fields #[] }) (nT : ∀ p ∈ cs, K.lookup p.2 = none) (C : ∀ p ∈ cs, PySem.W.CodeHd s₁.heap p.1 p.2)
    (hbm : ∃ (bm : Addr) (ob : Obj), mg "__builtins__" = some (.ref bm) ∧ bm ≠ builtinsNs ∧ s₁.heap.get? bm = some ob ∧ ob.cls = .type "module" ∧ ob.dict = some builtinsNs ∧ ob.data = .plain)
    (ha : s₁.heap.get? a = some { cls := .type "list", data := .seq vs.toArray }) (hi : IntsAre vs ns) (hl : ns.length ≤ sizeLine) (hr : Room k callerA)
    (F : ∀ base : Heap, K.In base → base.Ns mainGlobals mg → (∀ p ∈ cs, LamX.TabB base mg p.1 p.2) → FnG P w K mg base k fa fd [x] sp) (hbind : ∀ (s : Shared) (u : Value), BindsTo s fd ⟨[u], []⟩ [(x, u)])
    (hsp : ∀ H : Hp, (∀ p ∈ cs, H p.2 = some (.tbl #[])) → SqL K H a (ns.map V.int) → sp [.ref a] H (fun v _ => v = .bl true) fun _ _ _ => False) :
    codeAny (model P w) callerA (.call (.ref fa) ⟨[.ref a], []⟩) (fun r s' => r = .ok (.ret (.bool true)) ∧ OldK s₁.heap s'.heap ∧ s'.os = s₁.os ∧ AllBare s'.gens) s₁ := by
  have tabAt : ∀ b : Addr, b ∈ cs.map (·.2) → s₁.heap.get? b = some { cls := .none, data := .fields #[] } := fun b hb => by
    obtain ⟨p, hp, rfl⟩ := List.mem_map.mp hb
    exact hT p hp
  have naT : a ∉ cs.map (·.2) := fun z => by
    have q := (tabAt a z).symm.trans ha
    cases q
  have rv := vals_ints hi
  let H : Hp := topH K a { cls := .type "list", data := .seq vs.toArray } (ns.map V.int) cs
  have hH : ∀ p ∈ cs, H p.2 = some (.tbl #[]) := fun p hp => topH_tab hp
  -- what is tracked is a list or a table
  have free : ∀ {b : Addr} {ob : Obj}, s₁.heap.get? b = some ob → (∀ us n, ob.data ≠ .seq us n) → ob.data ≠ .fields #[] → H b = none := fun {b ob} e h1 h2 => by
    cases q : H b with
    | none => rfl
    | some u =>
      rcases topH_cases q with ⟨hb, _⟩ | ⟨rfl, _, _⟩
      · rw [tabAt b hb] at e
        cases e
        exact absurd rfl h2
      · rw [ha] at e
        cases e
        exact absurd rfl (h1 _ _)
  have dic : ∀ {b : Addr} {m : Str → Option Value}, s₁.heap.Ns b m → (hidT s₁.heap H).Ns b m := fun {b m} ⟨ob, es, ep, e, d, r⟩ =>
    ⟨ob, es, ep, hidT_get e (free e (fun us n z => by rw [d] at z; cases z) fun z => by rw [d] at z; cases z), d, r⟩
  have hK : K.In (hidT s₁.heap H) := fun b ob e => hidT_get (KX b ob e) (by
    cases q : H b with
    | none => rfl
    | some u =>
      rcases topH_cases q with ⟨hb, _⟩ | ⟨rfl, n, _⟩
      · obtain ⟨p, hp, rfl⟩ := List.mem_map.mp hb
        rw [nT p hp] at e
        cases e
      · rw [n] at e
        cases e)
  have hok : HOk P w H s₁.heap := fun b u q => by
    rcases topH_cases q with ⟨hb, rfl⟩ | ⟨rfl, _, rfl⟩
    · exact tabAt b hb
    · exact ⟨ha, by rw [List.length_map]; exact hl, vs, _, rv, ha⟩
  have hS : SqL K H a (ns.map V.int) := by
    cases hk : K.lookup a with
    | some ob =>
      have e := (KX a ob hk).symm.trans ha
      cases e
      exact .inr ⟨_, vs.toArray, _, hk, rfl, rfl, rfl, by rw [List.size_toArray, hi.length]; exact hl, by simpa using rv⟩
    | none => exact .inl (.inr ⟨{ cls := .type "list", data := .seq vs.toArray }, (if_neg naT).trans (if_pos ⟨rfl, hk⟩)⟩)
  have hM : L2.Mod K mg (hidT s₁.heap H) := ⟨hK, dic hns, ⟨mb, dic hb, hbb⟩, let ⟨mc, h1, h2⟩ := hlim; ⟨mc, dic h1, h2⟩⟩
  have TB : ∀ p ∈ cs, LamX.TabB (hidT s₁.heap H) mg p.1 p.2 := fun p hp => by
    have hTp := hT p hp
    obtain ⟨og, eg, pg, g1, g2, _⟩ := hns
    refine ⟨?_, ?_, fun z => ?_⟩
    · obtain ⟨ob, us, file, tf, flags, tg, inF, text, tt, e1, r1, r2, r3, r4⟩ := C p hp
      refine ⟨ob, us, file, tf, flags, tg, inF, text, tt, hidT_get e1 (free e1 (fun us n z => ?_) fun z => ?_), r1, r2, r3, r4⟩
      · rw [r2] at z
        cases z
      · rw [r2] at z
        cases z
        simp at r3
    · obtain ⟨bm, ob, b1, b2, b3, b4, b5, b6⟩ := hbm
      refine ⟨bm, ob, b1, b2, fun z => ?_, fun z => ?_, hidT_get b3 (free b3 (fun us n z => by rw [b6] at z; cases z) fun z => by rw [b6] at z; cases z), b4, b5, b6⟩
      · rw [z, g1] at b3
        cases b3
        rw [g2] at b6
        cases b6
      · rw [z, hTp] at b3
        cases b3
        cases b6
    · rw [z, hTp] at g1
      cases g1
      cases g2
  have e0 : Env0 P w K mg (hidT s₁.heap H) callerA [] s₁ H := ⟨rfl, hM, fun b ob e => of_hidT e, Nat.le_of_eq (hidT_size _ _), trivial, (fun b hb => nomatch (show b ∈ ([] : List Addr) from hb)), hok, .of_eq hg⟩
  refine codeAny_mono ((F _ hK (dic hns) TB).goes callerA [] s₁ H ⟨[.ref a], []⟩ [.ref a] [.ref a] _ _ rfl hr e0 (hbind s₁ (.ref a)) (.cons rfl .nil) (hsp H hH hS)) ?_
  rintro r s' h
  cases r with
  | error e => exact False.elim h
  | ok fl =>
    cases fl with
    | next => exact False.elim h
    | brk => exact False.elim h
    | cont => exact False.elim h
    | ret u =>
      obtain ⟨v, H', os, bare, un, hok', r', rfl⟩ := h
      obtain rfl : u = Value.bool true := r'
      have stays : ∀ b ob, b ∉ cs.map (·.2) → s₁.heap.get? b = some ob → s'.heap.get? b = some ob := fun b ob nb e => by
        cases q : H b with
        | none => exact un.keep b ob e q (fun z => nomatch (show b ∈ ([] : List Addr) from z)) (by simp)
        | some u =>
          rcases topH_cases q with ⟨z, _⟩ | ⟨rfl, _, rfl⟩
          · exact absurd z nb
          · rw [ha] at e
            cases e
            exact (hok' _ _ (un.frzs _ _ _ q)).1
      have grown : ∀ b ∈ cs.map (·.2), ∃ p ∈ cs, b = p.2 ∧ ∃ more : Array Value, s'.heap.get? b = some { cls := .none, data := .fields more } := fun b hb => by
        obtain ⟨p, hp, rfl⟩ := List.mem_map.mp hb
        obtain ⟨more, z⟩ := un.tbls p.2 #[] (hH p hp)
        exact ⟨p, hp, rfl, _, hok' p.2 _ z⟩
      refine ⟨rfl, ⟨fun b ob e => ?_, fun b ob e => ?_⟩, os, bare⟩
      · by_cases hb : b ∈ cs.map (·.2)
        · obtain ⟨p, hp, rfl, more, hm⟩ := grown b hb
          rw [hT p hp] at e
          cases e
          exact .inr (.inl ⟨((C p hp).tab (hT p hp)).isCodeTable, rfl, #[], more, rfl, by rw [Array.empty_append]; exact hm⟩)
        · exact .inl (stays b ob hb e)
      · by_cases hb : b ∈ cs.map (·.2)
        · obtain ⟨p, hp, rfl, more, hm⟩ := grown b hb
          exact ⟨_, hm⟩
        · exact ⟨ob, stays b ob hb e⟩
end
/-- what is known of a law that shows things -/
def LawG (l : PySem.W.OpenLaw) (w : World) (K : PySem.W.Frag) (k n : Nat) (x : Str) (mg : Str → Option Value) (fa : Addr) (h : Heap) : Prop :=
  ∃ (fd : FuncData) (cs : List (Addr × Addr)) (sp : Sp), ((∀ p ∈ cs, h.get? p.2 = some { cls := .none, data := .fields #[] }) ∧ (∀ p ∈ cs, K.lookup p.2 = none) ∧ ∀ p ∈ cs, PySem.W.CodeHd h p.1 p.2) ∧ (∀ (s : Shared) (u : Value), BindsTo s fd ⟨[u], []⟩ [(x, u)]) ∧
    (∀ (H : Hp) (a : Addr) (ns : List Int), ns.length ≤ n → (∀ p ∈ cs, H p.2 = some (.tbl #[])) → SqL K H a (ns.map V.int) → sp [.ref a] H (fun v _ => v = .bl true) fun _ _ _ => False) ∧
    ∀ base : Heap, K.In base → base.Ns mainGlobals mg → (∀ p ∈ cs, LamX.TabB base mg p.1 p.2) → FnG l.prog w K mg base k fa fd [x] sp
theorem end_G {l : PySem.W.OpenLaw} {n k : Nat} {q : Program} {loose : List Str} {XP : (Str → Option Value) → Heap → Prop} {YP : World → Heap → Prop} {d : PySem.DefRec} {K : Params → PySem.W.Frag} {x : Str}
    (hn : l.most = some n) (hn2 : n ≤ sizeLine) (hdf : d.params.defaults = []) (hr : Room k callerA)
    (hY : ∀ (w : World) (h : Heap), YP w h → (K w.params).In h)
    (F : ∀ (w : World) (s0 : Shared) (mg mb : Str → Option Value) (fa : Addr) (h : Heap), PySem.W.Ground q loose [] XP w s0 mg mb h → (K w.params).In h → mg d.name = some (.ref fa) → LawG l w (K w.params) k n x mg fa h) :
    PySem.W.WalkO q loose XP YP l.row.toRowW d [] (fun f vs => PySem.call f vs) := by
  refine Att.attach_callB hn hdf fun w s0 s1 mg mb fa o pm cd doc a vs ns G Y ho hd hcd hmg hobj hints hlen hbits hg => ?_
  have KX := hY w _ Y
  obtain ⟨fd, cs, sp, ⟨hT, nT, C⟩, hb, hsp, hF⟩ := F w s0 mg mb fa _ G KX hmg
  exact top_call KX G.T.g G.T.b G.T.builtins G.T.nolimit hg hT nT C G.T.bmain hobj hints (Nat.le_trans hlen hn2) hr hF hb (fun H hH hS => hsp H a ns hlen hH hS)
/-! ### sorted(xs, key=f), f a def whose answers are data -/
mutual
theorem Dp.on {K : PySem.W.Frag} {H H' : Hp} (s : Same H H') : ∀ {v : V} {d : PyData}, Dp K H v d → Dp K H' v d
  | _, _, .non => .non
  | _, _, .bl b => .bl b
  | _, _, .int i => .int i
  | _, _, .str x => .str x
  | _, _, .lst h r => .lst (h.imp (fun z => z.imp (s _ _) fun ⟨o, e⟩ => ⟨o, s _ _ e⟩) id) (DpAll.on s r)
  | _, _, .tup h r => .tup (h.imp (fun z => z.imp (s _ _) fun ⟨o, e⟩ => ⟨o, s _ _ e⟩) id) (DpAll.on s r)
theorem DpAll.on {K : PySem.W.Frag} {H H' : Hp} (s : Same H H') : ∀ {vs : List V} {ds : List PyData}, DpAll K H vs ds → DpAll K H' vs ds
  | _, _, .nil => .nil
  | _, _, .cons h r => .cons (Dp.on s h) (DpAll.on s r)
end
theorem DpAll.snoc {K : PySem.W.Frag} {H : Hp} {v : V} {d : PyData} : ∀ {vs : List V} {ds : List PyData}, DpAll K H vs ds → Dp K H v d → DpAll K H (vs ++ [v]) (ds ++ [d])
  | _, _, .nil, h => .cons h .nil
  | _, _, .cons a r, h => .cons a (DpAll.snoc r h)
theorem DpAll.len {K : PySem.W.Frag} {H : Hp} : ∀ {vs : List V} {ds : List PyData}, DpAll K H vs ds → vs.length = ds.length
  | _, _, .nil => rfl
  | _, _, .cons _ r => congrArg Nat.succ (DpAll.len r)
theorem vals_snoc {v : V} {u : Value} : ∀ {vs : List V} {us : List Value}, Vals vs us → RelV v u → Vals (vs ++ [v]) (us ++ [u])
  | _, _, .nil, h => .cons h .nil
  | _, _, .cons a r, h => .cons a (vals_snoc r h)
theorem vals_get {vs : List V} {us : List Value} (h : Vals vs us) : ∀ {i : Nat} {u : Value}, us[i]? = some u → ∃ v, vs[i]? = some v ∧ RelV v u := by
  induction h with
  | nil => intro i u e; cases e
  | cons a r ih =>
    intro i u e
    cases i with
    | zero => exact ⟨_, rfl, by rw [← Option.some.inj e]; exact a⟩
    | succ n => exact ih (i := n) e
theorem each_dp {X : Cx} {pins : List (Addr × Obj)} {σ : L2.St} {H : Hp} {s : Shared} (I : Inv X pins σ H s) : ∀ {vs : List V} {ds : List PyData} {us : List Value}, DpAll X.K H vs ds → Vals vs us → PySem.W.EachIs (fun v d => ∃ as, Reads s.heap v d as) us ds
  | _, _, _, .nil, .nil => .nil
  | _, _, _, .cons h r, .cons a t => .cons (Dp.reads I _ _ _ h a) (each_dp I r t)
theorem each_pairs : ∀ {es : List (V × PyData)} {us : List Value}, Vals (es.map (·.1)) us → PySem.W.EachIs (fun v (e : V × PyData) => RelV e.1 v) us es
  | [], _, .nil => .nil
  | _ :: _, _, .cons a t => .cons a (each_pairs t)
theorem pairs_each : ∀ {es : List (V × PyData)} {us : List Value}, PySem.W.EachIs (fun v (e : V × PyData) => RelV e.1 v) us es → Vals (es.map (·.1)) us
  | [], _, .nil => .nil
  | _ :: _, _, .cons a t => .cons a (pairs_each t)
abbrev keyed (es : List (V × PyData)) : List (V × PyData) := es.mergeSort (PySem.W.dataLe false fun e => e.2)
def rSortK (K : PySem.W.Frag) (f : Addr) (sp : Sp) : List V → List V → Hp → VK → Prop := fun vs zs H Q => ∃ (l : Addr) (es : List (V × PyData)), vs = [.ref l] ∧ zs = [.ref f] ∧ SqL K H l (es.map (·.1)) ∧ PySem.W.AllAlike (es.map (·.2)) ∧ PySem.W.Sortable (es.map (·.2)) ∧ (∀ e ∈ es, e.2.depth ≤ 60) ∧
  (∀ e ∈ es, ∀ H1, Same H H1 → ∀ Q1 : VK, (∀ v H2, Same H1 H2 → Dp K H2 v e.2 → Q1 v H2) → sp [e.1] H1 Q1 E0) ∧ ∀ (p : Addr) (H1 : Hp), H p = none → Same H H1 → H1 p = some (.lst ((keyed es).map (·.1))) → Q (.ref p) H1
theorem cr_sortK {X : Cx} {k : Nat} {f : Addr} {fd : FuncData} {p1 : Str} {sp : Sp} (F : FnOk X.prog X.w X.K X.mg X.base CX0 k f fd [p1] sp) (hr : Room (k + 2) X.A) (hb : Binds X.K fd [p1] []) : CallRK X (.builtin "sorted") [Str.ofString "key"] (rSortK X.K f sp) := by
  rintro pins s σ H vs zs us ws Q I r rz ⟨l, es, rfl, rfl, hs, al, so, dp, key, q⟩
  obtain rfl := Vals.ref1 r
  obtain rfl := Vals.ref1 rz
  obtain ⟨its, rv, hl, hz⟩ := I.list hs
  have hlen : its.length = es.length := by rw [← rv.length, List.length_map]
  have hZ : its.length ≤ sizeLine := by rw [← rv.length]; exact hz
  have rB : Room k X.A.in1.in1 := hr.in1.in1
  have uB : X.A.in1.in1.units + 64 < cLine := rB.units
  refine PySem.W.sorted_of_sort (vs := its) hl.isList hZ (PyProof.Rows.ksk_s1 _ _) (fun _ => PyProof.Rows.ksk_l1 _ _) fun E' => ?_
  show wpAny _ X.A.in1.in1 (Builtin.«list.sort» ⟨[.ref (s.heap.objs.size + 1)], [(Str.ofString "key", .ref f)]⟩) _ _ _
  rw [PyProof.Rows.ksk_t1]
  generalize ha : s.heap.objs.size + 1 = a
  have ho : (PySem.W.copyHeap s.heap its).get? a = some (seqObj "list" its.toArray 0) := by rw [← ha]; exact PySem.W.copyHeap_at s.heap its
  obtain ⟨e1, ho1⟩ : ∃ e1, ((PySem.W.copyHeap s.heap its).update a (Obj.mapSeq fun _ => (#[] : Array Value))).get? a = some (seqObj "list" #[] e1) := ⟨_, get?_update_seq ho fun _ => #[]⟩
  have hsz0 : a < (PySem.W.copyHeap s.heap its).objs.size := Heap.lt_size ho
  unfold PyProof.Rows.ksk_tree
  refine wpAny_bind (listItems_at ho rfl ?_)
  refine wpAny_bind (listUpdate_at ho rfl ?_ (by rw [List.size_toArray]; exact hZ) (Nat.zero_le _))
  refine wpAny_bind (seqEpoch_at ho1 rfl ?_)
  refine wpAny_bind (wpAny_newTuple ?_ hZ)
  refine wpAny_bind (wpAny_newList ?_ (Nat.zero_le _))
  refine wpAny_holding ?_
  generalize hk : (((PySem.W.copyHeap s.heap its).update a (Obj.mapSeq fun _ => (#[] : Array Value))).push (seqObj "tuple" its.toArray 0)).objs.size = kS
  generalize hg : (((PySem.W.copyHeap s.heap its).update a (Obj.mapSeq fun _ => (#[] : Array Value))).push (seqObj "tuple" its.toArray 0)).push (seqObj "list" #[] 0) = g
  have size_g : s.heap.objs.size < kS := by
    rw [← hk, size_push', Heap.size_update]
    omega
  have hka : kS ≠ a := by
    rw [← hk, size_push', Heap.size_update]
    omega
  have old : ∀ b o, s.heap.get? b = some o → g.get? b = some o := fun b o e => by
    rw [← hg]
    refine Heap.get?_push_of_some _ (Heap.get?_push_of_some _ ((Heap.get?_update_ne _ _ _ _ (Nat.ne_of_lt ?_)).trans (PySem.W.copyHeap_old e)))
    exact Nat.lt_of_lt_of_le (Heap.lt_size e) (by omega)
  have ga : g.get? a = some (seqObj "list" #[] e1) := by
    rw [← hg]
    exact Heap.get?_push_of_some _ (Heap.get?_push_of_some _ ho1)
  have gk : g.get? kS = some (seqObj "list" #[] 0) := by
    rw [← hg, ← hk]
    exact Heap.get?_push_size _ rfl
  have fa : ∀ {H1 : Hp}, H1 a = none → FpOk X pins H1 a := fun n => I.fpOk (by omega) n
  have fk : ∀ {H1 : Hp}, H1 kS = none → FpOk X pins H1 kS := fun n => I.fpOk (by omega) n
  -- the two lists of the sort are held as pins
  have pin : ∀ {H1 : Hp} {s1 : Shared} {kA : Array Value} {n : Nat}, Inv X pins σ H1 s1 → H1 a = none → H1 kS = none → s1.heap.get? a = some (seqObj "list" #[] e1) → s1.heap.get? kS = some (seqObj "list" kA n) → Inv X (pins ++ [(a, seqObj "list" #[] e1), (kS, seqObj "list" kA n)]) σ H1 s1 := fun {H1 s1 kA n} J na nk ea ek => by
    refine J.pins_of fun p hp => ?_
    rcases List.mem_append.mp hp with h | h
    · exact J.pin p (List.mem_append_right _ h)
    · rcases List.mem_cons.mp h with rfl | h
      · exact ⟨ea, na, (fa na).2.1, (fa na).2.2.1, fun v z => by cases z⟩
      · rw [List.mem_singleton.mp h]
        exact ⟨ek, nk, (fk nk).2.1, (fk nk).2.2.1, fun v z => by cases z⟩
  have I0 : Inv X pins σ H { s with heap := g } := I.kept (t' := s.toks) old
  have na0 : H a = none := I.hok.fresh (by omega)
  have nk0 : H kS = none := I.hok.fresh (by omega)
  unfold PyProof.Rows.ksk_rest
  refine wpAny_bind (wpAny_rule ?_)
  first
    | rw [List.forIn_toArray]
    | (rw [← Array.forIn_toList]; simp only [List.toList_toArray])
  refine wpAny_bind (PyProof.Rows.ksk_fold (fun i s' => ∃ H1 kA n kv, Same H H1 ∧ Inv X (pins ++ [(a, seqObj "list" #[] e1), (kS, seqObj "list" kA n)]) σ H1 s' ∧ Vals kv kA.toList ∧ DpAll X.K H1 kv ((es.take i).map (·.2))) its 0 _
    ⟨H, #[], 0, [], fun _ _ e => e, pin I0 na0 nk0 ga gk, .nil, .nil⟩ ?step ?done)
  case step =>
    rintro j u s1 hu ⟨H1, kA, n, kv, sm, J, vk, dk⟩
    rw [Nat.zero_add] at dk ⊢
    obtain ⟨v, hv, rel⟩ := vals_get rv hu
    rw [List.getElem?_map] at hv
    obtain ⟨e, he, rfl⟩ := Option.map_eq_some_iff.mp hv
    have pa := J.pin (a, seqObj "list" #[] e1) (by simp)
    have pk := J.pin (kS, seqObj "list" kA n) (by simp)
    have hj : j < its.length := (List.getElem?_eq_some_iff.mp hu).1
    have ck : kA.size ≤ its.length := by
      have h1 : kv.length = kA.size := vk.length.trans Array.length_toList
      have h2 := DpAll.len dk
      rw [List.length_map, List.length_take] at h2
      omega
    have E1 := J.env0
    have sp1 := key e (List.mem_of_getElem? he) H1 sm (fun v H2 => Same H1 H2 ∧ Dp X.K H2 v e.2) fun v H2 h1 h2 => ⟨h1, h2⟩
    refine wpAny_bind (wpAny_attempt ?_)
    refine wpAny_call (codeAny_mono (F.run X.A.in1.in1 X.stack s1 H1 ⟨[u], []⟩ [u] [e.1] _ E0 rB ⟨E1.frames, E1.mod, E1.bs, E1.bsz, E1.funs, E1.frf, E1.hok, E1.bare⟩ (hb s1 [u] J.kIn rfl) (.cons rel .nil) sp1) ?_)
    rintro r s2 hq
    cases r with
    | error e => exact False.elim hq
    | ok fl =>
      cases fl with
      | next => exact False.elim hq
      | brk => exact False.elim hq
      | cont => exact False.elim hq
      | ret x =>
        obtain ⟨v2, H2, J2, rel2, sm2, dp2⟩ := J.after hq
        have pa2 := J2.pin (a, seqObj "list" #[] e1) (by simp)
        have pk2 := J2.pin (kS, seqObj "list" kA n) (by simp)
        have J3 : Inv X pins σ H2 s2 := J2.unpinned
        obtain ⟨c2, hc2⟩ : ∃ c2, (s2.heap.update kS (Obj.mapSeq (·.push x))).get? kS = some (seqObj "list" (kA.push x) c2) := ⟨_, get?_update_seq pk2.1 (·.push x)⟩
        have sb := Heap.SameBut.update s2.heap kS (Obj.mapSeq (·.push x))
        show wpAny _ _ _ _ _ _
        refine wpAny_bind (listUpdate_at pk2.1 rfl ?_ (Nat.le_trans ck hZ) (Nat.le_trans (Nat.le_of_eq (Array.size_push ..)) (Nat.succ_le_succ (Nat.le_trans ck hZ))))
        have J4 : Inv X pins σ H2 { s2 with heap := s2.heap.update kS (Obj.mapSeq (·.push x)), toks := s2.toks } := J3.turnedL (ch := [kS]) (fun b o hb e => (sb.2 b (fun z => hb (by simp [z]))).trans e) fun b hb => by rw [List.mem_singleton.mp hb]; exact fk pk2.2.1
        refine wpAny_pure ⟨rfl, H2, kA.push x, c2, kv ++ [v2], fun b o e => sm2 b o (sm b o e), pin J4 pa2.2.1 pk2.2.1 ((sb.2 a hka.symm).trans pa2.1) hc2, ?_, ?_⟩
        · rw [Array.toList_push]
          exact vals_snoc vk rel2
        · rw [List.take_add_one, he, List.map_append]
          exact DpAll.snoc (DpAll.on sm2 dk) dp2
  case done =>
    rintro s1 ⟨H1, kA, n, kv, sm, J, vk, dk⟩
    have pa := J.pin (a, seqObj "list" #[] e1) (by simp)
    have pk := J.pin (kS, seqObj "list" kA n) (by simp)
    have J1 : Inv X pins σ H1 s1 := J.unpinned
    rw [Nat.zero_add, hlen, List.take_length] at dk
    have hk1 := each_dp J dk vk
    have sz : kA.size = its.length := by
      have h1 : kv.length = kA.size := vk.length.trans Array.length_toList
      have h2 := DpAll.len dk
      rw [List.length_map] at h2
      omega
    have hu : ∀ d, d ∈ es.map (·.2) → X.A.in1.in1.units + d.depth < cLine := fun d hd => by
      obtain ⟨e, he, rfl⟩ := List.mem_map.mp hd
      have := dp e he
      omega
    obtain ⟨G, g1, g2⟩ := L2.restrict s1.heap fun b => decide (b ≠ kS)
    have kp : PySem.W.KeepsBut a G s1.heap := fun b o _ e => by
      by_cases z : b = kS
      · rw [g2 b (decide_eq_false fun h => h z)] at e
        cases e
      · rw [g1 b (decide_eq_true z)] at e
        exact e
    refine wpAny_bind (listItems_at pk.1 rfl ?_)
    refine PySem.W.keyH_end (κ := PySem.W.dataKind s1.heap (es.map (·.2))) (h₁ := G) kp (g2 kS (decide_eq_false fun h => h rfl)) pk.1 pa.1 hka (PySem.W.SortsAt.data hk1 al so hu) sz hZ fun h3 tk3 c k3 n3 => ⟨rfl, ?_⟩
    have ko : PySem.W.KeyedOut false (es.map (·.2)) its (PySem.W.sortVals (PySem.W.dataKind s1.heap (es.map (·.2))) false kA.toList its) := ⟨s1.heap, kA.toList, al, rfl, hk1⟩
    have out := pairs_each (PySem.W.keyedOut_each (fun e : V × PyData => e.2) ko (each_pairs rv))
    have J2 : Inv X pins σ H1 { s1 with heap := h3, toks := tk3 } := J1.turnedL (ch := [a, kS]) (fun b o hb e => k3 b o (fun z => hb (by simp [z])) ((g1 b (decide_eq_true fun z => hb (by simp [z]))).trans e)) fun b hb => by
      rcases List.mem_cons.mp hb with rfl | h
      · exact fa pa.2.1
      · rw [List.mem_singleton.mp h]
        exact fk pk.2.1
    have lo : ((keyed es).map (·.1)).length ≤ sizeLine := by
      rw [List.length_map, List.length_mergeSort, ← hlen]
      exact hZ
    refine ⟨.ref a, upd H1 a (.lst ((keyed es).map (·.1))), J2.take (it := a) (fun b o _ e => e) (fa pa.2.1) ⟨lo, _, c, out, n3⟩, rfl, q a _ na0 (fun b o e => (upd_ne (ne_of_none e na0)).trans (sm b o e)) upd_same⟩
/-! ### sorted of a tuple, by a key def -/
section
open PySem.W
variable {prog : Program} {w : World} {A : Around} {E : Value → Shared → Prop} {s : Shared}
theorem collect_tupleT {l : Addr} {vs : List Value} {o : Obj} {n : Nat} {Q : List Value → Shared → Prop} (ho : s.heap.get? l = some o) (hc : o.cls = .type "tuple") (hd : o.data = .seq vs.toArray n)
    (h : Q vs { s with heap := (s.heap.push (seqObj "list" #[] 0)).update s.heap.objs.size (Obj.mapSeq (· ++ vs.toArray)) }) (hsz : vs.length ≤ sizeLine) :
    wpAny (model prog w) A (collect (.ref l)) Q E s := by
  unfold collect
  refine wpAny_bind (wpAny_runValue (codeAny_builtin entry_proto_collect' ?_))
  show wpAny _ _ (do again (.builtin "list.__iadd__" ⟨[← newList [], .ref l], []⟩)) _ _ s
  refine wpAny_bind (wpAny_newList (wpAny_pure ⟨Code.quiet_builtin _ (by decide +kernel), codeAny_builtin entry_list_iadd' ?_⟩))
  show wpAny _ _ (Builtin.List.listExtendWith (.ref s.heap.objs.size) (.ref l) (.ref s.heap.objs.size)) _ _ { s with heap := s.heap.push (seqObj "list" #[] 0) }
  unfold Builtin.List.listExtendWith
  have ho' : (s.heap.push (seqObj "list" #[] 0)).get? l = some o := Heap.get?_push_of_some _ ho
  refine wpAny_bind (wpAny_typeOf (T := "tuple") ⟨o, ho', hc⟩ ?_)
  have ht : (Value.type "tuple" == Value.type "tuple") = true := by rfl
  rw [if_pos (by rw [ht]; simp)]
  refine wpAny_bind (listItems_at ho' hd ?_)
  refine wpAny_bind (listItems_at (xs := #[]) (n := 0) (Heap.get?_push_size _ rfl) rfl ?_)
  rw [if_neg (by simp)]
  refine wpAny_bind (listUpdate_at (xs := #[]) (n := 0) (Heap.get?_push_size _ rfl) rfl ?_ (Nat.zero_le _) (by show (#[] ++ vs.toArray).size ≤ sizeLine + 1; simp only [Array.size_append, List.size_toArray, List.length_nil]; omega))
  refine wpAny_pure ?_
  show wpAny (model prog w) A (do
      let o ← load s.heap.objs.size
      match o.data with
      | .seq xs _ => pure xs.toList
      | _ => unsupported "internal:collect") Q E { s with heap := (s.heap.push (seqObj "list" #[] 0)).update s.heap.objs.size (Obj.mapSeq (· ++ vs.toArray)) }
  refine wpAny_bind (wpAny_load (get?_update_seq (Heap.get?_push_size _ rfl) _) ?_)
  show wpAny _ _ (pure ((#[] : Array Value) ++ vs.toArray).toList) Q E _
  rw [show ((#[] : Array Value) ++ vs.toArray).toList = vs by simp]
  exact wpAny_pure h
theorem sorted_of_sortT {l : Addr} {vs : List Value} {o : Obj} {n : Nat} {kw : List (Str × Value)} {Q : Value → Shared → Prop} (ho : s.heap.get? l = some o) (hc : o.cls = .type "tuple") (hd : o.data = .seq vs.toArray n) (hL : vs.length ≤ sizeLine) (ha1 : argsOk "sorted" ⟨[.ref l], kw⟩) (ha2 : ∀ x, argsOk "list.sort" ⟨[.ref x], kw⟩)
    (body : ∀ E' : Value → Shared → Prop, wpAny (model prog w) A.in1.in1 (Builtin.«list.sort» ⟨[.ref (s.heap.objs.size + 1)], kw⟩) (fun f s' => f = .done (.ret .none) ∧ Q (.ref (s.heap.objs.size + 1)) s') E' { s with heap := copyHeap s.heap vs }) :
    wpAny (model prog w) A (call (.builtin "sorted") [.ref l] kw) Q E s := by
  refine call_function_entry_kw kind_sorted plain_sorted entry_sorted ha1 ?_
  unfold Builtin.«sorted»
  refine wpAny_bind (m := checkCount "sorted" 1 1 _) (wpAny_pure ?_)
  refine wpAny_bind (collect_tupleT ho hc hd ?_ hL)
  refine wpAny_bind (wpAny_newList ?_ hL)
  have hsz : ((s.heap.push (seqObj "list" #[] 0)).update s.heap.objs.size (Obj.mapSeq (· ++ vs.toArray))).objs.size = s.heap.objs.size + 1 := by
    rw [Heap.size_update, size_push']
  show wpAny _ _ _ _ _ { s with heap := copyHeap s.heap vs }
  rw [hsz]
  refine wpAny_bind (wpAny_holding (wpAny_call_entry_kw slot_list_sort ⟨_, copyHeap_at s.heap vs, rfl⟩ entry_list_sort ?body (ha2 _)))
  case body =>
    show wpAny (model prog w) A.in1.in1 (Builtin.«list.sort» ⟨[.ref (s.heap.objs.size + 1)], kw⟩) _ _ _
    refine wpAny_mono (body _) (fun f s' hf => ?_) fun _ _ e => e
    obtain ⟨rfl, hq⟩ := hf
    exact ⟨_, rfl, wpAny_pure ⟨_, rfl, hq⟩⟩
end
def rSortKT (K : PySem.W.Frag) (f : Addr) (sp : Sp) : List V → List V → Hp → VK → Prop := fun vs zs H Q => ∃ (l : Addr) (es : List (V × PyData)), vs = [.ref l] ∧ zs = [.ref f] ∧ SqT K H l (es.map (·.1)) ∧ PySem.W.AllAlike (es.map (·.2)) ∧ PySem.W.Sortable (es.map (·.2)) ∧ (∀ e ∈ es, e.2.depth ≤ 60) ∧
  (∀ e ∈ es, ∀ H1, Same H H1 → ∀ Q1 : VK, (∀ v H2, Same H1 H2 → Dp K H2 v e.2 → Q1 v H2) → sp [e.1] H1 Q1 E0) ∧ ∀ (p : Addr) (H1 : Hp), H p = none → Same H H1 → H1 p = some (.lst ((keyed es).map (·.1))) → Q (.ref p) H1
theorem cr_sortKT {X : Cx} {k : Nat} {f : Addr} {fd : FuncData} {p1 : Str} {sp : Sp} (F : FnOk X.prog X.w X.K X.mg X.base CX0 k f fd [p1] sp) (hr : Room (k + 2) X.A) (hb : Binds X.K fd [p1] []) : CallRK X (.builtin "sorted") [Str.ofString "key"] (rSortKT X.K f sp) := by
  rintro pins s σ H vs zs us ws Q I r rz ⟨l, es, rfl, rfl, hs, al, so, dp, key, q⟩
  obtain rfl := Vals.ref1 r
  obtain rfl := Vals.ref1 rz
  obtain ⟨its, rv, ⟨ot, ho1, hc1, no1, hd1⟩, hz⟩ := I.tuple hs
  have hlen : its.length = es.length := by rw [← rv.length, List.length_map]
  have hZ : its.length ≤ sizeLine := by rw [← rv.length]; exact hz
  have rB : Room k X.A.in1.in1 := hr.in1.in1
  have uB : X.A.in1.in1.units + 64 < cLine := rB.units
  refine sorted_of_sortT (vs := its) ho1 hc1 hd1 hZ (PyProof.Rows.ksk_s1 _ _) (fun _ => PyProof.Rows.ksk_l1 _ _) fun E' => ?_
  show wpAny _ X.A.in1.in1 (Builtin.«list.sort» ⟨[.ref (s.heap.objs.size + 1)], [(Str.ofString "key", .ref f)]⟩) _ _ _
  rw [PyProof.Rows.ksk_t1]
  generalize ha : s.heap.objs.size + 1 = a
  have ho : (PySem.W.copyHeap s.heap its).get? a = some (seqObj "list" its.toArray 0) := by rw [← ha]; exact PySem.W.copyHeap_at s.heap its
  obtain ⟨e1, ho1⟩ : ∃ e1, ((PySem.W.copyHeap s.heap its).update a (Obj.mapSeq fun _ => (#[] : Array Value))).get? a = some (seqObj "list" #[] e1) := ⟨_, get?_update_seq ho fun _ => #[]⟩
  have hsz0 : a < (PySem.W.copyHeap s.heap its).objs.size := Heap.lt_size ho
  unfold PyProof.Rows.ksk_tree
  refine wpAny_bind (listItems_at ho rfl ?_)
  refine wpAny_bind (listUpdate_at ho rfl ?_ (by rw [List.size_toArray]; exact hZ) (Nat.zero_le _))
  refine wpAny_bind (seqEpoch_at ho1 rfl ?_)
  refine wpAny_bind (wpAny_newTuple ?_ hZ)
  refine wpAny_bind (wpAny_newList ?_ (Nat.zero_le _))
  refine wpAny_holding ?_
  generalize hk : (((PySem.W.copyHeap s.heap its).update a (Obj.mapSeq fun _ => (#[] : Array Value))).push (seqObj "tuple" its.toArray 0)).objs.size = kS
  generalize hg : (((PySem.W.copyHeap s.heap its).update a (Obj.mapSeq fun _ => (#[] : Array Value))).push (seqObj "tuple" its.toArray 0)).push (seqObj "list" #[] 0) = g
  have size_g : s.heap.objs.size < kS := by
    rw [← hk, size_push', Heap.size_update]
    omega
  have hka : kS ≠ a := by
    rw [← hk, size_push', Heap.size_update]
    omega
  have old : ∀ b o, s.heap.get? b = some o → g.get? b = some o := fun b o e => by
    rw [← hg]
    refine Heap.get?_push_of_some _ (Heap.get?_push_of_some _ ((Heap.get?_update_ne _ _ _ _ (Nat.ne_of_lt ?_)).trans (PySem.W.copyHeap_old e)))
    exact Nat.lt_of_lt_of_le (Heap.lt_size e) (by omega)
  have ga : g.get? a = some (seqObj "list" #[] e1) := by
    rw [← hg]
    exact Heap.get?_push_of_some _ (Heap.get?_push_of_some _ ho1)
  have gk : g.get? kS = some (seqObj "list" #[] 0) := by
    rw [← hg, ← hk]
    exact Heap.get?_push_size _ rfl
  have fa : ∀ {H1 : Hp}, H1 a = none → FpOk X pins H1 a := fun n => I.fpOk (by omega) n
  have fk : ∀ {H1 : Hp}, H1 kS = none → FpOk X pins H1 kS := fun n => I.fpOk (by omega) n
  -- the two lists of the sort are held as pins
  have pin : ∀ {H1 : Hp} {s1 : Shared} {kA : Array Value} {n : Nat}, Inv X pins σ H1 s1 → H1 a = none → H1 kS = none → s1.heap.get? a = some (seqObj "list" #[] e1) → s1.heap.get? kS = some (seqObj "list" kA n) → Inv X (pins ++ [(a, seqObj "list" #[] e1), (kS, seqObj "list" kA n)]) σ H1 s1 := fun {H1 s1 kA n} J na nk ea ek => by
    refine J.pins_of fun p hp => ?_
    rcases List.mem_append.mp hp with h | h
    · exact J.pin p (List.mem_append_right _ h)
    · rcases List.mem_cons.mp h with rfl | h
      · exact ⟨ea, na, (fa na).2.1, (fa na).2.2.1, fun v z => by cases z⟩
      · rw [List.mem_singleton.mp h]
        exact ⟨ek, nk, (fk nk).2.1, (fk nk).2.2.1, fun v z => by cases z⟩
  have I0 : Inv X pins σ H { s with heap := g } := I.kept (t' := s.toks) old
  have na0 : H a = none := I.hok.fresh (by omega)
  have nk0 : H kS = none := I.hok.fresh (by omega)
  unfold PyProof.Rows.ksk_rest
  refine wpAny_bind (wpAny_rule ?_)
  first
    | rw [List.forIn_toArray]
    | (rw [← Array.forIn_toList]; simp only [List.toList_toArray])
  refine wpAny_bind (PyProof.Rows.ksk_fold (fun i s' => ∃ H1 kA n kv, Same H H1 ∧ Inv X (pins ++ [(a, seqObj "list" #[] e1), (kS, seqObj "list" kA n)]) σ H1 s' ∧ Vals kv kA.toList ∧ DpAll X.K H1 kv ((es.take i).map (·.2))) its 0 _
    ⟨H, #[], 0, [], fun _ _ e => e, pin I0 na0 nk0 ga gk, .nil, .nil⟩ ?step ?done)
  case step =>
    rintro j u s1 hu ⟨H1, kA, n, kv, sm, J, vk, dk⟩
    rw [Nat.zero_add] at dk ⊢
    obtain ⟨v, hv, rel⟩ := vals_get rv hu
    rw [List.getElem?_map] at hv
    obtain ⟨e, he, rfl⟩ := Option.map_eq_some_iff.mp hv
    have pa := J.pin (a, seqObj "list" #[] e1) (by simp)
    have pk := J.pin (kS, seqObj "list" kA n) (by simp)
    have hj : j < its.length := (List.getElem?_eq_some_iff.mp hu).1
    have ck : kA.size ≤ its.length := by
      have h1 : kv.length = kA.size := vk.length.trans Array.length_toList
      have h2 := DpAll.len dk
      rw [List.length_map, List.length_take] at h2
      omega
    have E1 := J.env0
    have sp1 := key e (List.mem_of_getElem? he) H1 sm (fun v H2 => Same H1 H2 ∧ Dp X.K H2 v e.2) fun v H2 h1 h2 => ⟨h1, h2⟩
    refine wpAny_bind (wpAny_attempt ?_)
    refine wpAny_call (codeAny_mono (F.run X.A.in1.in1 X.stack s1 H1 ⟨[u], []⟩ [u] [e.1] _ E0 rB ⟨E1.frames, E1.mod, E1.bs, E1.bsz, E1.funs, E1.frf, E1.hok, E1.bare⟩ (hb s1 [u] J.kIn rfl) (.cons rel .nil) sp1) ?_)
    rintro r s2 hq
    cases r with
    | error e => exact False.elim hq
    | ok fl =>
      cases fl with
      | next => exact False.elim hq
      | brk => exact False.elim hq
      | cont => exact False.elim hq
      | ret x =>
        obtain ⟨v2, H2, J2, rel2, sm2, dp2⟩ := J.after hq
        have pa2 := J2.pin (a, seqObj "list" #[] e1) (by simp)
        have pk2 := J2.pin (kS, seqObj "list" kA n) (by simp)
        have J3 : Inv X pins σ H2 s2 := J2.unpinned
        obtain ⟨c2, hc2⟩ : ∃ c2, (s2.heap.update kS (Obj.mapSeq (·.push x))).get? kS = some (seqObj "list" (kA.push x) c2) := ⟨_, get?_update_seq pk2.1 (·.push x)⟩
        have sb := Heap.SameBut.update s2.heap kS (Obj.mapSeq (·.push x))
        show wpAny _ _ _ _ _ _
        refine wpAny_bind (listUpdate_at pk2.1 rfl ?_ (Nat.le_trans ck hZ) (Nat.le_trans (Nat.le_of_eq (Array.size_push ..)) (Nat.succ_le_succ (Nat.le_trans ck hZ))))
        have J4 : Inv X pins σ H2 { s2 with heap := s2.heap.update kS (Obj.mapSeq (·.push x)), toks := s2.toks } := J3.turnedL (ch := [kS]) (fun b o hb e => (sb.2 b (fun z => hb (by simp [z]))).trans e) fun b hb => by rw [List.mem_singleton.mp hb]; exact fk pk2.2.1
        refine wpAny_pure ⟨rfl, H2, kA.push x, c2, kv ++ [v2], fun b o e => sm2 b o (sm b o e), pin J4 pa2.2.1 pk2.2.1 ((sb.2 a hka.symm).trans pa2.1) hc2, ?_, ?_⟩
        · rw [Array.toList_push]
          exact vals_snoc vk rel2
        · rw [List.take_add_one, he, List.map_append]
          exact DpAll.snoc (DpAll.on sm2 dk) dp2
  case done =>
    rintro s1 ⟨H1, kA, n, kv, sm, J, vk, dk⟩
    have pa := J.pin (a, seqObj "list" #[] e1) (by simp)
    have pk := J.pin (kS, seqObj "list" kA n) (by simp)
    have J1 : Inv X pins σ H1 s1 := J.unpinned
    rw [Nat.zero_add, hlen, List.take_length] at dk
    have hk1 := each_dp J dk vk
    have sz : kA.size = its.length := by
      have h1 : kv.length = kA.size := vk.length.trans Array.length_toList
      have h2 := DpAll.len dk
      rw [List.length_map] at h2
      omega
    have hu : ∀ d, d ∈ es.map (·.2) → X.A.in1.in1.units + d.depth < cLine := fun d hd => by
      obtain ⟨e, he, rfl⟩ := List.mem_map.mp hd
      have := dp e he
      omega
    obtain ⟨G, g1, g2⟩ := L2.restrict s1.heap fun b => decide (b ≠ kS)
    have kp : PySem.W.KeepsBut a G s1.heap := fun b o _ e => by
      by_cases z : b = kS
      · rw [g2 b (decide_eq_false fun h => h z)] at e
        cases e
      · rw [g1 b (decide_eq_true z)] at e
        exact e
    refine wpAny_bind (listItems_at pk.1 rfl ?_)
    refine PySem.W.keyH_end (κ := PySem.W.dataKind s1.heap (es.map (·.2))) (h₁ := G) kp (g2 kS (decide_eq_false fun h => h rfl)) pk.1 pa.1 hka (PySem.W.SortsAt.data hk1 al so hu) sz hZ fun h3 tk3 c k3 n3 => ⟨rfl, ?_⟩
    have ko : PySem.W.KeyedOut false (es.map (·.2)) its (PySem.W.sortVals (PySem.W.dataKind s1.heap (es.map (·.2))) false kA.toList its) := ⟨s1.heap, kA.toList, al, rfl, hk1⟩
    have out := pairs_each (PySem.W.keyedOut_each (fun e : V × PyData => e.2) ko (each_pairs rv))
    have J2 : Inv X pins σ H1 { s1 with heap := h3, toks := tk3 } := J1.turnedL (ch := [a, kS]) (fun b o hb e => k3 b o (fun z => hb (by simp [z])) ((g1 b (decide_eq_true fun z => hb (by simp [z]))).trans e)) fun b hb => by
      rcases List.mem_cons.mp hb with rfl | h
      · exact fa pa.2.1
      · rw [List.mem_singleton.mp h]
        exact fk pk.2.1
    have lo : ((keyed es).map (·.1)).length ≤ sizeLine := by
      rw [List.length_map, List.length_mergeSort, ← hlen]
      exact hZ
    refine ⟨.ref a, upd H1 a (.lst ((keyed es).map (·.1))), J2.take (it := a) (fun b o _ e => e) (fa pa.2.1) ⟨lo, _, c, out, n3⟩, rfl, q a _ na0 (fun b o e => (upd_ne (ne_of_none e na0)).trans (sm b o e)) upd_same⟩
/-! ### generator expressions whose parts may call: the generator's own frame as a context -/
abbrev gxc (X : Cx) (A' : Around) (s : Shared) (H : Hp) (ce : Env) (fp : List Addr) : Cx :=
  { X with A := A', s_0 := s, H_0 := H, env := ce, outer := X.stack, stack := ce :: X.stack, ex := fp, fn := fun _ => false, calm := true, pn := [], xe := fun _ _ => False }
abbrev genE (X : Cx) (scope : Scope) (C : Addr) (code : Value) : Env := genEnv scope (cloFrom X.env.cells scope.names []) C code builtinsNs X.env
structure GOk (N : List Str) (sc scope : Scope) (own : List (Str × Nat)) : Prop where
  blk : BlkOk N sc scope own
  co : scope.isCoroutine = false
  cell : ∀ y ∈ scope.names, y.2 ≠ .cell
  dot : scope.names.lookup (".0" : Str) = some NameKind.local
section
variable {X : Cx} {pins : List (Addr × Obj)} {σ : L2.St} {H : Hp} {s : Shared}
theorem gx_free {N : List Str} {scope : Scope} {own : List (Str × Nat)} (I : Inv X pins σ H s) (ok : GOk N X.env.scope scope own) : ∀ y ∈ scope.names, y.2 = .free → ∃ c, X.env.cells.lookup y.1 = some c := fun y hy e => by
  rcases ok.blk.free y hy e with k | k
  · exact I.ok.has _ (.inl k)
  · exact I.ok.has _ (.inr k)
/-- the generator's frame and the generator itself have come -/
theorem gx_start {scope : Scope} {own : List (Str × Nat)} {fp : List Addr} {A' : Around} {code it : Value} {h' : Heap} {oG : Obj} {g' : Array GenState} {t' : Nat} (I : Inv X pins σ H s) (ok : GOk X.N X.env.scope scope own) (hN : X.N.Nodup)
    (hfp : ∀ b ∈ fp, FpOk X pins H b ∧ b < s.heap.objs.size) (hA : A'.handled = none) (hfr : A'.frames = some (genE X scope s.heap.objs.size code :: X.stack))
    (hn : h'.Ns s.heap.objs.size (fun y => if y = ".0" then some it else none)) (hs : Heap.SameBut s.heap.objs.size (s.heap.push { cls := .type "frame", data := .dict #[] }) h')
    (hG : ∀ v, oG.data ≠ .cell v) (hb : AllBare g') (fG : oG.isFreed = false) :
    Inv (gxc X A' s H (genE X scope s.heap.objs.size code) fp) [(h'.objs.size, oG)] (wipe σ (own.map (·.2))) H { s with gens := g', toks := t', heap := h'.push oG } := by
  have sz : h'.objs.size = s.heap.objs.size + 1 := by rw [hs.1, Heap.size_push]
  have k1 : ∀ b o, s.heap.get? b = some o → h'.get? b = some o := fun b o e => hs.extBut b o (Nat.ne_of_lt (Heap.lt_size e)) (Heap.get?_push_of_some _ e)
  have kp : ∀ b o, s.heap.get? b = some o → (h'.push oG).get? b = some o := fun b o e => Heap.get?_push_of_some _ (k1 b o e)
  have fr := gx_free I ok
  have cm : ∀ {y c}, (cloFrom X.env.cells scope.names []).lookup y = some c → X.env.cells.lookup y = some c ∧ c < s.heap.objs.size ∧ (y, NameKind.free) ∈ scope.names := fun {y c} e => by
    rcases cloFrom_mem (PySem.mem_of_lookup e) with hm | ⟨h1, rfl⟩
    · cases hm
    · obtain ⟨c, hc⟩ := fr _ h1 rfl
      rw [hc]
      obtain ⟨w, z⟩ := I.cell _ _ hc
      exact ⟨rfl, z.lt, h1⟩
  have has : ∀ {y}, (y, NameKind.free) ∈ scope.names → ∃ c, (cloFrom X.env.cells scope.names []).lookup y = some c := fun {y} hy => mem_lookup (cloFrom_has (cells := X.env.cells) (acc := []) hy)
  have uq : ∀ {y k}, (y, k) ∈ scope.names → scope.names.lookup y = some k := fun {y k} h => ok.blk.uniq _ h
  have okG : (gxc X A' s H (genE X scope s.heap.objs.size code) fp).Ok := by
    refine ⟨I.ok.mod, ok.blk.kind, I.ok.glob, rfl, Nat.le_refl _, fun y z c e1 e2 => I.ok.inj y z c (cm e1).1 (cm e2).1, fun y hy => ?_, fun y c z _ => (nomatch z), fun _ => hA, hfr, .inr ⟨rfl, rfl⟩,
      fun b hb => ⟨Nat.ne_of_lt (hfp b hb).2, fun y c e z => (hfp b hb).1.2.2.2.2.1 y c (cm e).1 z⟩, I.bs, Nat.le_trans I.ok.bsz I.sz, fun b o e hb => ?_, fun b hb z => ?_, I.stack, I.stkFree⟩
    · rcases hy with hy | hy
      · exact absurd rfl (ok.cell _ (PySem.mem_of_lookup (show scope.names.lookup y = some .cell from hy)))
      · exact has (PySem.mem_of_lookup (show scope.names.lookup y = some .free from hy))
    · rcases (hfp b hb).1.2.2.2.1 with z | z
      · exact I.ok.noex b o e z
      · exact absurd (Nat.lt_of_lt_of_le (Heap.lt_size e) (Nat.le_trans I.ok.bsz z)) (Nat.lt_irrefl _)
    · rcases List.mem_cons.mp (I.stkSub b z) with z | z
      · exact (hfp b hb).1.2.1 z
      · exact (hfp b hb).1.2.2.1 z
  refine ⟨okG, rfl, hb, Un.kept kp, ⟨_, hn.push oG, fun i y v e1 e2 e3 => ?_⟩, fun y c e => ?_, I.hok.fresh (Nat.le_refl _), fun y c e => I.freeC y c (cm e).1, fun p hp => ?_, I.hok.kept kp, by rw [wipe_length]; exact I.len⟩
  · obtain ⟨e2, hne⟩ := wipe_some e2
    have key : scope.names.lookup y = some .free := by
      have no : ∀ k, scope.names.lookup y = some k → ¬ (k = .local ∨ k = .cell) := fun k hk hh => by
        rcases ok.blk.own _ (PySem.mem_of_lookup hk) hh with e' | e'
        · obtain ⟨p, hp, hpy⟩ := List.mem_map.mp e'
          have e4 := ok.blk.ix p hp
          have : p.1 = y := hpy
          rw [this] at e4
          exact hne (List.mem_map.mpr ⟨p, hp, nodup_ix hN e4 e1⟩)
        · exact e' (List.mem_of_getElem? e1)
      rcases (show Vis scope y from e3) with e3 | e3 | e3
      · exact absurd (.inl rfl) (no _ e3)
      · exact absurd (.inr rfl) (no _ e3)
      · exact e3
    obtain ⟨m, _, hl⟩ := I.loc
    have fy := PySem.mem_of_lookup key
    have hvis : Vis X.env.scope y := (ok.blk.free _ fy rfl).elim (fun k => .inr (.inl k)) (fun k => .inr (.inr k))
    obtain ⟨u, r, q⟩ := hl i y v e1 e2 hvis
    refine ⟨u, r, .inr ⟨.inr key, ?_⟩⟩
    obtain ⟨c, h1⟩ := has fy
    rcases q with ⟨k, _⟩ | ⟨_, c', e', z⟩
    · have k : X.env.scope.names.lookup y = some .local := k
      rcases ok.blk.free _ fy rfl with k' | k' <;> rw [show X.env.scope.names.lookup y = _ from k'] at k <;> cases k
    · have h2 := (cm h1).1
      rw [h2] at e'
      cases e'
      exact ⟨c, h1, z.keeps kp⟩
  · obtain ⟨v, z⟩ := I.cell y c (cm e).1
    exact ⟨v, z.keeps kp⟩
  · have hp' : p = (h'.objs.size, oG) := by simpa using hp
    subst hp'
    have nl : s.heap.objs.size ≤ h'.objs.size := by omega
    refine ⟨Heap.get?_push_size _ fG, I.hok.fresh nl, by show h'.objs.size ≠ s.heap.objs.size; omega, fun z => ?_, hG⟩
    rcases List.mem_cons.mp (I.stkSub _ z) with z | z
    · have := I.lt
      rw [← z] at this
      exact Nat.lt_irrefl _ (Nat.lt_of_lt_of_le this nl)
    · exact I.nofs nl z
end
/-! ### the generator's turns -/
abbrev gxl (X : Cx) (Ag : Around) (elt tg iter : Expr) (ifs : List Expr) (scope : Scope) (gpos : Pos) (it : Addr) (ce : Env) (s3 : Shared) (H3 : Hp) (fp : List Addr) : Cx :=
  gxc X (Ag.over (.compLoop (.GeneratorExp elt [⟨tg, iter, ifs, 0⟩] scope gpos) 0 (.ref it) .none ce) []) s3 H3 ce fp
/-- what stands between two turns: at most m turns are left, the i-th is next -/
def GTurns (J : It) (g : TG) (tt : TT) (te : TE) (vs : List Nat) (σ : L2.St) (W : Nat → Nat → Hp → Prop) (Out : Nat → Nat → V → Hp → Prop) (Fin : Hp → Prop) : Prop :=
  ∀ i m H, W i m H → (J.stop i H ∧ Fin H) ∨ (J.go i H ∧ ∀ x H', J.yld i H x H' → g x (wipe σ vs) H' fun σ2 H2 => wipe σ2 vs = wipe σ vs ∧ tt σ2 H2 fun b H3 =>
    if b = true then te σ2 H3 fun y H4 => Out i m y H4 else ∃ m', m' < m ∧ W (i + 1) m' H3)
def gxY (IG : Hp → Shared → Prop) (tn : Nat → Heap → Prop) (fp : List Addr) (W : Nat → Nat → Hp → Prop) (Out : Nat → Nat → V → Hp → Prop) (gn : Nat) : Protocol := fun n _ v s kap =>
  ∃ i m y H, RelV y v ∧ IG H s ∧ tn (i + 1) s.heap ∧ (∀ b ∈ fp, H b = none) ∧ Out i m y H ∧ gn < s.gens.size ∧ m ≤ n ∧
    ∀ m', m' < m → W (i + 1) m' H → ∀ s'' : Shared, IG H s'' → tn (i + 1) s''.heap → gn < s''.gens.size → kap (.send .none) s''
def gxR (IG : Hp → Shared → Prop) (Fin : Hp → Prop) : Nat → Shared → Shared → Prop := fun _ _ s1 => ∃ H, IG H s1 ∧ Fin H
section
variable {X : Cx} {σ : L2.St} {Ag : Around} {tg elt iter : Expr} {ifs : List Expr} {scope : Scope} {gpos : Pos} {it a : Addr} {oG : Obj} {ce : Env} {fp : List Addr} {s3 : Shared} {H3 : Hp} {tn : Nat → Heap → Prop} {J : It} {vs : List Nat} {gn : Nat}
  {g : TG} {tt : TT} {te : TE} {W : Nat → Nat → Hp → Prop} {Out : Nat → Nat → V → Hp → Prop} {Fin : Hp → Prop}
theorem gx_stat {σ' : L2.St} {H' : Hp} {s' : Shared} {A' : Around} (I' : Inv (gxc X A' s3 H3 ce fp) [(a, oG)] σ' H' s') (na : a ∉ fp) (hn : ∀ b ∈ fp, H' b = none) : ∀ b ∈ fp, FpOk (gxc X A' s3 H3 ce fp) [(a, oG)] H' b := fun b hb => by
  refine ⟨hn b hb, (I'.ok.exf b hb).1, I'.ok.exfs b hb, .inl hb, fun x c e => (I'.ok.exf b hb).2 x c e, fun p hp z => ?_⟩
  have hp' : p = (a, oG) := by simpa using hp
  subst hp'
  have z' : a = b := z
  exact na (z' ▸ hb)
theorem gx_seg (T : Turn X.prog X.w X.K tg J fp it tn) (na : a ∉ fp) (hco : ce.scope.isCoroutine = false)
    (pg : PG (gxl X Ag elt tg iter ifs scope gpos it ce s3 H3 fp) tg g)
    (pt : PTs (gxl X Ag elt tg iter ifs scope gpos it ce s3 H3 fp) ifs tt)
    (pe : PE (gxl X Ag elt tg iter ifs scope gpos it ce s3 H3 fp) elt te)
    (turn : GTurns J g tt te vs σ W Out Fin) (IG : Hp → Shared → Prop)
    (hIG : IG = fun H s => Inv (gxl X Ag elt tg iter ifs scope gpos it ce s3 H3 fp) [(a, oG)] (wipe σ vs) H s) :
    ∀ (m n i : Nat) (H : Hp) (s s0 : Shared), m < n → IG H s → tn i s.heap → (∀ b ∈ fp, H b = none) → W i m H → gn < s.gens.size →
      Seg (model X.prog X.w) Ag (fun n s0 r s1 => r = .ok .next ∧ gxR IG Fin n s0 s1) (gxY IG tn fp W Out gn) n s0
        (.compLoop (.GeneratorExp elt [⟨tg, iter, ifs, 0⟩] scope gpos) 0 (.ref it) .none ce)
        ((model X.prog X.w).den (.compLoop (.GeneratorExp elt [⟨tg, iter, ifs, 0⟩] scope gpos) 0 (.ref it) .none ce)) [] s := by
  intro m
  induction m using Nat.strongRecOn with
  | ind m ih =>
  intro n i H s s0 hmn I0 st n0 w0 hg
  have I : Inv (gxl X Ag elt tg iter ifs scope gpos it ce s3 H3 fp) [(a, oG)] (wipe σ vs) H s := by
    rw [hIG] at I0
    exact I0
  show Seg _ Ag _ _ _ s0 _ ((compTurn (.GeneratorExp elt [⟨tg, iter, ifs, 0⟩] scope gpos) 0 (.ref it) .none ce).onRaise (leaving ce)) [] s
  rw [compTurn_gen, Sem.onRaise_eq_wrap]
  refine seg_bind_wrap (wpAny_standAt ?_)
  rcases turn i m H w0 with ⟨stop, fin⟩ | ⟨go, step⟩
  · refine seg_bind_wrap (thnF (T.done (gxl X Ag elt tg iter ifs scope gpos it ce s3 H3 fp) rfl rfl rfl rfl i [(a, oG)] s _ H (fun _ _ => False) I (gx_stat I na n0) st stop) fun r s6 ⟨hr, I6⟩ => ?_)
    subst hr
    exact seg_end (.ok .next) ⟨rfl, H, by rw [hIG]; exact I6, fin⟩
  · refine seg_bind_wrap (GenW.wpAny_gsz hg (thnF (T.item (gxl X Ag elt tg iter ifs scope gpos it ce s3 H3 fp) rfl rfl rfl rfl i [(a, oG)] s _ H (fun _ _ => False) I (gx_stat I na n0) st go) fun r s6 ⟨u, hr, h6⟩ hg6 => ?_))
    subst hr
    refine seg_bind_wrap (GenW.wpAny_gsz hg6 (thnF h6 fun _ s7 ⟨x, H7, I7, r7, y7, st7, n7⟩ hg7 => ?_))
    have I7' := I7.pinned (gx_stat I7 na n7) (T.obj _ _ st7)
    refine seg_bind_wrap (GenW.wpAny_gsz hg7 (thnF (pg.run _ s7 _ H7 x u _ I7' r7 (step x H7 y7)) fun _ s8 ⟨σ8, H8, I8, hw8, q8⟩ hg8 => ?_))
    refine seg_bind_wrap (GenW.wpAny_gsz hg8 (thnF (pt.run _ s8 σ8 H8 _ I8 q8) fun b s9 ⟨H9, I9, q9⟩ hg9 => ?_))
    have hl : (wipe σ vs).length = σ8.length := by rw [← hw8, wipe_length]
    have back : ∀ {s' : Shared} {H' : Hp}, Inv (gxl X Ag elt tg iter ifs scope gpos it ce s3 H3 fp) ([(a, oG)] ++ pinsAt fp s7.heap) σ8 H' s' →
        IG H' s' ∧ tn (i + 1) s'.heap ∧ ∀ b ∈ fp, H' b = none := fun {s' H'} I' => by
      have pin' : ∀ b ∈ fp, ∀ o, s7.heap.get? b = some o → s'.heap.get? b = some o ∧ H' b = none := fun b hb o e =>
        let z := I'.pin (b, o) (List.mem_append_right _ (List.mem_append_right _ (mem_pinsAt hb e)))
        ⟨z.1, z.2.1⟩
      refine ⟨?_, T.keep _ _ _ st7 fun b hb o e => (pin' b hb o e).1, fun b hb => ?_⟩
      · rw [hIG]
        refine I'.unpinned.weak hl fun j v e => ?_
        rw [← hw8] at e
        exact (wipe_some e).1
      · obtain ⟨o, e, _⟩ := T.obj _ _ st7 b hb
        exact (pin' b hb o e).2
    cases b with
    | false =>
      simp only [Bool.false_eq_true, if_false] at q9 ⊢
      obtain ⟨m', hm, w'⟩ := q9
      obtain ⟨b1, b2, b3⟩ := back I9
      exact seg_again rfl (ih m' hm n (i + 1) H9 s9 s0 (Nat.lt_trans hm hmn) b1 b2 b3 w' hg9)
    | true =>
      simp only [if_true] at q9 ⊢
      have hy : ∀ v, yieldOut ce v = yieldValue v := fun v => by simp only [yieldOut, hco, Bool.false_eq_true, if_false]
      simp only [hy]
      rw [Sem.bind_eq_wrap', Sem.bind_eq_wrap', Sem.wrap_wrap, Sem.wrap_wrap]
      obtain ⟨n', rfl⟩ : ∃ n', n = n' + 1 := ⟨n - 1, by omega⟩
      refine seg_wrap (GenW.wpAny_gsz hg9 (thnF (pe.run _ s9 σ8 H9 _ I9 q9) fun z s10 ⟨yv, H10, I10, r10, out⟩ hg10 => ?_))
      obtain ⟨b1, b2, b3⟩ := back I10
      refine seg_at (seg_yield rfl rfl rfl ⟨i, m, yv, H10, r10, b1, b2, b3, out, hg10, by omega, fun m' hm w' s'' I'' st'' hg'' => ?_⟩)
      exact seg_again rfl (ih m' hm n' (i + 1) H10 s'' s'' (by omega) I'' st'' b3 w' hg'')
theorem gx_seg0 (T : Turn X.prog X.w X.K tg J fp it tn) {n : Nat} {s0 s : Shared} {R : GenEnd} {Y : Protocol} (st : tn 0 s.heap)
    (loop : Seg (model X.prog X.w) Ag R Y n s0 (.compLoop (.GeneratorExp elt [⟨tg, iter, ifs, 0⟩] scope gpos) 0 (.ref it) .none ce)
        ((model X.prog X.w).den (.compLoop (.GeneratorExp elt [⟨tg, iter, ifs, 0⟩] scope gpos) 0 (.ref it) .none ce)) [] s) :
    Seg (model X.prog X.w) Ag R Y n s0 (.compStart (.GeneratorExp elt [⟨tg, iter, ifs, 0⟩] scope gpos) 0 (.ref it) .none ce)
      ((model X.prog X.w).den (.compStart (.GeneratorExp elt [⟨tg, iter, ifs, 0⟩] scope gpos) 0 (.ref it) .none ce)) [] s := by
  show Seg _ Ag _ _ _ s0 _ ((compStart (.GeneratorExp elt [⟨tg, iter, ifs, 0⟩] scope gpos) 0 (.ref it) .none ce).onRaise (leaving ce)) [] s
  unfold compStart
  rw [Sem.onRaise_eq_wrap]
  show Seg _ Ag _ _ _ s0 _ ((ask >>= _).wrap _ _ _ _) [] s
  refine seg_bind_wrap (wpAny_askSetting ?_)
  split
  · exact seg_again rfl loop
  · refine seg_bind_wrap (wpAny_rule ?_)
    show Seg _ Ag _ _ _ s0 _ ((standAt iter.pos >>= _).wrap _ _ _ _) [] s
    exact seg_bind_wrap (wpAny_standAt (seg_bind_wrap (T.self _ 0 s _ _ st (seg_again rfl loop))))
end
/-! ### the generator asked for its next -/
structure IGok (X : Cx) (pins : List (Addr × Obj)) (σ : L2.St) (a : Addr) (gn : Nat) (IG : Hp → Shared → Prop) : Prop where
  bare : ∀ {H s}, IG H s → AllBare s.gens
  gens : ∀ {H s g'}, IG H s → AllBare g' → IG H { s with gens := g' }
  kept : ∀ {H : Hp} {s : Shared} {h' : Heap} {tk : Nat}, IG H s → (∀ b o, s.heap.get? b = some o → h'.get? b = some o) → IG H { s with heap := h', toks := tk }
  isgen : ∀ {H s}, IG H s → s.heap.IsGen a gn
  nolim : ∀ {H s}, IG H s → s.heap.NoLimit
  back : ∀ {H s}, IG H s → Inv X pins σ H s
def GRun (X : Cx) (Ac : Around) (IG : Hp → Shared → Prop) (tn : Nat → Heap → Prop) (fp : List Addr) (W : Nat → Nat → Hp → Prop) (Out : Nat → Nat → V → Hp → Prop) (Fin : Hp → Prop) (gn i m n : Nat) (H : Hp) (s : Shared) : Prop :=
  IG H s ∧ tn i s.heap ∧ (∀ b ∈ fp, H b = none) ∧ W i m H ∧ ∃ gs, s.gens[gn]? = some gs ∧ m < n ∧ ∀ s'' : Shared, IG H s'' → tn i s''.heap → gn < s''.gens.size →
    gs.Goes (model X.prog X.w) Ac.in1 (fun n s0 r s1 => r = .ok .next ∧ gxR IG Fin n s0 s1) (gxY IG tn fp W Out gn) n (.send .none) s''
theorem bare_set {s : Shared} {gn : Nat} {x : GenState} (h : AllBare s.gens) (hx : x.bare = true) : AllBare (s.setGen gn x).gens := by
  intro y hy
  have hy' : y ∈ s.gens.setIfInBounds gn x := hy
  rcases Array.mem_or_eq_of_mem_setIfInBounds hy' with h1 | h1
  · exact h y h1
  · rw [h1]; exact hx
section
variable {X : Cx} {pins : List (Addr × Obj)} {σ : L2.St} {Ac : Around} {IG : Hp → Shared → Prop} {tn : Nat → Heap → Prop} {fp : List Addr} {W : Nat → Nat → Hp → Prop} {Out : Nat → Nat → V → Hp → Prop} {Fin : Hp → Prop} {a : Addr} {gn : Nat}
theorem GRun.lt {i m n : Nat} {H : Hp} {s : Shared} (G : GRun X Ac IG tn fp W Out Fin gn i m n H s) : gn < s.gens.size := by
  obtain ⟨_, _, _, _, gs, h, _⟩ := G
  exact (Array.getElem?_eq_some_iff.mp h).1
/-- what a consumer lays beside it changes nothing -/
theorem GRun.kept (ig : IGok X pins σ a gn IG) (hk : ∀ i h h', tn i h → (∀ b o, h.get? b = some o → h'.get? b = some o) → tn i h') {i m n : Nat} {H : Hp} {s : Shared} {h' : Heap} {tk : Nat} (G : GRun X Ac IG tn fp W Out Fin gn i m n H s)
    (k : ∀ b o, s.heap.get? b = some o → h'.get? b = some o) : GRun X Ac IG tn fp W Out Fin gn i m n H { s with heap := h', toks := tk } := by
  obtain ⟨g1, g2, g3, g4, gs, g5, g6, g7⟩ := G
  exact ⟨ig.kept g1 k, hk _ _ _ g2 k, g3, g4, gs, g5, g6, g7⟩
theorem gx_next {E : Value → Shared → Prop} {Q : Option Value → Shared → Prop} {i m n : Nat} {H : Hp} {s : Shared} (ig : IGok X pins σ a gn IG) (hA : Ac.handled = none) (hd : Ac.depth < recursionLimit) (G : GRun X Ac IG tn fp W Out Fin gn i m n H s)
    (hout : ∀ v y H' s' i' m', RelV y v → Out i' m' y H' → IG H' s' → (∀ m'', m'' < m' → W (i' + 1) m'' H' → GRun X Ac IG tn fp W Out Fin gn (i' + 1) m'' (n - 1) H' s') → Q (some v) s')
    (hfin : ∀ H' s', Fin H' → IG H' s' → Q none s') : wpAny (model X.prog X.w) Ac (pyNext (.ref a)) Q E s := by
  have lt := G.lt
  obtain ⟨g1, g2, g3, g4, gs, g5, g6, g7⟩ := G
  have run : IG H (s.setGen gn .running) := ig.gens g1 (bare_set (ig.bare g1) rfl)
  refine wpAny_pyNext_genexpQ (P := gxR IG Fin) hA (ig.nolim g1) hd (ig.isgen g1) g5 (g7 _ run g2 (by rw [GenW.setGen_size]; exact lt)) (fun v s1 gs' hb hv => ?_) fun s1 hp h' hk => ?_
  · obtain ⟨i', m', y, H', r, I1, st1, nf, out, hg1, hmn, kap⟩ := hv
    have I2 : IG H' (s1.setGen gn gs') := ig.gens I1 (bare_set (ig.bare I1) hb)
    refine hout v y H' _ i' m' r out I2 fun m'' hm w' => ⟨I2, st1, nf, w', gs', ?_, by omega, fun s'' J'' st'' hg'' => ?_⟩
    · show (s1.gens.setIfInBounds gn gs')[gn]? = some gs'
      rw [Array.getElem?_setIfInBounds_self_of_lt hg1]
    · have q := kap m'' hm w' s'' J'' st'' hg''
      cases n with
      | zero => exact q.elim
      | succ n => exact q
  · obtain ⟨H', I1, fin⟩ := hp
    exact hfin H' _ fin (ig.kept (tk := (s1.setGen gn .finished).toks) (ig.gens I1 (bare_set (ig.bare I1) rfl)) hk)
end
/-! ### the generator made -/
section
variable {X : Cx} {pins : List (Addr × Obj)} {σ : L2.St} {H : Hp} {s : Shared}
theorem over_gen {Ag : Around} {stack : List Env} {elt tg iter : Expr} {ifs : List Expr} {scope : Scope} {gpos : Pos} {it : Value} {ce : Env} (hf : Ag.frames = some stack) :
    (Ag.over (.compLoop (.GeneratorExp elt [⟨tg, iter, ifs, 0⟩] scope gpos) 0 it .none ce) []).frames = some (ce :: stack) := by
  show pushEnvs [ce] (pushEnvs [] Ag.frames) = _
  rw [hf]
  rfl
theorem room_gen {Ag : Around} {k : Nat} {elt tg iter : Expr} {ifs : List Expr} {scope : Scope} {gpos : Pos} {it : Value} {ce : Env} (h1 : Ag.handled = none) (h2 : Ag.depth + 1 + 3 * k + 5 < recursionLimit) (h3 : Ag.units + 3 + 16 * k + 200 < cLine) :
    Room k (Ag.over (.compLoop (.GeneratorExp elt [⟨tg, iter, ifs, 0⟩] scope gpos) 0 it .none ce) []) := by
  refine ⟨h1, ?_, ?_⟩
  · show Ag.depth + 0 + 1 + 3 * k + 5 < _
    omega
  · show Ag.units + 0 + 3 + 16 * k + 200 < _
    omega
/-- a generator expression is made; Ac: where it will be asked -/
theorem gx_mk {c T : Addr} {elt tg iter : Expr} {ifs : List Expr} {scope : Scope} {own : List (Str × Nat)} {gpos : Pos} {wi : TI} {g : TG} {tt : TT} {te : TE} {k : Nat} {Q' : Value → Shared → Prop} {Outf : (Nat → Nat → Hp → Prop) → Nat → Nat → V → Hp → Prop} {Fin : Hp → Prop}
    (Ac : Around) (hA : Ac.handled = none) (hfr : Ac.frames = some X.stack) (hd : Ac.depth ≤ X.A.depth) (hu : Ac.units ≤ X.A.units + 8) (hr : Room (k + 1) X.A) (hc : X.calm = true) (hN : X.N.Nodup) (TB : GxR.TabB X.base X.mg c T) (hcode : X.env.code = .ref c) (ok : GOk X.N X.env.scope scope own) (hi : PI X tg iter wi)
    (hg : ∀ (A' : Around) (s3 : Shared) (H3 : Hp) (C : Addr) (code : Value) (fp : List Addr), PG (gxc X A' s3 H3 (genE X scope C code) fp) tg g)
    (ht : ∀ (A' : Around) (s3 : Shared) (H3 : Hp) (C : Addr) (code : Value) (fp : List Addr), Room k A' → PTs (gxc X A' s3 H3 (genE X scope C code) fp) ifs tt)
    (he : ∀ (A' : Around) (s3 : Shared) (H3 : Hp) (C : Addr) (code : Value) (fp : List Addr), Room k A' → PE (gxc X A' s3 H3 (genE X scope C code) fp) elt te)
    (hs : ∀ v, genFold iter X.env v = pure v) (I : Inv X pins σ H s)
    (h : wi σ H fun J H1 => GxR.TabG H1 T ∧ ∀ H2, GxR.Tabbed T H1 H2 → ∃ W, (∃ m, W 0 m H2) ∧ GTurns J g tt te (own.map (·.2)) σ W (Outf W) Fin)
    (hQ : ∀ (IG : Hp → Shared → Prop) (tn : Nat → Heap → Prop) (fp : List Addr) W (a : Addr) (gn m : Nat) (H2 : Hp) (s5 : Shared), IGok X pins σ a gn IG → (∀ i h h', tn i h → (∀ b o, h.get? b = some o → h'.get? b = some o) → tn i h') →
      GRun X Ac IG tn fp W (Outf W) Fin gn 0 m (m + 1) H2 s5 → Q' (.ref a) s5) :
    wpAny (model X.prog X.w) X.A (eval (.GeneratorExp elt [⟨tg, iter, ifs, 0⟩] scope gpos) X.env) Q' X.xe s := by
  have free := gx_free I ok
  refine wpAny_GeneratorExp_make ok.co (closure_ok free) ok.cell ok.dot ok.blk.kind (Nat.lt_of_le_of_lt (by omega : X.A.depth ≤ X.A.depth + 3 * (k + 1) + 5) hr.dp) ?_ hs
  refine thn (hi.run pins s σ H _ I h) fun xv s1 h1 => thn h1 fun itv s2 h2 => ?_
  obtain ⟨it, fp, tn, J, H1, rfl, J1, TU, st2, f2, ⟨ps, hT, hok⟩, q⟩ := h2
  have gT : s2.heap.get? T = some (PySem.W.tabObj ps) := J1.hok T _ hT
  have cd : PySem.W.CodeHd s2.heap c T := TB.code.keeps J1.bk
  refine ⟨J1.nolimit, ?_⟩
  have lts : ∀ b ∈ fp, b < s2.heap.objs.size := fun b hb => by
    obtain ⟨o, e, _⟩ := TU.obj _ _ st2 b hb
    exact Heap.lt_size e
  have nfT : ∀ b ∈ fp, b ≠ T := fun b hb z => by
    have := (f2 b hb).1
    rw [z, hT] at this
    cases this
  -- behind the code object
  have on : ∀ (code : Value) (h3 : Heap) (tk : Nat) (more : Array Value), Heap.ExtBut T s2.heap h3 → s2.heap.objs.size ≤ h3.objs.size → h3.get? T = some (PySem.W.tabObj (ps ++ more)) → TriplesOk (ps ++ more).toList →
      wpAny (model X.prog X.w) X.A (builtinsFor X.env.globals X.env.builtins) (fun bi s4 =>
        ∀ h', h'.Ns s4.heap.objs.size (fun y => if y = ".0" then some (.ref it) else none) → Heap.SameBut s4.heap.objs.size (s4.heap.push { cls := .type "frame", data := .dict #[] }) h' →
          Q' (.ref h'.objs.size) { s4 with
            gens := s4.gens.push (.fresh (.compStart (.GeneratorExp elt [⟨tg, iter, ifs, 0⟩] scope gpos) 0 (.ref it) .none (genEnv scope (cloFrom X.env.cells scope.names []) s4.heap.objs.size code bi X.env))),
            toks := s4.toks + 1 + 1 + 1,
            heap := h'.push { cls := .type "generator", data := .fields #[.int s4.gens.size 0, .str "<genexpr>" (s4.toks + 1), .str (X.env.qual ++ "<genexpr>") (s4.toks + 1 + 1)] } }) X.xe { s2 with heap := h3, toks := tk } := by
    intro code h3 tk more ext ge3 gT3 ok3
    have J3 : Inv X pins σ (upd H1 T (.tbl (ps ++ more))) { s2 with heap := h3, toks := tk } := GxR.inv_tab (g' := s2.gens) (d' := s2.drawn) J1 hT ext gT3 J1.bare
    have tb : GxR.Tabbed T H1 (upd H1 T (.tbl (ps ++ more))) := ⟨⟨_, upd_same, ok3⟩, fun b nb => upd_ne nb⟩
    obtain ⟨W, ⟨m0, w0⟩, turn⟩ := q _ tb
    obtain ⟨bm, ob, e1, e2, _, e4, e5, e6, e7, e8⟩ := TB.bm
    refine wpAny_builtinsFor (m := X.mg) (by rw [J3.ok.glob]; exact J3.mod.glob.keeps J3.bk) e1 e2 (ext _ _ e4 (J1.bk _ _ e5)) e6 e7 e8 ?_
    intro h' hn hsb
    have f3 : ∀ b ∈ fp, FpOk X pins (upd H1 T (.tbl (ps ++ more))) b ∧ b < h3.objs.size := fun b hb => by
      refine ⟨⟨?_, (f2 b hb).2⟩, Nat.lt_of_lt_of_le (lts b hb) ge3⟩
      rw [upd_ne (nfT b hb)]
      exact (f2 b hb).1
    have st3 : tn 0 h3 := TU.keep _ _ _ st2 fun b hb o e => ext b o (nfT b hb) e
    have nf3 : ∀ b ∈ fp, (upd H1 T (.tbl (ps ++ more))) b = none := fun b hb => (f3 b hb).1.1
    generalize hH3 : upd H1 T (.tbl (ps ++ more)) = H3 at J3 w0 f3 nf3
    generalize hs3 : ({ s2 with heap := h3, toks := tk } : Shared) = s3 at J3 hn hsb ⊢
    have eh : s3.heap = h3 := by rw [← hs3]
    have szh : h'.objs.size = s3.heap.objs.size + 1 := by rw [hsb.1, Heap.size_push]
    have kp : ∀ b o, s3.heap.get? b = some o → h'.get? b = some o := fun b o e => hsb.extBut b o (Nat.ne_of_lt (Heap.lt_size e)) (Heap.get?_push_of_some _ e)
    generalize hoG : ({ cls := .type "generator", data := .fields #[.int s3.gens.size 0, .str "<genexpr>" (s3.toks + 1), .str (X.env.qual ++ "<genexpr>") (s3.toks + 1 + 1)] } : Obj) = oG
    have na : h'.objs.size ∉ fp := fun z => by
      have := (f3 _ z).2
      rw [← eh] at this
      exact Nat.lt_irrefl _ (Nat.lt_of_lt_of_le this (by rw [szh]; exact Nat.le_succ _))
    have start := gx_start (A' := Ac.in1.over (.compLoop (.GeneratorExp elt [⟨tg, iter, ifs, 0⟩] scope gpos) 0 (.ref it) .none (genE X scope s3.heap.objs.size code)) []) (code := code) (it := .ref it) (oG := oG)
      (g' := s3.gens.push (.fresh (.compStart (.GeneratorExp elt [⟨tg, iter, ifs, 0⟩] scope gpos) 0 (.ref it) .none (genE X scope s3.heap.objs.size code)))) (t' := s3.toks + 1 + 1 + 1) J3 ok hN (fun b hb => ⟨(f3 b hb).1, by rw [eh]; exact (f3 b hb).2⟩) hA (over_gen hfr) hn hsb
      (fun v => by rw [← hoG]; exact fun z => nomatch z) (J3.bare.push rfl) (by rw [← hoG]; rfl)
    have rm : Room k (Ac.in1.over (.compLoop (.GeneratorExp elt [⟨tg, iter, ifs, 0⟩] scope gpos) 0 (.ref it) .none (genE X scope s3.heap.objs.size code)) []) :=
      room_gen hA (by have := hr.dp; show Ac.depth + 1 + 3 * k + 5 < _; omega) (by have := hr.un; show Ac.units + 1 + 3 + 16 * k + 200 < _; omega)
    refine hQ (fun H' s' => Inv (gxl X Ac.in1 elt tg iter ifs scope gpos it (genE X scope s3.heap.objs.size code) s3 H3 fp) [(h'.objs.size, oG)] (wipe σ (own.map (·.2))) H' s') tn fp W h'.objs.size s3.gens.size m0 H3 _ ?_ (fun i h h' st kk => TU.keep _ _ _ st fun b _ o e => kk b o e) ?_
    · refine ⟨fun I' => I'.bare, fun I' hb => ⟨I'.ok, I'.os, hb, I'.base, I'.loc, I'.cell, I'.free, I'.freeC, I'.pin, I'.hok, I'.len⟩, fun I' kk => I'.kept kk, fun I' => ?_, fun I' => I'.nolimit, fun I' => ?_⟩
      · have z := (I'.pin (h'.objs.size, oG) (by simp)).1
        rw [← hoG] at z
        exact ⟨_, _, _, z, rfl, rfl, rfl⟩
      · exact J3.call' (ch := fp) I'.os I'.base I'.hok I'.bare fun b hb => ⟨(f3 b hb).1.2.2.2.1, (f3 b hb).1.2.1, (f3 b hb).1.2.2.2.2.1, (f3 b hb).1.2.2.2.2.2⟩
    · refine ⟨start, TU.keep _ _ _ st3 fun b hb o e => Heap.get?_push_of_some _ (kp b o (by rw [eh]; exact e)), nf3, w0, _, Array.getElem?_push_size .., Nat.lt_succ_self _, fun s'' I'' st'' hg'' => ⟨rfl, ?_⟩⟩
      exact gx_seg0 TU st'' (gx_seg TU na ok.co (hg _ s3 H3 _ code fp) (ht _ s3 H3 _ code fp rm) (he _ s3 H3 _ code fp rm) turn _ rfl m0 (m0 + 1) 0 H3 s'' s'' (Nat.lt_succ_self _) I'' st'' nf3 w0 hg'')
  cases among : codeAmong gpos ps.toList with
  | some cv =>
    refine wpAny_genexprCode_hit hcode (cd.code gT hok) among ?_
    exact on cv s2.heap s2.toks #[] (Heap.ExtBut.refl _ _) (Nat.le_refl _) (by rw [Array.append_empty]; exact gT) (by rw [Array.append_empty]; exact hok)
  | none =>
    refine wpAny_genexprCodeX hcode (cd.code gT hok) (cd.tab gT) among fun c' h' tk hx hge hlt isC _ tab' _ => ?_
    obtain ⟨_, _, _, _, _, _, _, _, _, _, _, _, _, _, _, _, _, _, _, ok', _⟩ := isC
    exact on _ h' tk _ hx (Nat.le_trans hge (Nat.le_of_lt hlt)) tab'.2 ok'
end
/-! ### all(..) of a generator expression -/
def tAllG (T : Addr) (wi : TI) (g : TG) (tt : TT) (te : TE) (vs : List Nat) : TE := fun σ H Q => wi σ H fun J H1 => GxR.TabG H1 T ∧ ∀ H2, GxR.Tabbed T H1 H2 → ∃ W : Nat → Nat → Hp → Prop, (∃ m, W 0 m H2) ∧
  GTurns J g tt te vs σ W (fun i m y H' => ∃ k, y = .bl k ∧ (if k = true then ∃ m', m' < m ∧ W (i + 1) m' H' else Q (.bl false) H')) (fun H' => Q (.bl true) H')
section
variable {X : Cx} {pins : List (Addr × Obj)} {σ : L2.St}
theorem all_loop {IG : Hp → Shared → Prop} {tn : Nat → Heap → Prop} {fp : List Addr} {W : Nat → Nat → Hp → Prop} {a : Addr} {gn : Nat} {Q : VK} {R : Result → Shared → Prop} (ig : IGok X pins σ a gn IG) (hA : X.A.handled = none) (hd : X.A.depth < recursionLimit)
    (hR : ∀ b H s, Q (.bl b) H → IG H s → R (.ok (.ret (.bool b))) s) : ∀ (n i m : Nat) (H : Hp) (s : Shared),
    GRun X X.A.in1 IG tn fp W (fun i m y H' => ∃ k, y = .bl k ∧ (if k = true then ∃ m', m' < m ∧ W (i + 1) m' H' else Q (.bl false) H')) (fun H' => Q (.bl true) H') gn i m n H s →
    codeAny (model X.prog X.w) X.A (.builtin "all.loop" ⟨[.ref a], []⟩) R s := by
  intro n
  induction n with
  | zero =>
    intro i m H s G
    obtain ⟨_, _, _, _, gs, _, h, _⟩ := G
    exact absurd h (Nat.not_lt_zero _)
  | succ n ih =>
    intro i m H s G
    refine codeAny_builtin F.entry_all_loop ?_
    rw [Around.under_plainId F.plain_all_loop _]
    show wpAny _ X.A.in1 (pyNext (.ref a) >>= _) _ _ s
    refine wpAny_bind (gx_next ig hA hd G (fun v y H' s' i' m' r out I' cont => ?_) fun H' s' fin I' => ?_)
    · obtain ⟨k, rfl, hk⟩ := out
      obtain rfl : v = .bool k := r
      refine wpAny_bind (wpAny_holding (wpAny_truthy_bool ?_))
      refine wpAny_bind (wpAny_letGo ?_)
      cases k with
      | true =>
        obtain ⟨m'', hm, w'⟩ := hk
        exact wpAny_pure ⟨plainId_quiet F.plain_all_loop _, ih (i' + 1) m'' H' s' (cont m'' hm w')⟩
      | false =>
        refine wpAny_bind (wpAny_rule (wpAny_pure ?_))
        exact hR false H' s' hk I'
    · refine wpAny_bind (wpAny_rule (wpAny_pure ?_))
      exact hR true H' s' fin I'
theorem pe_allG {c T : Addr} {elt tg iter : Expr} {ifs : List Expr} {scope : Scope} {own : List (Str × Nat)} {gpos p pos : Pos} {wi : TI} {g : TG} {tt : TT} {te : TE} {k : Nat}
    (hr : Room (k + 1) X.A) (hgl : Gl X "all") (hm : X.mg "all" = none) (hc : X.calm = true) (hN : X.N.Nodup) (TB : GxR.TabB X.base X.mg c T) (hcode : X.env.code = .ref c) (ok : GOk X.N X.env.scope scope own) (hi : PI X tg iter wi)
    (hg : ∀ (A' : Around) (s3 : Shared) (H3 : Hp) (C : Addr) (code : Value) (fp : List Addr), PG (gxc X A' s3 H3 (genE X scope C code) fp) tg g)
    (ht : ∀ (A' : Around) (s3 : Shared) (H3 : Hp) (C : Addr) (code : Value) (fp : List Addr), Room k A' → PTs (gxc X A' s3 H3 (genE X scope C code) fp) ifs tt)
    (he : ∀ (A' : Around) (s3 : Shared) (H3 : Hp) (C : Addr) (code : Value) (fp : List Addr), Room k A' → PE (gxc X A' s3 H3 (genE X scope C code) fp) elt te)
    (hs : ∀ v, genFold iter X.env v = pure v := by intro _; rfl)
    (hst : starEach [.GeneratorExp elt [⟨tg, iter, ifs, 0⟩] scope gpos] X.env = (false, eval (.GeneratorExp elt [⟨tg, iter, ifs, 0⟩] scope gpos) X.env) :: starEach [] X.env := by rfl) :
    PE X (.Call (.Name "all" p) [.GeneratorExp elt [⟨tg, iter, ifs, 0⟩] scope gpos] [] pos) (tAllG T wi g tt te (own.map (·.2))) := by
  refine ⟨fun pins s σ H Q I h => wpAny_Call_Name_kw (ld_blt I hgl hm (show bootBuiltins "all" = some (.builtin "all") by decide +kernel) ?_)⟩
  refine PyProof.Rows.callWith_builtin1 ?_ hst (by rfl)
  rw [hst]
  have hA := I.ok.hd hc
  have hf := I.ok.frames
  refine Calls.spliced_cons (gx_mk (Outf := fun W i m y H' => ∃ k, y = .bl k ∧ (if k = true then ∃ m', m' < m ∧ W (i + 1) m' H' else Q (.bl false) H')) (Fin := fun H' => Q (.bl true) H')
    X.A.in1 hA hf (Nat.le_refl _) (by show X.A.units + 1 ≤ _; omega) hr hc hN TB hcode ok hi hg ht he hs I h ?_)
  · intro IG tn fp W a gn m H2 s5 ig hk G
    refine Calls.spliced_nil ?_
    refine call_function_tree F.kind_all F.plain_all F.entry_all (F.args_all1 _) ?_
    unfold Builtin.«all»
    refine wpAny_bind (m := oneArg "all" _) (wpAny_pure ?_)
    refine wpAny_bind (wpAny_pyIter_gen (ig.isgen G.1) ?_)
    exact wpAny_pure ⟨plainId_quiet F.plain_all_loop _, all_loop ig hA (Nat.lt_of_le_of_lt (by omega : X.A.depth ≤ X.A.depth + 3 * (k + 1) + 5) hr.dp) (fun b H s q I' => ⟨.bl b, H, ig.back I', rfl, q⟩) _ _ _ _ _ G⟩
end
/-! ### len(set(t)) of a tuple of texts -/
/-- the texts, each once -/
def once : List Str → List Str := fun xs => xs.foldl (fun acc x => if acc.contains x = true then acc else acc ++ [x]) []
theorem once_snoc (xs : List Str) (x : Str) : once (xs ++ [x]) = if (once xs).contains x = true then once xs else once xs ++ [x] := by
  unfold once
  rw [List.foldl_append]
  rfl
theorem once_le (l : List Str) : (once l).length ≤ l.length := by
  have more : ∀ (l acc : List Str), (l.foldl (fun acc x => if acc.contains x = true then acc else acc ++ [x]) acc).length ≤ acc.length + l.length := by
    intro l
    induction l with
    | nil => intro acc; exact Nat.le_refl _
    | cons x r ih =>
      intro acc
      refine Nat.le_trans (ih _) ?_
      show (if acc.contains x = true then acc else acc ++ [x]).length + r.length ≤ acc.length + (r.length + 1)
      by_cases h : acc.contains x = true
      · rw [if_pos h]; omega
      · rw [if_neg h, List.length_append]; show acc.length + 1 + r.length ≤ _; omega
  have h := more l []
  have z : (once l).length ≤ ([] : List Str).length + l.length := h
  simpa using z
section
variable {prog : Program} {w : World} {A : Around}
theorem set_texts_loop {R : Result → Shared → Prop} {it : Addr} {fp wr : List Addr} {G : Array GenState → Array GenState → Prop} {n : Nat} {P : Nat → Value → Prop} {St : Nat → Shared → Prop} (W : WalksS prog w A.in1 it fp wr G n P St) (S : Addr) (nS : S ∉ fp) (xs : List Str)
    (len : xs.length = n) (big : n + 1 < scanBound) (val : ∀ i v, P i v → ∃ t, v = .str (xs.getD i Str.empty) t) :
    ∀ (k i : Nat) (s : Shared), n - i = k → i ≤ n → St i s → s.heap.SetOf (PySem.strKind prog w) S (fun x => (once (xs.take i)).contains x) (once (xs.take i)).length →
      (∀ s', Moved (S :: wr) G s s' → s'.heap.SetOf (PySem.strKind prog w) S (fun x => (once xs).contains x) (once xs).length → R (.ok (.ret .none)) s') →
      codeAny (model prog w) A (.builtin "set.update.loop" ⟨[.ref S, .ref it], []⟩) R s := by
  have nW : S ∉ wr := fun h => nS (W.sub _ h)
  have up : ∀ b ∈ wr, b ∈ S :: wr := fun b hb => List.mem_cons_of_mem _ hb
  have stay : ∀ {s s' : Shared} {f : Str → Bool} {c : Nat}, Moved wr G s s' → s.heap.SetOf (PySem.strKind prog w) S f c → s'.heap.SetOf (PySem.strKind prog w) S f c := fun mv ⟨o, es, ep, t, ho, r⟩ => ⟨o, es, ep, t, mv.heap S _ nW ho, r⟩
  have most := once_le
  intro k
  induction k with
  | zero =>
    intro i s hk hi st hS hR
    obtain rfl : i = n := by omega
    refine codeAny_builtin PyProof.Rows.F.entry_set_update_loop ?_
    rw [Around.under_plainId PyProof.Rows.F.plain_set_update_loop _]
    show wpAny _ A.in1 (pyNext (.ref it) >>= _) _ _ s
    refine wpAny_bind (W.done s _ _ st fun s' mv => ?_)
    rw [List.take_of_length_le (Nat.le_of_eq len)] at hS
    exact wpAny_pure (hR s' (mv.mono up) (stay mv hS))
  | succ k ih =>
    intro i s hk hi st hS hR
    have lt : i < n := by omega
    refine codeAny_builtin PyProof.Rows.F.entry_set_update_loop ?_
    rw [Around.under_plainId PyProof.Rows.F.plain_set_update_loop _]
    show wpAny _ A.in1 (pyNext (.ref it) >>= _) _ _ s
    refine wpAny_bind (W.item i s _ _ lt st fun v s' hP st' mv => ?_)
    obtain ⟨t, rfl⟩ := val i v hP
    show wpAny _ A.in1 (holding [Value.str (xs.getD i Str.empty) t] (setAdd S (.str (xs.getD i Str.empty) t)) >>= _) _ _ s'
    refine wpAny_bind (wpAny_holding ?_)
    unfold setAdd
    refine wpAny_holding (wpAny_bind ((PySem.strKind prog w).pyHash (k := xs.getD i Str.empty) (strKind_is _ _ _ _) ?_))
    have small : (once (xs.take i)).length + 1 < scanBound := by
      have h := most (xs.take i)
      rw [List.length_take] at h
      omega
    refine wpAny_setAddHashed_of (knd := PySem.strKind prog w) (s := { s' with toks := s'.toks + 1 }) (strKind_is _ _ _ _) rfl (show s'.heap.SetOf _ S _ _ from stay mv hS) small fun h' sb hS2 => ?_
    have hx : xs.take (i + 1) = xs.take i ++ [xs.getD i Str.empty] := by
      have hl : i < xs.length := by omega
      rw [List.take_add_one, List.getElem?_eq_getElem hl, List.getD_eq_getElem?_getD, List.getElem?_eq_getElem hl]
      rfl
    have hS3 : h'.SetOf (PySem.strKind prog w) S (fun x => (once (xs.take (i + 1))).contains x) (once (xs.take (i + 1))).length := by
      rw [hx, once_snoc]
      revert hS2
      generalize xs.getD i Str.empty = z
      generalize once (xs.take i) = L
      intro hS2
      by_cases e : L.contains z = true
      · rw [if_pos e] at hS2 ⊢
        refine SetOf_congr hS2 (fun y => ?_) rfl
        by_cases q : y = z
        · rw [q, e]; rfl
        · rw [decide_eq_false q, Bool.or_false]
      · rw [if_neg e] at hS2 ⊢
        refine SetOf_congr hS2 (fun y => ?_) (by rw [List.length_append]; rfl)
        rw [List.contains_append]
        by_cases q : y = z
        · rw [q, decide_eq_true rfl]; simp
        · rw [decide_eq_false q]; simp [q]
    refine wpAny_pure ⟨plainId_quiet PyProof.Rows.F.plain_set_update_loop _, ih (i + 1) _ (by omega) lt (W.frame _ s' _ _ st' (Nat.le_succ _) fun b hb o e => ?_) hS3 fun s'' mv'' hS'' => ?_⟩
    · rw [sb.2 b (fun z : b = S => nS (by rw [← z]; exact hb))]
      exact e
    · refine hR s'' (Moved.trans W.gtrans ((mv.mono up).then_heap (Nat.le_succ _) fun b o hb e => ?_) mv'') hS''
      rw [sb.2 b (fun z : b = S => hb (by rw [z]; exact List.mem_cons_self))]
      exact e
abbrev set0 (led : Bool) : Obj := { cls := .type "set", dict := none, data := .set #[] 0 (.fresh 0 0 led) }
set_option maxHeartbeats 3200000 in
theorem set_of_texts {E : Value → Shared → Prop} {s : Shared} {l : Addr} {items : Array Value} {xs : List Str} {Q : Value → Shared → Prop} (hh : A.handled = none) (hl : s.heap.IsTuple l items) (hi : PyProof.Rows.StrsAre items.toList xs) (big : xs.length + 1 < scanBound)
    (h : ∀ (h' : Heap) (tk : Nat), h'.SetOf (PySem.strKind prog w) s.heap.objs.size (fun x => (once xs).contains x) (once xs).length →
      (∀ b o, b < s.heap.objs.size → s.heap.get? b = some o → h'.get? b = some o) → Q (.ref s.heap.objs.size) { s with heap := h', toks := tk }) :
    wpAny (model prog w) A (call (.type "set") [.ref l]) Q E s := by
  obtain ⟨c, tl, hmro⟩ := PySem.F.called_set.mro
  have hmade := PySem.F.called_set.made
  have hsub := PySem.F.called_set.sub
  refine wpAny_call (codeAny_of_tree ?_)
  show wpAny _ _ (callAny (.type "set") _) _ _ _
  refine wpAny_pure ⟨Code.quiet_builtin _ (by decide +kernel), codeAny_builtin PySem.F.entry_type_call ?_⟩
  rw [Around.under_plain (weight_type_call_type "set" [.ref l] []) rfl]
  have h1 := PySem.F.called_set.notType
  have h2 := PySem.F.called_set.canCreate
  have hct := PySem.F.typeCall_set_1 (.ref l)
  repeat (any_goals (first | assumption | wp_step))
  refine codeAny_mono (code_set_new_1 (.ref l) (E := E) (Q₁ := fun obj s₁ => ∃ led : Bool, obj = .ref s.heap.objs.size ∧ s₁ = { s with heap := s.heap.push { cls := .type "set", dict := none, data := .set #[] 0 (.fresh 0 0 led) } }) fun led => ⟨led, rfl, rfl⟩) fun r s₁ hr => ?_
  cases r with
  | error e => exact hr
  | ok fl =>
    cases fl with
    | ret obj =>
      obtain ⟨led, rfl, rfl⟩ := hr
      have fresh : (set0 led).isFreed = false := rfl
      have hS : (s.heap.push (set0 led)).get? s.heap.objs.size = some (set0 led) := Heap.get?_push_size _ fresh
      have hT : Shared.TypeIs { s with heap := s.heap.push (set0 led) } (.ref s.heap.objs.size) "set" := ⟨_, hS, rfl⟩
      have hli := PySem.F.called_set.init.lookup
      have hbi := PySem.F.called_set.init.bind (.ref s.heap.objs.size)
      repeat (any_goals (first | assumption | wp_step))
      refine codeAny_mono (codeAny_call_builtin (R := wants (fun r s₂ => r = .none ∧ ∃ h' tk, s₂ = { s with heap := h', toks := tk } ∧
          h'.SetOf (PySem.strKind prog w) s.heap.objs.size (fun x => (once xs).contains x) (once xs).length ∧
          (∀ b o, b < s.heap.objs.size → s.heap.get? b = some o → h'.get? b = some o)) E) PySem.F.called_set.init.plain PySem.F.entry_set_init (check_set_init_1 hT ?_)) fun r₂ s₂ hr₂ => ?_
      · obtain ⟨⟨ocls, odict, odata, oslots⟩, hol, hcl, nl, hdl⟩ := hl
        simp only at hcl hdl
        subst hcl; subst hdl
        have hol' : (s.heap.push (set0 led)).get? l = some { cls := .type "tuple", dict := odict, data := .seq items nl, slots := oslots } := Heap.get?_push_of_some _ hol
        have hsls := PySem.F.sub_tuple_set
        have hslf := PySem.F.sub_tuple_frozenset
        have hne : (Value.type "tuple" == Value.type "dict") = false := by decide
        have hl1 : (s.heap.push (set0 led)).IsTuple l items := ⟨_, hol', rfl, nl, rfl⟩
        unfold Builtin.«set.__init__» noKeywords Builtin.Frozenset.updateFrom
        generalize hPI : pyIter = PI
        wp_walk
        subst hPI
        refine wpAny_pyIter_tuple hl1 ?_
        refine wpAny_bind (wpAny_runValue ?_)
        have ltl : l < s.heap.objs.size := Heap.lt_size hol
        have szP : (s.heap.push (set0 led)).objs.size = s.heap.objs.size + 1 := Heap.size_push ..
        have hh3 : A.in1.in1.in1.handled = none := hh
        have neI : l ≠ (s.heap.push (set0 led)).objs.size := by rw [szP]; exact Nat.ne_of_lt (Nat.lt_succ_of_lt ltl)
        have len : xs.length = items.size := by rw [← StrsAre.len_eq hi, Array.length_toList]
        refine set_texts_loop ((Walks.tuple hh3 _ l neI items).toS) s.heap.objs.size ?n xs len (by rw [← len]; exact big)
          (fun i v hv => SS.strs_at hi i v (by rw [Array.getElem?_toList]; exact hv)) (items.size - 0) 0 _ (by omega) (Nat.zero_le _) ⟨⟨_, Heap.get?_push_size _ rfl, rfl, rfl⟩, (hl1.push _)⟩ ?z ?r
        case n =>
          rw [szP]
          simp only [List.mem_cons, List.not_mem_nil, or_false, not_or]
          exact ⟨Nat.ne_of_lt (Nat.lt_succ_self _), Nat.ne_of_gt ltl⟩
        case z =>
          refine PyProof.Rows.SetOf_congr ((PyProof.Rows.setObjOf_fresh (knd := PySem.strKind prog w) led).setOf (Heap.get?_push_of_some _ hS) (by unfold scanBound; omega)) (fun _ => rfl) rfl
        case r =>
          intro s' mv hS'
          obtain ⟨h', g', d', tk', os'⟩ := s'
          obtain rfl : g' = s.gens := mv.gens
          obtain rfl : d' = s.drawn := mv.drawn
          obtain rfl : os' = s.os := mv.os
          refine wpAny_pure ?_
          show wpAny _ _ (ret Value.none) _ _ _
          refine wpAny_pure ⟨rfl, h', tk', rfl, hS', fun b o hb e => mv.heap b o ?_ (Heap.get?_push_of_some _ (Heap.get?_push_of_some _ e))⟩
          rw [szP]
          simp only [List.mem_cons, List.not_mem_nil, or_false, not_or]
          exact ⟨Nat.ne_of_lt hb, Nat.ne_of_lt (Nat.lt_succ_of_lt hb)⟩
      · cases r₂ with
        | error e => exact hr₂
        | ok fl₂ =>
          cases fl₂ with
          | ret r =>
            obtain ⟨rfl, h', tk, rfl, hS', hk'⟩ := hr₂
            repeat (any_goals (first | assumption | wp_step))
            exact h _ _ hS' hk'
          | _ => exact hr₂.elim
    | _ => exact hr.elim
end
def tLenSetX (K : PySem.W.Frag) (ta : TE) : TE := fun σ H Q => ta σ H fun x H1 => ∃ l, ∃ xs : List Str, x = .ref l ∧ SqT K H1 l (xs.map V.str) ∧ xs.length ≤ 1000 ∧ Q (.int (once xs).length) H1
theorem pe_lenSetX {X : Cx} {a : Expr} {ta : TE} {p p2 q pos : Pos} (hc : X.calm = true) (hg : Gl X "len") (hm : X.mg "len" = none) (hg2 : Gl X "set") (hm2 : X.mg "set" = none) (ha : PE X a ta)
    (na : starEach [a] X.env = (false, eval a X.env) :: starEach [] X.env := by rfl) : PE X (.Call (.Name "len" p) [.Call (.Name "set" p2) [a] [] q] [] pos) (tLenSetX X.K ta) := by
  refine ⟨fun pins s σ H Q I h => Call_ (ld_blt I hg hm boot_len (PyProof.Rows.callWith_builtin1 (PyProof.Rows.args_cons ?_ rfl) rfl rfl))⟩
  refine Call_ (ld_blt I hg2 hm2 boot_set (PyProof.Rows.callWith_type1 (PyProof.Rows.args_cons (thn (ha.run pins s σ H _ I h) fun v s1 ⟨x, H1, I1, r1, q1⟩ => PyProof.Rows.args_nil ?_) na) na rfl))
  obtain ⟨l, xs, rfl, hq, le, q1⟩ := q1
  cases r1
  obtain ⟨its, r, pl, hz⟩ := I1.tuple hq
  refine set_of_texts (I1.ok.hd hc) pl (by simpa using strsAre_of r) (by unfold scanBound; omega) fun h' tk hS hk => PyProof.Rows.args_nil ?_
  obtain ⟨o, es, ep, t, ho, hex, hd, _, _, _, hf, hn⟩ := hS
  have I2 : Inv X pins σ H1 { s1 with heap := h', toks := tk } := I1.kept fun b o e => hk b o (Heap.lt_size e) e
  have most := once_le xs
  exact call_len_set ho hex hd hf (by rw [hn] <;> omega) ⟨.int (once xs).length, H1, I2.tok _, ⟨_, by rw [hn]⟩, q1⟩
/-! ### entries that are entries -/
abbrev TB2 (T1 T2 : Addr) (H H' : Hp) : Prop := (∀ b o, H b = some o → b ≠ T1 → b ≠ T2 → H' b = some o) ∧ GxR.TabG H' T1 ∧ GxR.TabG H' T2
theorem TB2.tr {T1 T2 : Addr} {H H1 H2 : Hp} (a : TB2 T1 T2 H H1) (b : TB2 T1 T2 H1 H2) : TB2 T1 T2 H H2 := ⟨fun c o e n1 n2 => b.1 c o (a.1 c o e n1 n2) n1 n2, b.2⟩
theorem tabg_same {H H' : Hp} {T : Addr} (b : Same H H') (t : GxR.TabG H T) : GxR.TabG H' T := by
  obtain ⟨ps, e, ok⟩ := t
  exact ⟨ps, b T _ e, ok⟩
theorem TB2.same {T1 T2 : Addr} {H H' : Hp} (t1 : GxR.TabG H T1) (t2 : GxR.TabG H T2) (h : Same H H') : TB2 T1 T2 H H' := ⟨fun b o e _ _ => h b o e, tabg_same h t1, tabg_same h t2⟩
theorem TB2.one {T1 T2 : Addr} {H H' : Hp} (ne : T1 ≠ T2) (t2 : GxR.TabG H T2) (h : GxR.Tabbed T1 H H') : TB2 T1 T2 H H' := by
  obtain ⟨ps, e, ok⟩ := t2
  exact ⟨fun b o e n1 _ => (h.2 b n1).trans e, h.1, ps, (h.2 T2 ne.symm).trans e, ok⟩
theorem TB2.two {T1 T2 : Addr} {H H' : Hp} (ne : T1 ≠ T2) (t1 : GxR.TabG H T1) (h : GxR.Tabbed T2 H H') : TB2 T1 T2 H H' := by
  obtain ⟨ps, e, ok⟩ := t1
  exact ⟨fun b o e _ n2 => (h.2 b n2).trans e, ⟨ps, (h.2 T1 ne).trans e, ok⟩, h.1⟩
/-- what is no table stays -/
theorem TB2.keep {T1 T2 : Addr} {H H' : Hp} (h : TB2 T1 T2 H H') (t1 : GxR.TabG H T1) (t2 : GxR.TabG H T2) {a : Addr} {o : HO} (e : H a = some o) (n : ∀ ps, o ≠ .tbl ps) : H' a = some o := by
  obtain ⟨p1, e1, _⟩ := t1
  obtain ⟨p2, e2, _⟩ := t2
  exact h.1 a o e (ne_of e e1 (n p1)) (ne_of e e2 (n p2))
def nmV : V → Bool
  | .str z => nameB z
  | _ => false
def bnd (x : Str) : Int × Int := if x = "moment" then (0, 9999) else if x = "many" then (1, 1000000000) else (0, 1000000000)
def inB (x : Str) : V → Bool
  | .int i => decide ((bnd x).1 ≤ i) && decide (i ≤ (bnd x).2)
  | _ => false
def fitB (v : V) (x : Str) : Bool := if x = "name" then nmV v else if x = "end" then (decide (v = .str "") || nmV v) else inB x v
def Part (v : V) : Prop := (∃ z : Str, v = .str z ∧ z.length ≤ 1000) ∨ ∃ i, v = .int i
def sorts4 : List Str := ["moment", "many", "counted", "price"]
def sorts6 : List Str := ["name", "end", "moment", "many", "counted", "price"]
def spWhole : Sp := fun vs H Q _ => ∃ v : V, vs = [v] ∧ Part v ∧ Q (.bl (match v with | .int _ => true | _ => false)) H
def spFits (T1 : Addr) : Sp := fun vs H Q _ => ∃ (v : V) (x : Str), vs = [v, .str x] ∧ Part v ∧ x ∈ sorts6 ∧ GxR.TabG H T1 ∧ ∀ H', GxR.Tabbed T1 H H' → Q (.bl (fitB v x)) H'
namespace Ent
def sorts : Ent → List Str
  | come .. => ["name", "moment", "name", "name", "many", "price"]
  | go .. => ["name", "moment", "name", "name", "many"]
  | move .. => ["name", "moment", "name", "name", "name", "many"]
  | some_ .. => ["name", "moment", "name", "name", "end"]
  | swap .. => ["name", "moment", "name", "name"]
  | count .. => ["name", "moment", "name", "name", "counted", "name"]
  | look .. => ["name", "moment", "name", "name"]
def parts (e : Ent) : List V := .str e.name :: .int e.moment :: e.rest
def places : Ent → List Str
  | come _ _ _ p _ _ => [p]
  | go _ _ _ p _ => [p]
  | move _ _ _ o t _ => [o, t]
  | some_ _ _ _ o t => if t = "" then [o] else [o, t]
  | swap _ _ o t => [o, t]
  | count _ _ _ p _ _ => [p]
  | look _ _ _ p => [p]
def goodV : Ent → V
  | come _ _ g _ _ _ => .str g
  | go _ _ g _ _ => .str g
  | move _ _ g _ _ _ => .str g
  | some_ _ _ g _ _ => .str g
  | swap _ _ _ _ => .non
  | count _ _ g _ _ _ => .str g
  | look _ _ g _ => .str g
structure Fine (e : Ent) : Prop where
  fit : ∀ (i : Nat) (v : V) (x : Str), e.parts[i]? = some v → e.sorts[i]? = some x → Part v ∧ fitB v x = true
  apart : e.places.Nodup
theorem len_parts (e : Ent) : e.parts.length = e.sorts.length := by cases e <;> rfl
theorem sorts_in (e : Ent) : ∀ x ∈ e.sorts, x ∈ sorts6 := by
  cases e <;> (intro x hx; simp only [sorts, sorts6, List.mem_cons, List.not_mem_nil, or_false] at hx ⊢; rcases hx with rfl | rfl | rfl | rfl | rfl | rfl <;> simp) 
end Ent
def spPlaces : Sp := fun vs H Q _ => ∃ (a : Addr) (e : Ent), vs = [.ref a] ∧ H a = some (.tup e.vals) ∧ ∀ (tp : Addr) (H' : Hp), Same H H' → H' tp = some (.tup (e.places.map V.str)) → Q (.ref tp) H'
def spGood : Sp := fun vs H Q _ => ∃ (a : Addr) (e : Ent), vs = [.ref a] ∧ H a = some (.tup e.vals) ∧ Q e.goodV H
def spDay : Sp := fun vs H Q _ => ∃ m : Int, vs = [.int m] ∧ Q (.int (m / 100)) H
def spIsEntry (T1 T2 : Addr) : Sp := fun vs H Q _ => ∃ (a : Addr) (e : Ent), vs = [.ref a] ∧ H a = some (.tup e.vals) ∧ e.Fine ∧ GxR.TabG H T1 ∧ GxR.TabG H T2 ∧ ∀ H', TB2 T1 T2 H H' → Q (.bl true) H'
section
variable {P : Program} {w : World} {K : PySem.W.Frag} {mg : Str → Option Value} {base : Heap}
theorem scWhole : FnScope ["thing"] ["thing"] (defScope sWhole) := ⟨rfl, rfl, rfl, by decide +kernel, rfl, by decide +kernel, by decide +kernel⟩
theorem scFits : FnScope ["part", "sort", "low", "high"] ["part", "sort"] (defScope sFits) := ⟨rfl, rfl, rfl, by decide +kernel, rfl, by decide +kernel, by decide +kernel⟩
theorem scGood : FnScope ["entry"] ["entry"] (defScope sGood) := ⟨rfl, rfl, rfl, by decide +kernel, rfl, by decide +kernel, by decide +kernel⟩
theorem scPlacesOf : FnScope ["entry", "word"] ["entry"] (defScope sPlacesOf) := ⟨rfl, rfl, rfl, by decide +kernel, rfl, by decide +kernel, by decide +kernel⟩
theorem at0 (e : Ent) : atI e.vals 0 = some (.str e.word) := atI_nat (j := 0) rfl
theorem at2 (e : Ent) : atI e.vals 2 = some (.int e.moment) := atI_nat (j := 2) rfl
theorem ok_whole {f : Addr} {fd : FuncData} (F : Fun K "is_whole" "is_whole" sWhole f fd) (mi : mg "isinstance" = none) (m1 : mg "int" = none) (m2 : mg "bool" = none) : FnOk P w K mg base CX0 1 f fd ["thing"] spWhole := by
  refine F.ok scWhole (fun vs H Q E h => ?_) (fun cdv A outer s H vs Q E hr h => ?_)
  · obtain ⟨v, rfl, _⟩ := h
    rfl
  · obtain ⟨v, rfl, pt, q⟩ := h
    refine ⟨_, pss_one (ps_ret (pe_and (pe_callB call_isi (by rfl) mi (by decide +kernel) (pa_cons (pv 0) (pa_cons (pe_bltn (v := .ty "int") (u := .type "int") (by rfl) m1 (by decide +kernel) rfl) pa_nil)))
      (pe_one (pe_not (pe_callB call_isi (by rfl) mi (by decide +kernel) (pa_cons (pv 0) (pa_cons (pe_bltn (v := .ty "bool") (u := .type "bool") (by rfl) m2 (by decide +kernel) rfl) pa_nil))))))), ?_⟩
    rcases pt with ⟨z, rfl, _⟩ | ⟨i, rfl⟩
    · exact ⟨_, rfl, _, _, _, _, false, rfl, .ty "int", .base (.str z), kit_ty (by decide +kernel), _, rfl, iteF q⟩
    · exact ⟨_, rfl, _, _, _, _, true, rfl, .ty "int", .base (.int i), kit_ty (by decide +kernel), _, rfl, iteT ⟨_, rfl, _, _, _, _, false, rfl, .ty "bool", .base (.int i), kit_ty (by decide +kernel), _, rfl, q⟩⟩
theorem at3 {e : Ent} (h : e.goodV ≠ .non) : atI e.vals 3 = some e.goodV := by
  cases e <;> first | exact atI_nat (j := 3) rfl | exact absurd rfl h
theorem sw_word (e : Ent) : e.word = "swap" ↔ e.goodV = .non := by
  have k1 : ("come" : Str) ≠ "swap" := by decide +kernel
  have k2 : ("go" : Str) ≠ "swap" := by decide +kernel
  have k3 : ("move" : Str) ≠ "swap" := by decide +kernel
  have k4 : ("some" : Str) ≠ "swap" := by decide +kernel
  have k6 : ("count" : Str) ≠ "swap" := by decide +kernel
  have k7 : ("look" : Str) ≠ "swap" := by decide +kernel
  cases e
  · exact ⟨fun h => absurd h k1, fun h => nomatch h⟩
  · exact ⟨fun h => absurd h k2, fun h => nomatch h⟩
  · exact ⟨fun h => absurd h k3, fun h => nomatch h⟩
  · exact ⟨fun h => absurd h k4, fun h => nomatch h⟩
  · exact ⟨fun _ => rfl, fun _ => rfl⟩
  · exact ⟨fun h => absurd h k6, fun h => nomatch h⟩
  · exact ⟨fun h => absurd h k7, fun h => nomatch h⟩
theorem ok_good {f : Addr} {fd : FuncData} (F : Fun K "good_of" "good_of" sGood f fd) : FnOk P w K mg base CX0 1 f fd ["entry"] spGood := by
  refine F.ok scGood (fun vs H Q E h => ?_) (fun cdv A outer s H vs Q E hr h => ?_)
  · obtain ⟨a, e, rfl, _⟩ := h
    rfl
  · obtain ⟨a, e, rfl, ha, q⟩ := h
    refine ⟨_, pss_cons (ps_if (pt_cmpR op_eq (pe_ix ix_tup (pv 0) pe_int (fun _ _ => rfl)) pe_str (nomark _)) (pss_one (ps_ret pe_non)) pss_nil) (pss_one (ps_ret (pe_ix ix_tup (pv 0) pe_int (fun _ _ => rfl)))), ?_⟩
    refine ⟨_, rfl, a, _, 0, _, rfl, rfl, SqT.of ha, at0 e, rfl, _, rfl, ite2 (fun z => ?_) (fun z => ?_)⟩
    · have z' : e.word = "swap" := V.str.inj (of_decide_eq_true z)
      rw [(sw_word e).mp z'] at q
      exact q
    · have z' : e.goodV ≠ .non := fun h => z (decide_eq_true (congrArg V.str ((sw_word e).mpr h)))
      exact ⟨_, rfl, a, _, 3, _, rfl, rfl, SqT.of ha, at3 z', q⟩
theorem ok_fits {f fN fW aB T1 : Addr} {fd dN dW : FuncData} (F : Fun K "fits" "fits" sFits f fd) (N : DefT P w K mg base "is_name" 1 fN dN ["thing"] (spName K T1)) (W : DefT P w K mg base "is_whole" 1 fW dW ["thing"] spWhole)
    (mB : mg "BOUNDS" = some (.ref aB)) (hB : ∀ x ∈ sorts4, ∃ aT, KDct K w aB x (.ref aT) ∧ ∀ H, SqT K H aT [.int (bnd x).1, .int (bnd x).2]) : FnOk P w K mg base CX0 2 f fd ["part", "sort"] (spFits T1) := by
  refine F.ok scFits (fun vs H Q E h => ?_) (fun cdv A outer s H vs Q E hr h => ?_)
  · obtain ⟨v, x, rfl, _⟩ := h
    rfl
  · obtain ⟨v, x, rfl, pt, hx, tg, q⟩ := h
    have nd := scFits.nd
    refine ⟨_, pss_cons (ps_if (pt_cmpR op_eq (pv 1) pe_str (nomark _)) (pss_one (ps_ret (pe_call N.ok hr (by rfl) N.g N.kp N.b .nil pass0 (pa_cons (pv 0) pa_nil)))) pss_nil)
      (pss_cons (ps_if (pt_cmpR op_eq (pv 1) pe_str (nomark _)) (pss_one (ps_ret (pe_or (pe_cmpR op_eq (pv 0) pe_str (nomark _)) (pe_one (pe_call N.ok hr (by rfl) N.g N.kp N.b .nil pass0 (pa_cons (pv 0) pa_nil)))))) pss_nil)
      (pss_cons (ps_asg (pe_ix ix_kdict (pe_glob (v := .ref aB) rfl mB rfl) (pv 1) (fun _ _ => rfl)) (pg_tup (by rfl) (pgs_cons (pg_name (i := 2) nd rfl (Or.inl rfl)) (pgs_cons (pg_name (i := 3) nd rfl (Or.inl rfl)) pgs_nil))))
      (pss_one (ps_ret (pe_and (pe_call W.ok hr (by rfl) W.g W.kp W.b .nil pass0 (pa_cons (pv 0) pa_nil)) (pe_one (pe_chain op_le op_le (pv 2) (pv 0) (pv 3)))))))), ?_⟩
    have same0 : GxR.Tabbed T1 H H := ⟨tg, fun _ _ => rfl⟩
    -- is_name of the part
    have nm : ∀ (Q1 : VK), (∀ H2, GxR.Tabbed T1 H H2 → Q1 (.bl (nmV v)) H2) → spName K T1 ([v] ++ []) H Q1 E0 := fun Q1 h1 => by
      rcases pt with ⟨z, rfl, lz⟩ | ⟨i, rfl⟩
      · exact ⟨_, rfl, tg, .inl ⟨z, rfl, small_sz lz, h1⟩⟩
      · exact ⟨_, rfl, tg, .inr ⟨"int", .base (.int i), by decide +kernel, h1 H same0⟩⟩
    refine ⟨_, rfl, rfl, _, rfl, ite2 (fun e => ?_) (fun e => ?_)⟩
    · have e' : x = "name" := V.str.inj (of_decide_eq_true e)
      refine ⟨_, rfl, nm _ fun H2 tb => ?_⟩
      have z := q H2 tb
      unfold fitB at z
      rw [if_pos e'] at z
      exact z
    · have e1 : ¬ x = "name" := fun h => e (decide_eq_true (congrArg V.str h))
      refine ⟨_, rfl, rfl, _, rfl, ite2 (fun e => ?_) (fun e => ?_)⟩
      · have e' : x = "end" := V.str.inj (of_decide_eq_true e)
        have fe : fitB v x = (decide (v = .str "") || nmV v) := by
          unfold fitB
          rw [if_neg e1, if_pos e']
        have fl : scal v (V.str "") = true := by
          rcases pt with ⟨z, rfl, _⟩ | ⟨i, rfl⟩ <;> rfl
        rw [fe] at q
        refine ⟨_, rfl, fl, decide (v = .str ""), rfl, ?_⟩
        cases hd : decide (v = V.str "") with
        | true =>
          rw [hd] at q
          exact iteT (q H same0)
        | false =>
          rw [hd] at q
          exact iteF ⟨_, rfl, nm _ fun H2 tb => q H2 tb⟩
      · have e2 : ¬ x = "end" := fun h => e (decide_eq_true (congrArg V.str h))
        have x4 : x ∈ sorts4 := by
          simp only [sorts6, sorts4, List.mem_cons, List.not_mem_nil, or_false] at hx ⊢
          rcases hx with h | h | h | h | h | h
          · exact absurd h e1
          · exact absurd h e2
          · exact .inl h
          · exact .inr (.inl h)
          · exact .inr (.inr (.inl h))
          · exact .inr (.inr (.inr h))
        obtain ⟨aT, kd, sq⟩ := hB x x4
        have fe : fitB v x = inB x v := by
          unfold fitB
          rw [if_neg e1, if_neg e2]
        rw [fe] at q
        have q0 := q H same0
        refine ⟨_, rfl, aB, x, _, rfl, rfl, kd, aT, _, rfl, sq H, rfl, _, _, rfl, _, _, rfl, rfl, _, rfl, v, rfl, pt, ?_⟩
        rcases pt with ⟨z, rfl, lz⟩ | ⟨i, rfl⟩
        · exact ⟨_, rfl, iteF q0⟩
        · refine ⟨_, rfl, iteT ⟨_, rfl, _, rfl, (bnd x).1, i, rfl, rfl, _, rfl, ite2 (fun a1 => ?_) (fun a1 => ?_)⟩⟩
          · refine ⟨_, rfl, i, (bnd x).2, rfl, rfl, ?_⟩
            have z : inB x (.int i) = decide (i ≤ (bnd x).2) := by
              show (decide ((bnd x).1 ≤ i) && decide (i ≤ (bnd x).2)) = _
              rw [a1, Bool.true_and]
            rw [z] at q0
            exact q0
          · have z : inB x (.int i) = false := by
              show (decide ((bnd x).1 ≤ i) && decide (i ≤ (bnd x).2)) = _
              rw [Bool.eq_false_iff.mpr a1, Bool.false_and]
            rw [z] at q0
            exact q0
end
/-! ### places_of, is_entry -/
theorem cut_mid {xs : List V} {i j : Nat} (h : j ≤ xs.length) (hi : i ≤ j) : cutV xs (some (i : Int)) (some (j : Int)) = (xs.drop i).take (j - i) := by
  unfold cutV
  rw [HT.sIx_nat, HT.sIx_nat, Nat.min_eq_left h, Nat.min_eq_left (Nat.le_trans hi h)]
theorem no_whole {n i j : Nat} (h : i ≤ n) (hi : 0 < i) : ¬ (HT.sIx n 0 (some (i : Int)) = 0 ∧ HT.sIx n n (some (j : Int)) = n) := by
  rw [HT.sIx_nat, Nat.min_eq_left h]
  omega
section
variable {P : Program} {w : World} {K : PySem.W.Frag} {mg : Str → Option Value} {base : Heap}
theorem bl_of {a b : Str} {k : Bool} (h : decide (V.str a = V.str b) = k) : V.bl (decide (V.str a = V.str b)) = V.bl k := congrArg V.bl h
theorem ok_placesOf {f : Addr} {fd : FuncData} (F : Fun K "places_of" "places_of" sPlacesOf f fd) : FnOk P w K mg base CX0 1 f fd ["entry"] spPlaces := by
  refine F.ok scPlacesOf (fun vs H Q E h => ?_) (fun cdv A outer s H vs Q E hr h => ?_)
  · obtain ⟨a, e, rfl, _⟩ := h
    rfl
  · obtain ⟨a, e, rfl, ha, q⟩ := h
    have nd := scPlacesOf.nd
    refine ⟨_, pss_cons (ps_set (i := 1) nd rfl (Or.inl rfl) (pe_ix ix_tup (pv 0) pe_int (fun _ _ => rfl)))
      (pss_cons (ps_if (pt_cmpR op_eq (pv 1) pe_str (nomark _)) (pss_one (ps_ret (pe_slice sl_tup (pv 0) (po_some pe_int) (po_some pe_int)))) pss_nil)
      (pss_cons (ps_if (PW.pt (pw_or (pt_cmpR op_eq (pv 1) pe_str (nomark _)) (pw_or1 (PW.pt (pw_and (pt_cmpR op_eq (pv 1) pe_str (nomark _)) (pw_and1 (pt_cmpR op_ne (pe_ix ix_tup (pv 0) pe_int (fun _ _ => rfl)) pe_str (nomark _)))))))) (pss_one (ps_ret (pe_slice sl_tup (pv 0) (po_some pe_int) (po_some pe_int)))) pss_nil)
      (pss_one (ps_ret (pe_slice sl_tup (pv 0) (po_some pe_int) (po_some pe_int)))))), ?_⟩
    refine ⟨_, rfl, a, _, 0, _, rfl, rfl, SqT.of ha, at0 e, ?_⟩
    have c1 : decide (V.str "come" = V.str "swap") = false := by decide +kernel
    have c2 : decide (V.str "go" = V.str "swap") = false := by decide +kernel
    have c3 : decide (V.str "move" = V.str "swap") = false := by decide +kernel
    have c4 : decide (V.str "some" = V.str "swap") = false := by decide +kernel
    have c6 : decide (V.str "count" = V.str "swap") = false := by decide +kernel
    have c7 : decide (V.str "look" = V.str "swap") = false := by decide +kernel
    have m1 : decide (V.str "come" = V.str "move") = false := by decide +kernel
    have m2 : decide (V.str "go" = V.str "move") = false := by decide +kernel
    have m4 : decide (V.str "some" = V.str "move") = false := by decide +kernel
    have m6 : decide (V.str "count" = V.str "move") = false := by decide +kernel
    have m7 : decide (V.str "look" = V.str "move") = false := by decide +kernel
    have s1 : decide (V.str "come" = V.str "some") = false := by decide +kernel
    have s2 : decide (V.str "go" = V.str "some") = false := by decide +kernel
    have s6 : decide (V.str "count" = V.str "some") = false := by decide +kernel
    have s7 : decide (V.str "look" = V.str "some") = false := by decide +kernel
    cases e with
    | come nme mo g pl many price =>
      refine ⟨_, rfl, rfl, false, bl_of c1, iteF ⟨_, rfl, rfl, false, bl_of m1, iteF ⟨_, rfl, rfl, false, bl_of s1, iteF ?_⟩⟩⟩
      exact ⟨_, rfl, 4, rfl, 5, rfl, a, _, rfl, SqT.of ha, no_whole (i := 4) (j := 5) (by show 4 ≤ 7; decide) (by decide), fun p np => q p _ (same_new np) (by rw [upd_same]; rfl)⟩
    | go nme mo g pl many =>
      refine ⟨_, rfl, rfl, false, bl_of c2, iteF ⟨_, rfl, rfl, false, bl_of m2, iteF ⟨_, rfl, rfl, false, bl_of s2, iteF ?_⟩⟩⟩
      exact ⟨_, rfl, 4, rfl, 5, rfl, a, _, rfl, SqT.of ha, no_whole (i := 4) (j := 5) (by show 4 ≤ 6; decide) (by decide), fun p np => q p _ (same_new np) (by rw [upd_same]; rfl)⟩
    | move nme mo g one other many =>
      refine ⟨_, rfl, rfl, false, bl_of c3, iteF ⟨_, rfl, rfl, true, bl_of (decide_eq_true rfl), iteT ?_⟩⟩
      exact ⟨_, rfl, 4, rfl, 6, rfl, a, _, rfl, SqT.of ha, no_whole (i := 4) (j := 6) (by show 4 ≤ 7; decide) (by decide), fun p np => q p _ (same_new np) (by rw [upd_same]; rfl)⟩
    | some_ nme mo g one other =>
      refine ⟨_, rfl, rfl, false, bl_of c4, iteF ⟨_, rfl, rfl, false, bl_of m4, iteF ⟨_, rfl, rfl, true, bl_of (decide_eq_true rfl), iteT ?_⟩⟩⟩
      refine ⟨_, rfl, a, _, 5, .str other, rfl, rfl, SqT.of ha, atI_nat (j := 5) rfl, rfl, !decide (V.str other = V.str ""), rfl, ?_⟩
      by_cases z : other = ""
      · rw [decide_eq_true (congrArg V.str z)]
        refine iteF ⟨_, rfl, 4, rfl, 5, rfl, a, _, rfl, SqT.of ha, no_whole (i := 4) (j := 5) (by show 4 ≤ 6; decide) (by decide), fun p np => q p _ (same_new np) ?_⟩
        rw [upd_same]
        show some (HO.tup [V.str one]) = some (HO.tup ((if other = "" then [one] else [one, other]).map V.str))
        rw [if_pos z]
        rfl
      · rw [decide_eq_false fun h => z (V.str.inj h)]
        refine iteT ⟨_, rfl, 4, rfl, 6, rfl, a, _, rfl, SqT.of ha, no_whole (i := 4) (j := 6) (by show 4 ≤ 6; decide) (by decide), fun p np => q p _ (same_new np) ?_⟩
        rw [upd_same]
        show some (HO.tup [V.str one, V.str other]) = some (HO.tup ((if other = "" then [one] else [one, other]).map V.str))
        rw [if_neg z]
        rfl
    | swap nme mo one other =>
      refine ⟨_, rfl, rfl, true, bl_of (decide_eq_true rfl), iteT ?_⟩
      exact ⟨_, rfl, 3, rfl, 5, rfl, a, _, rfl, SqT.of ha, no_whole (i := 3) (j := 5) (by show 3 ≤ 5; decide) (by decide), fun p np => q p _ (same_new np) (by rw [upd_same]; rfl)⟩
    | count nme mo g pl many hand =>
      refine ⟨_, rfl, rfl, false, bl_of c6, iteF ⟨_, rfl, rfl, false, bl_of m6, iteF ⟨_, rfl, rfl, false, bl_of s6, iteF ?_⟩⟩⟩
      exact ⟨_, rfl, 4, rfl, 5, rfl, a, _, rfl, SqT.of ha, no_whole (i := 4) (j := 5) (by show 4 ≤ 7; decide) (by decide), fun p np => q p _ (same_new np) (by rw [upd_same]; rfl)⟩
    | look nme mo g pl =>
      refine ⟨_, rfl, rfl, false, bl_of c7, iteF ⟨_, rfl, rfl, false, bl_of m7, iteF ⟨_, rfl, rfl, false, bl_of s7, iteF ?_⟩⟩⟩
      exact ⟨_, rfl, 4, rfl, 5, rfl, a, _, rfl, SqT.of ha, no_whole (i := 4) (j := 5) (by show 4 ≤ 5; decide) (by decide), fun p np => q p _ (same_new np) (by rw [upd_same]; rfl)⟩
theorem once_nodup : ∀ {xs : List Str}, xs.Nodup → once xs = xs := by
  intro xs
  have key : ∀ (l acc : List Str), (acc ++ l).Nodup → l.foldl (fun acc x => if acc.contains x = true then acc else acc ++ [x]) acc = acc ++ l := by
    intro l
    induction l with
    | nil => intro acc _; rw [List.append_nil]; rfl
    | cons x r ih =>
      intro acc h
      have nx : ¬ acc.contains x = true := fun z => by
        have hx : x ∈ acc := by simpa using z
        rw [List.nodup_append] at h
        exact h.2.2 x hx x List.mem_cons_self rfl
      rw [List.foldl_cons, if_neg nx]
      have e : acc ++ x :: r = (acc ++ [x]) ++ r := by rw [List.append_assoc]; rfl
      rw [e] at h ⊢
      exact ih _ h
  intro h
  exact key xs [] h
abbrev isN : List Str := ["thing", "sorts", "places", "part", "sort"]
theorem scIs : FnScope isN ["thing"] (defScope sIsEntry) := ⟨rfl, rfl, rfl, by decide +kernel, rfl, by decide +kernel, by decide +kernel⟩
theorem vals_cut (e : Ent) : cutV e.vals (some 1) none = e.parts := by
  have h : cutV e.vals (some ((1 : Nat) : Int)) none = e.parts := by
    unfold cutV
    rw [HT.sIx_nat, HT.sIx_none]
    have l : 1 ≤ e.vals.length := by show 1 ≤ _ + 1; omega
    rw [Nat.min_eq_left l]
    show (e.parts).take (e.parts.length + 1 - 1) = e.parts
    rw [Nat.add_sub_cancel]
    exact List.take_length
  exact h
theorem places_le (e : Ent) : e.places.length ≤ 2 := by
  cases e with
  | some_ n m g o t =>
    by_cases z : t = ""
    · rw [show Ent.places (.some_ n m g o t) = [o] from if_pos z]
      exact Nat.le_succ 1
    · rw [show Ent.places (.some_ n m g o t) = [o, t] from if_neg z]
      exact Nat.le_refl 2
  | move _ _ _ _ _ _ => exact Nat.le_refl 2
  | swap _ _ _ _ => exact Nat.le_refl 2
  | come _ _ _ _ _ _ => exact Nat.le_succ 1
  | go _ _ _ _ _ => exact Nat.le_succ 1
  | count _ _ _ _ _ _ => exact Nat.le_succ 1
  | look _ _ _ _ => exact Nat.le_succ 1
theorem ok_isEntry {f cE T1 T2 aF fF fP : Addr} {dF dP : FuncData} {oc kV doc pm ct : Value} {od an : Option Addr} {osl : Array (Option Value)} {es : Array DictEntry} {nE : Nat}
    (lk : K.lookup f = some ⟨oc, od, .func (PySem.W.fnOf "is_entry" "is_entry" (defArgs sIsEntry) (defBody sIsEntry) (defScope sIsEntry) .none kV doc pm an (.ref cE) ct), osl⟩) (cdI : PySem.W.codeIn K (.ref cE) "is_entry" = true)
    (TB : GxR.TabB base mg cE T2) (ne : T1 ≠ T2) (FI : DefT P w K mg base "fits" 2 fF dF ["part", "sort"] (spFits T1)) (PO : DefT P w K mg base "places_of" 1 fP dP ["entry"] spPlaces)
    (mi : mg "isinstance" = none) (mt : mg "tuple" = none) (ml : mg "len" = none) (mst : mg "str" = none) (ma : mg "all" = none) (mz : mg "zip" = none) (ms : mg "set" = none) (mF : mg "FORMS" = some (.ref aF)) (D : KDict K w aF es nE)
    (hF : ∀ e : Ent, ∃ aS, KDct K w aF e.word (.ref aS) ∧ ∀ H, SqT K H aS (e.sorts.map V.str)) :
    FnOk P w K mg base CX0 4 f (PySem.W.fnOf "is_entry" "is_entry" (defArgs sIsEntry) (defBody sIsEntry) (defScope sIsEntry) .none kV doc pm an (.ref cE) ct) ["thing"] (spIsEntry T1 T2) := by
  refine fn_of lk cdI scIs (fun vs H Q E h => ?_) (fun A outer s H vs Q E hr h => ?_)
  · obtain ⟨a, e, rfl, _⟩ := h
    rfl
  · obtain ⟨a, e, rfl, ha, fine, t1, t2, q⟩ := h
    have nd := scIs.nd
    have hr1 : Room 1 _ := hr.mono (by decide)
    refine ⟨_, pss_cons (ps_if (PW.pt (pw_or (pt_not (pt_val (pe_callB call_isi (by rfl) mi (by decide +kernel) (pa_cons (pv 0) (pa_cons (pe_bltn (v := .ty "tuple") (u := .type "tuple") (by rfl) mt (by decide +kernel) rfl) pa_nil)))))
          (pw_or1 (pt_cmpR op_eq (pe_callB call_len_seq (by rfl) ml PySem.boot_len (pa_cons (pv 0) pa_nil)) pe_int (nomark _))))) (pss_one (ps_ret pe_bl)) pss_nil)
      (pss_cons (ps_if (PW.pt (pw_or (pt_not (pt_val (pe_callB call_isi (by rfl) mi (by decide +kernel) (pa_cons (pe_ix ix_tup (pv 0) pe_int (fun _ _ => rfl)) (pa_cons (pe_bltn (v := .ty "str") (u := .type "str") (by rfl) mst (by decide +kernel) rfl) pa_nil)))))
          (pw_or1 (pt_cmpR (op_notIn_kd D) (pe_ix ix_tup (pv 0) pe_int (fun _ _ => rfl)) (pe_glob (v := .ref aF) rfl mF rfl) (by rfl))))) (pss_one (ps_ret pe_bl)) pss_nil)
      (pss_cons (ps_set (i := 1) nd rfl (Or.inl rfl) (pe_ix ix_kdict (pe_glob (v := .ref aF) rfl mF rfl) (pe_ix ix_tup (pv 0) pe_int (fun _ _ => rfl)) (fun _ _ => rfl)))
      (pss_cons (ps_if (pt_cmpR op_ne (pe_callB call_len_seq (by rfl) ml PySem.boot_len (pa_cons (pv 0) pa_nil)) (pe_op op_add (pe_callB call_len_seq (by rfl) ml PySem.boot_len (pa_cons (pv 1) pa_nil)) pe_int) (nomark _)) (pss_one (ps_ret pe_bl)) pss_nil)
      (pss_cons (ps_if (pt_not (pt_val (pe_allG (T := T2) (c := cE) (k := 2) (own := [("part", 3), ("sort", 4)]) (g := gTup K 2 (gCons (gName 3) (gCons (gName 4) gNil))) (tt := tYes) (te := tCall (spFits T1) [] E0 (tCons (tVar 3) (tCons (tVar 4) tNil)))
          hr (by rfl) ma rfl nd TB rfl ⟨blkOk_by (N := isN) (sc := defScope sIsEntry) (by decide +kernel), rfl, by decide +kernel, rfl⟩
          (RZ.pi_zipA (by rfl) mz (pa_cons (pe_slice sl_tup (pv 0) (po_some pe_int) po_none) (pa_cons (pv 1) pa_nil)))
          (fun _ _ _ _ _ _ => pg_tup (by rfl) (pgs_cons (pg_name (i := 3) nd rfl (Or.inl rfl)) (pgs_cons (pg_name (i := 4) nd rfl (Or.inl rfl)) pgs_nil)))
          (fun _ _ _ _ _ _ _ => pts_nil) (fun _ _ _ _ _ _ hr' => pe_call FI.ok hr' (by rfl) FI.g FI.kp FI.b .nil pass0 (pa_cons (pv 3) (pa_cons (pv 4) pa_nil)))))) (pss_one (ps_ret pe_bl)) pss_nil)
      (pss_cons (ps_set (i := 2) nd rfl (Or.inl rfl) (pe_call PO.ok hr1 (by rfl) PO.g PO.kp PO.b .nil pass0 (pa_cons (pv 0) pa_nil)))
      (pss_one (ps_ret (pe_cmpR op_eq (pe_lenSetX rfl (by rfl) ml (by rfl) ms (pv 2)) (pe_callB call_len_seq (by rfl) ml PySem.boot_len (pa_cons (pv 2) pa_nil)) (nomark _))))))))), ?_⟩
    obtain ⟨aS, kd, sq⟩ := hF e
    -- a tuple, not empty
    refine ⟨_, rfl, _, _, _, _, true, rfl, .ty "tuple", .base (.tup ha), kit_ty (by decide +kernel), _, rfl, iteF ?_⟩
    refine ⟨_, rfl, a, _, rfl, .inr (SqT.of ha), rfl, false, congrArg V.bl (decide_eq_false fun z => ?_), iteF ?_⟩
    · have z' : ((e.vals.length : Nat) : Int) = 0 := V.int.inj z
      have : e.vals.length = e.parts.length + 1 := rfl
      omega
    -- a word of the forms
    refine ⟨_, rfl, a, _, 0, _, rfl, rfl, SqT.of ha, at0 e, _, _, _, _, true, rfl, .ty "str", .base (.str e.word), kit_ty (by decide +kernel), _, rfl, iteF ?_⟩
    obtain ⟨es', n', u, hl, hlit, hns, ru⟩ := id kd
    refine ⟨_, rfl, a, _, 0, _, rfl, rfl, SqT.of ha, at0 e, e.word, some u, rfl, rfl, hns, _, rfl, iteF ?_⟩
    -- the sorts
    refine ⟨_, rfl, a, _, 0, _, rfl, rfl, SqT.of ha, at0 e, aF, e.word, _, rfl, rfl, kd, ?_⟩
    refine ⟨_, rfl, a, _, rfl, .inr (SqT.of ha), _, rfl, aS, _, rfl, .inr (sq H), _, 1, rfl, rfl, rfl, false, ?_, iteF ?_⟩
    · refine congrArg V.bl ?_
      have l1 : (e.vals.length : Int) = ((e.sorts.map V.str).length : Int) + 1 := by
        have : e.vals.length = e.parts.length + 1 := rfl
        rw [this, e.len_parts, List.length_map]
        rfl
      rw [l1, decide_eq_true rfl]
      rfl
    -- all fit
    refine ⟨_, rfl, 1, rfl, a, _, rfl, SqT.of ha, ?_, fun pp npp => ?_⟩
    · rintro ⟨z, _⟩
      rw [show HT.sIx e.vals.length 0 (some 1) = min 1 e.vals.length from HT.sIx_nat _ _ 1] at z
      have : e.vals.length = e.parts.length + 1 := rfl
      omega
    have sp := @same_new _ _ (.tup (cutV e.vals (some 1) none)) npp
    refine ⟨_, rfl, pp, aS, cutV e.vals (some 1) none, e.sorts.map V.str, rfl, .inr ⟨SqT.of upd_same, sq _, tabg_same sp t2, fun H2 tb2 => ?_⟩⟩
    have hpp : (upd H pp (.tup (cutV e.vals (some 1) none))) pp = some (.tup e.parts) := by rw [upd_same, vals_cut]
    have b0 : TB2 T1 T2 H H2 := (TB2.same t1 t2 sp).tr (.two ne (tabg_same sp t1) tb2)
    have b1 : TB2 T1 T2 (upd H pp (.tup (cutV e.vals (some 1) none))) H2 := .two ne (tabg_same sp t1) tb2
    have hp2 : H2 pp = some (.tup e.parts) := b1.keep (tabg_same sp t1) (tabg_same sp t2) hpp (by intro ps z; cases z)
    refine ⟨fun i m H' => m = e.parts.length - i ∧ i ≤ e.parts.length ∧ H' pp = some (.tup e.parts) ∧ TB2 T1 T2 H H', ⟨_, rfl, Nat.zero_le _, hp2, b0⟩, ?_⟩
    rintro i m H3 ⟨rfl, hi, hp3, b3⟩
    by_cases lt : i < e.parts.length
    · refine .inr ⟨⟨e.parts, e.sorts.map V.str, e.parts[i], .str (e.sorts[i]'(by rw [← e.len_parts]; exact lt)), SqT.of hp3, sq _, List.getElem?_eq_getElem lt, ?_⟩, fun v H4 y => ?_⟩
      · rw [List.getElem?_map, List.getElem?_eq_getElem (by rw [← e.len_parts]; exact lt)]
        rfl
      · obtain ⟨TT, x', y', rfl, nT, rfl, f1, f2⟩ := y
        have g1 := f1 e.parts (SqT.of hp3)
        have g2 := f2 (e.sorts.map V.str) (sq _)
        rw [List.getElem?_map] at g2
        obtain ⟨srt, hsrt, rfl⟩ := Option.map_eq_some_iff.mp g2
        obtain ⟨prt, fit⟩ := fine.fit i x' srt g1 hsrt
        have s4 := @same_new _ _ (.tup [x', V.str srt]) nT
        have b4 : TB2 T1 T2 H (upd H3 TT (.tup [x', V.str srt])) := b3.tr (.same b3.2.1 b3.2.2 s4)
        refine ⟨TT, _, rfl, SqT.of upd_same, rfl, _, _, rfl, _, _, rfl, rfl, rfl, yesT ?_⟩
        refine ⟨_, rfl, _, rfl, x', srt, rfl, prt, e.sorts_in srt (List.mem_of_getElem? hsrt), b4.2.1, fun H5 tb5 => ?_⟩
        have b5 : TB2 T1 T2 H H5 := b4.tr (.one ne b4.2.2 tb5)
        have b45 : TB2 T1 T2 (upd H3 TT (.tup [x', V.str srt])) H5 := .one ne b4.2.2 tb5
        rw [fit]
        exact ⟨true, rfl, iteT ⟨_, by omega, rfl, lt, b45.keep b4.2.1 b4.2.2 (s4 _ _ hp3) (by intro ps z; cases z), b5⟩⟩
    · have ei : i = e.parts.length := by omega
      refine .inl ⟨⟨e.parts, e.sorts.map V.str, SqT.of hp3, sq _, .inl (by omega)⟩, ?_⟩
      refine ⟨true, rfl, iteF ?_⟩
      -- unlike places
      have ha3 : H3 a = some (.tup e.vals) := b3.keep t1 t2 ha (by intro ps z; cases z)
      refine ⟨_, rfl, a, e, rfl, ha3, fun tp H4 s4 ht => ?_⟩
      refine ⟨_, rfl, tp, e.places, rfl, SqT.of ht, Nat.le_trans (places_le e) (by decide), _, rfl, tp, _, rfl, .inr (SqT.of ht), rfl, ?_⟩
      rw [once_nodup fine.apart, List.length_map, decide_eq_true rfl]
      exact q H4 (b3.tr (.same b3.2.1 b3.2.2 s4))
end
/-! ### what is drawn is fine -/
theorem name_len {y : Str} (h : nameB y = true) : 1 ≤ y.length ∧ y.length ≤ 8 := by
  unfold nameB at h
  rw [Bool.and_eq_true, Bool.and_eq_true, decide_eq_true_eq, decide_eq_true_eq] at h
  exact h.1
theorem name_ne {y : Str} (h : nameB y = true) : y ≠ "" := fun z => by
  have := (name_len h).1
  rw [z] at this
  exact absurd this (by decide +kernel)
theorem kmn : ¬ ("moment" : Str) = "name" := by decide +kernel
theorem kme : ¬ ("moment" : Str) = "end" := by decide +kernel
theorem kyn : ¬ ("many" : Str) = "name" := by decide +kernel
theorem kye : ¬ ("many" : Str) = "end" := by decide +kernel
theorem kym : ¬ ("many" : Str) = "moment" := by decide +kernel
theorem kcn : ¬ ("counted" : Str) = "name" := by decide +kernel
theorem kce : ¬ ("counted" : Str) = "end" := by decide +kernel
theorem kcm : ¬ ("counted" : Str) = "moment" := by decide +kernel
theorem kcy : ¬ ("counted" : Str) = "many" := by decide +kernel
theorem kpn : ¬ ("price" : Str) = "name" := by decide +kernel
theorem kpe : ¬ ("price" : Str) = "end" := by decide +kernel
theorem kpm : ¬ ("price" : Str) = "moment" := by decide +kernel
theorem kpy : ¬ ("price" : Str) = "many" := by decide +kernel
theorem ken : ¬ ("end" : Str) = "name" := by decide +kernel
theorem fit_name {y : Str} (h : nameB y = true) : Part (.str y) ∧ fitB (.str y) "name" = true := by
  refine ⟨.inl ⟨y, rfl, by have := (name_len h).2; omega⟩, ?_⟩
  unfold fitB
  rw [if_pos rfl]
  exact h
theorem fit_end {y : Str} (h : y = "" ∨ nameB y = true) : Part (.str y) ∧ fitB (.str y) "end" = true := by
  have e : fitB (.str y) "end" = (decide (V.str y = .str "") || nameB y) := by
    unfold fitB
    rw [if_neg ken, if_pos rfl]
    rfl
  rcases h with rfl | h
  · exact ⟨.inl ⟨_, rfl, Nat.zero_le _⟩, by rw [e, decide_eq_true rfl]; rfl⟩
  · exact ⟨.inl ⟨y, rfl, by have := (name_len h).2; omega⟩, by rw [e, h, Bool.or_true]⟩
theorem fit_moment {m : Int} (h0 : 0 ≤ m) (h1 : m ≤ 9999) : Part (.int m) ∧ fitB (.int m) "moment" = true := by
  refine ⟨.inr ⟨m, rfl⟩, ?_⟩
  unfold fitB inB bnd
  rw [if_neg kmn, if_neg kme, if_pos rfl]
  simp [h0, h1]
theorem fit_many {m : Int} (h0 : 1 ≤ m) (h1 : m ≤ 1000000000) : Part (.int m) ∧ fitB (.int m) "many" = true := by
  refine ⟨.inr ⟨m, rfl⟩, ?_⟩
  unfold fitB inB bnd
  rw [if_neg kyn, if_neg kye, if_neg kym, if_pos rfl]
  simp [h0, h1]
theorem fit_counted {m : Int} (h0 : 0 ≤ m) (h1 : m ≤ 1000000000) : Part (.int m) ∧ fitB (.int m) "counted" = true := by
  refine ⟨.inr ⟨m, rfl⟩, ?_⟩
  unfold fitB inB bnd
  rw [if_neg kcn, if_neg kce, if_neg kcm, if_neg kcy]
  simp [h0, h1]
theorem fit_price {m : Int} (h0 : 0 ≤ m) (h1 : m ≤ 1000000000) : Part (.int m) ∧ fitB (.int m) "price" = true := by
  refine ⟨.inr ⟨m, rfl⟩, ?_⟩
  unfold fitB inB bnd
  rw [if_neg kpn, if_neg kpe, if_neg kpm, if_neg kpy]
  simp [h0, h1]
theorem nd1 (x : Str) : [x].Nodup := List.nodup_cons.mpr ⟨fun z => (nomatch z), List.nodup_nil⟩
theorem zip_at {α β : Type} {xs : List α} {ys : List β} {i : Nat} {x : α} {y : β} (h1 : xs[i]? = some x) (h2 : ys[i]? = some y) : (x, y) ∈ xs.zip ys :=
  List.mem_of_getElem? (List.getElem?_zip_eq_some.mpr ⟨h1, h2⟩)
theorem fine_of {PL GL HL : List Str} {e : Ent} (h : e.From PL GL HL) (nd : PL.Nodup) (np : ∀ y ∈ PL, nameB y = true) (ng : ∀ y ∈ GL, nameB y = true) (nh : ∀ y ∈ HL, nameB y = true) (nn : nameB e.name = true) (m0 : 0 ≤ e.moment) (m1 : e.moment ≤ 9999) :
    e.Fine ∧ ∀ y ∈ e.places, nameB y = true := by
  have two : ∀ {o t : Str}, o ≠ t → [o, t].Nodup := fun h => List.nodup_cons.mpr ⟨fun z => h (List.mem_singleton.mp z), nd1 _⟩
  cases e with
  | come n m g p k r =>
    obtain ⟨h1, h2, h3, h4, h5, h6⟩ := h
    refine ⟨⟨fun i v x hv hx => ?_, nd1 _⟩, fun y hy => by rw [List.mem_singleton.mp hy]; exact np p h2⟩
    have hz := zip_at hv hx
    simp only [Ent.parts, Ent.sorts, Ent.rest, List.zip_cons_cons, List.zip_nil_left, List.mem_cons, List.not_mem_nil, or_false, Prod.mk.injEq] at hz
    rcases hz with ⟨rfl, rfl⟩ | ⟨rfl, rfl⟩ | ⟨rfl, rfl⟩ | ⟨rfl, rfl⟩ | ⟨rfl, rfl⟩ | ⟨rfl, rfl⟩
    · exact fit_name nn
    · exact fit_moment m0 m1
    · exact fit_name (ng g h1)
    · exact fit_name (np p h2)
    · exact fit_many h3 h4
    · exact fit_price h5 h6
  | go n m g p k =>
    obtain ⟨h1, h2, h3, h4⟩ := h
    refine ⟨⟨fun i v x hv hx => ?_, nd1 _⟩, fun y hy => by rw [List.mem_singleton.mp hy]; exact np p h2⟩
    have hz := zip_at hv hx
    simp only [Ent.parts, Ent.sorts, Ent.rest, List.zip_cons_cons, List.zip_nil_left, List.mem_cons, List.not_mem_nil, or_false, Prod.mk.injEq] at hz
    rcases hz with ⟨rfl, rfl⟩ | ⟨rfl, rfl⟩ | ⟨rfl, rfl⟩ | ⟨rfl, rfl⟩ | ⟨rfl, rfl⟩
    · exact fit_name nn
    · exact fit_moment m0 m1
    · exact fit_name (ng g h1)
    · exact fit_name (np p h2)
    · exact fit_many h3 h4
  | move n m g o t k =>
    obtain ⟨h1, h2, h3, h4, h5, h6⟩ := h
    refine ⟨⟨fun i v x hv hx => ?_, two (h4 nd)⟩, fun y hy => ?_⟩
    · have hz := zip_at hv hx
      simp only [Ent.parts, Ent.sorts, Ent.rest, List.zip_cons_cons, List.zip_nil_left, List.mem_cons, List.not_mem_nil, or_false, Prod.mk.injEq] at hz
      rcases hz with ⟨rfl, rfl⟩ | ⟨rfl, rfl⟩ | ⟨rfl, rfl⟩ | ⟨rfl, rfl⟩ | ⟨rfl, rfl⟩ | ⟨rfl, rfl⟩
      · exact fit_name nn
      · exact fit_moment m0 m1
      · exact fit_name (ng g h1)
      · exact fit_name (np o h2)
      · exact fit_name (np t h3)
      · exact fit_many h5 h6
    · simp only [Ent.places, List.mem_cons, List.not_mem_nil, or_false] at hy
      rcases hy with rfl | rfl
      · exact np _ h2
      · exact np _ h3
  | some_ n m g o t =>
    obtain ⟨h1, h2, h3⟩ := h
    refine ⟨⟨fun i v x hv hx => ?_, ?_⟩, fun y hy => ?_⟩
    · have hz := zip_at hv hx
      simp only [Ent.parts, Ent.sorts, Ent.rest, List.zip_cons_cons, List.zip_nil_left, List.mem_cons, List.not_mem_nil, or_false, Prod.mk.injEq] at hz
      rcases hz with ⟨rfl, rfl⟩ | ⟨rfl, rfl⟩ | ⟨rfl, rfl⟩ | ⟨rfl, rfl⟩ | ⟨rfl, rfl⟩
      · exact fit_name nn
      · exact fit_moment m0 m1
      · exact fit_name (ng g h1)
      · exact fit_name (np o h2)
      · exact fit_end (h3.imp id fun z => np t z.1)
    · show (if t = "" then [o] else [o, t]).Nodup
      by_cases z : t = ""
      · rw [if_pos z]; exact nd1 _
      · rw [if_neg z]; exact two ((h3.resolve_left z).2 nd)
    · have hy' : y ∈ (if t = "" then [o] else [o, t]) := hy
      by_cases z : t = ""
      · rw [if_pos z] at hy'
        rw [List.mem_singleton.mp hy']
        exact np o h2
      · rw [if_neg z] at hy'
        simp only [List.mem_cons, List.not_mem_nil, or_false] at hy'
        rcases hy' with rfl | rfl
        · exact np _ h2
        · exact np _ (h3.resolve_left z).1
  | swap n m o t =>
    obtain ⟨h1, h2, h3⟩ := h
    refine ⟨⟨fun i v x hv hx => ?_, two (h3 nd)⟩, fun y hy => ?_⟩
    · have hz := zip_at hv hx
      simp only [Ent.parts, Ent.sorts, Ent.rest, List.zip_cons_cons, List.zip_nil_left, List.mem_cons, List.not_mem_nil, or_false, Prod.mk.injEq] at hz
      rcases hz with ⟨rfl, rfl⟩ | ⟨rfl, rfl⟩ | ⟨rfl, rfl⟩ | ⟨rfl, rfl⟩
      · exact fit_name nn
      · exact fit_moment m0 m1
      · exact fit_name (np o h1)
      · exact fit_name (np t h2)
    · simp only [Ent.places, List.mem_cons, List.not_mem_nil, or_false] at hy
      rcases hy with rfl | rfl
      · exact np _ h1
      · exact np _ h2
  | count n m g p k hd =>
    obtain ⟨h1, h2, h3, h4, h5⟩ := h
    refine ⟨⟨fun i v x hv hx => ?_, nd1 _⟩, fun y hy => by rw [List.mem_singleton.mp hy]; exact np p h2⟩
    have hz := zip_at hv hx
    simp only [Ent.parts, Ent.sorts, Ent.rest, List.zip_cons_cons, List.zip_nil_left, List.mem_cons, List.not_mem_nil, or_false, Prod.mk.injEq] at hz
    rcases hz with ⟨rfl, rfl⟩ | ⟨rfl, rfl⟩ | ⟨rfl, rfl⟩ | ⟨rfl, rfl⟩ | ⟨rfl, rfl⟩ | ⟨rfl, rfl⟩
    · exact fit_name nn
    · exact fit_moment m0 m1
    · exact fit_name (ng g h1)
    · exact fit_name (np p h2)
    · exact fit_counted h3 h4
    · exact fit_name (nh hd h5)
  | look n m g p =>
    obtain ⟨h1, h2⟩ := h
    refine ⟨⟨fun i v x hv hx => ?_, nd1 _⟩, fun y hy => by rw [List.mem_singleton.mp hy]; exact np p h2⟩
    have hz := zip_at hv hx
    simp only [Ent.parts, Ent.sorts, Ent.rest, List.zip_cons_cons, List.zip_nil_left, List.mem_cons, List.not_mem_nil, or_false, Prod.mk.injEq] at hz
    rcases hz with ⟨rfl, rfl⟩ | ⟨rfl, rfl⟩ | ⟨rfl, rfl⟩ | ⟨rfl, rfl⟩
    · exact fit_name nn
    · exact fit_moment m0 m1
    · exact fit_name (ng g h1)
    · exact fit_name (np p h2)
/-! ### the order of entries, by the law -/
def Ent.rank : Ent → Int
  | .swap .. => 0 | .come .. => 1 | .go .. => 1 | .move .. => 1 | .some_ .. => 1 | .count .. => 2 | .look .. => 2
def ordV (e : Ent) : List V := [.int e.moment, .int e.rank, .str e.name]
def ordD (e : Ent) : PyData := .tuple [.int e.moment, .int e.rank, .str e.name]
theorem ord_dp {K : PySem.W.Frag} {H : Hp} {tp : Addr} {e : Ent} (h : H tp = some (.tup (ordV e))) : Dp K H (.ref tp) (ordD e) := .tup (SqT.of h) (.cons (.int _) (.cons (.int _) (.cons (.str _) .nil)))
theorem ord_alike (e g : Ent) : PySem.W.alike (ordD e) (ordD g) = true := rfl
def spOrd : Sp := fun vs H Q _ => ∃ (a : Addr) (e : Ent), vs = [.ref a] ∧ H a = some (.tup e.vals) ∧ ∀ (tp : Addr) (H' : Hp), Same H H' → H' tp = some (.tup (ordV e)) → Q (.ref tp) H'
def rankW (x : Str) : Int := 1 - (if decide (V.str x = V.str "swap") = true then 1 else 0) + (if inV (V.str x) [V.str "count", V.str "look"] = true then 1 else 0)
theorem rank_own (e : Ent) : rankW e.word = e.rank := by
  have h1 : rankW "come" = 1 := by decide +kernel
  have h2 : rankW "go" = 1 := by decide +kernel
  have h3 : rankW "move" = 1 := by decide +kernel
  have h4 : rankW "some" = 1 := by decide +kernel
  have h5 : rankW "swap" = 0 := by decide +kernel
  have h6 : rankW "count" = 2 := by decide +kernel
  have h7 : rankW "look" = 2 := by decide +kernel
  cases e
  · exact h1
  · exact h2
  · exact h3
  · exact h4
  · exact h5
  · exact h6
  · exact h7
section
variable {P : Program} {w : World} {K : PySem.W.Frag} {mg : Str → Option Value} {base : Heap}
theorem scOwn : FnScope ["_law_entry_here", "_law_rank"] ["_law_entry_here"] (defScope sOwn) := ⟨rfl, rfl, rfl, by decide +kernel, rfl, by decide +kernel, by decide +kernel⟩
theorem at1 (e : Ent) : atI e.vals 1 = some (.str e.name) := atI_nat (j := 1) rfl
theorem ok_own {f : Addr} {fd : FuncData} (F : Fun K "_law_order" "_law_order" sOwn f fd) (mi : mg "int" = none) : FnOk P w K mg base CX0 1 f fd ["_law_entry_here"] spOrd := by
  refine F.ok scOwn (fun vs H Q E h => ?_) (fun cdv A outer s H vs Q E hr h => ?_)
  · obtain ⟨a, e, rfl, _⟩ := h
    rfl
  · obtain ⟨a, e, rfl, ha, q⟩ := h
    refine ⟨_, pss_cons (ps_set (i := 1) scOwn.nd rfl (Or.inl rfl) (pe_op op_add (pe_op op_sub pe_int (pe_callTy call_int1 (by rfl) mi (by decide +kernel) (pa_cons (pe_cmpR op_eq (pe_ix ix_tup (pv 0) pe_int (fun _ _ => rfl)) pe_str (nomark _)) pa_nil)))
        (pe_callTy call_int1 (by rfl) mi (by decide +kernel) (pa_cons (pe_cmpR op_in_seq (pe_ix ix_tup (pv 0) pe_int (fun _ _ => rfl)) (pe_tup (pa_cons pe_str (pa_cons pe_str pa_nil))) (by rfl)) pa_nil))))
      (pss_one (ps_ret (pe_tup (pa_cons (pe_ix ix_tup (pv 0) pe_int (fun _ _ => rfl)) (pa_cons (pv 1) (pa_cons (pe_ix ix_tup (pv 0) pe_int (fun _ _ => rfl)) pa_nil)))))), ?_⟩
    refine ⟨_, rfl, a, _, 0, _, rfl, rfl, SqT.of ha, at0 e, rfl, .inr ⟨_, rfl, 1, _, rfl, rfl, _, rfl, a, _, 0, _, rfl, rfl, SqT.of ha, at0 e, (by show 2 ≤ sizeLine; decide), fun t nt => ?_⟩⟩
    have s1 := @same_new _ _ (.tup [V.str "count", .str "look"]) nt
    refine ⟨t, _, rfl, .inr (SqT.of upd_same), rfl, ?_, .inr ⟨_, rfl, _, _, rfl, rfl, ?_⟩⟩
    · rfl
    · refine ⟨_, rfl, a, _, 2, _, rfl, rfl, SqT.of (s1 _ _ ha), at2 e, _, rfl, _, rfl, a, _, 1, _, rfl, rfl, SqT.of (s1 _ _ ha), at1 e, (by show 3 ≤ sizeLine; decide), fun tp ntp => ?_⟩
      refine q tp _ (s1.trans (same_new ntp)) ?_
      rw [upd_same]
      exact congrArg (fun k => some (HO.tup [V.int e.moment, V.int k, V.str e.name])) (rank_own e)
end
section
variable {P : Program} {w : World} {K : PySem.W.Frag} {mg : Str → Option Value} {base : Heap}
theorem scOrd : FnScope ["entry"] ["entry"] (defScope sOrd) := ⟨rfl, rfl, rfl, by decide +kernel, rfl, by decide +kernel, by decide +kernel⟩
theorem ok_ord {f aR : Addr} {fd : FuncData} (F : Fun K "order_of" "order_of" sOrd f fd) (mR : mg "RANKS" = some (.ref aR)) (hR : ∀ e : Ent, KDct K w aR e.word (.int e.rank)) : FnOk P w K mg base CX0 1 f fd ["entry"] spOrd := by
  refine F.ok scOrd (fun vs H Q E h => ?_) (fun cdv A outer s H vs Q E hr h => ?_)
  · obtain ⟨a, e, rfl, _⟩ := h
    rfl
  · obtain ⟨a, e, rfl, ha, q⟩ := h
    refine ⟨_, pss_one (ps_ret (pe_tup (pa_cons (pe_ix ix_tup (pv 0) pe_int (fun _ _ => rfl)) (pa_cons (pe_ix ix_kdict (pe_glob (v := .ref aR) rfl mR rfl) (pe_ix ix_tup (pv 0) pe_int (fun _ _ => rfl)) (fun _ _ => rfl)) (pa_cons (pe_ix ix_tup (pv 0) pe_int (fun _ _ => rfl)) pa_nil))))), ?_⟩
    refine ⟨_, rfl, a, _, 2, _, rfl, rfl, SqT.of ha, at2 e, _, rfl, a, _, 0, _, rfl, rfl, SqT.of ha, at0 e, aR, e.word, _, rfl, rfl, hR e, _, rfl, a, _, 1, _, rfl, rfl, SqT.of ha, at1 e, (by show 3 ≤ sizeLine; decide), fun tp ntp => ?_⟩
    exact q tp _ (same_new ntp) upd_same
end
/-! ### houses -/
def TK (H H' : Hp) : Prop := ∀ a xs, H a = some (.tup xs) → H' a = some (.tup xs)
theorem TK.of {H H' : Hp} (s : Same H H') : TK H H' := fun a xs e => s a _ e
theorem TK.tr {H H1 H2 : Hp} (a : TK H H1) (b : TK H1 H2) : TK H H2 := fun c xs e => b c xs (a c xs e)
theorem TK.but {H H' : Hp} {p c : Addr} {n : Nat} (pen : PenAt H p c n) (b : But p H H') : TK H H' := fun a xs e => by
  obtain ⟨kvs, ns', a', x', g1, _⟩ := pen.ex
  exact b a _ e (ne_of e g1 (by intro z; cases z))
theorem TK.upd {H : Hp} {l : Addr} {o : HO} (n : ∀ xs, H l ≠ some (.tup xs)) : TK H (upd H l o) := fun a xs e => by
  by_cases z : a = l
  · rw [z] at e
    exact absurd e (n xs)
  · exact (upd_ne z).trans e
/-- each address holds its entry -/
inductive EntsAt (H : Hp) : List Addr → List Ent → Prop
  | nil : EntsAt H [] []
  | cons {a : Addr} {e : Ent} {as : List Addr} {es : List Ent} : H a = some (.tup e.vals) → EntsAt H as es → EntsAt H (a :: as) (e :: es)
theorem EntsAt.on {H H' : Hp} (k : TK H H') {as : List Addr} {es : List Ent} (h : EntsAt H as es) : EntsAt H' as es := by
  induction h with
  | nil => exact .nil
  | cons a _ ih => exact .cons (k _ _ a) ih
theorem EntsAt.len {H : Hp} {as : List Addr} {es : List Ent} (h : EntsAt H as es) : as.length = es.length := by
  induction h with
  | nil => rfl
  | cons _ _ ih => simp [ih]
theorem EntsAt.snoc {H : Hp} {a : Addr} {e : Ent} {as : List Addr} {es : List Ent} (h : EntsAt H as es) (q : H a = some (.tup e.vals)) : EntsAt H (as ++ [a]) (es ++ [e]) := by
  induction h with
  | nil => exact .cons q .nil
  | cons a _ ih => exact .cons a ih
theorem EntsAt.get {H : Hp} {as : List Addr} {es : List Ent} (h : EntsAt H as es) : ∀ {i : Nat} {a : Addr}, as[i]? = some a → ∃ e, es[i]? = some e ∧ H a = some (.tup e.vals) := by
  induction h with
  | nil => intro i a q; cases q
  | @cons a0 e0 as es q _ ih =>
    intro i a z
    cases i with
    | zero => exact ⟨e0, rfl, by rw [← Option.some.inj z]; exact q⟩
    | succ n => exact ih (i := n) z
structure HouseAt (H : Hp) (h : Addr) (P G : List Str) (es : List Ent) : Prop where
  ex : ∃ (hp hg he : Addr) (tps : List Addr), H h = some (.tup [.ref hp, .ref hg, .ref he]) ∧ H hp = some (.tup (P.map V.str)) ∧ H hg = some (.tup (G.map V.str)) ∧ H he = some (.tup (tps.map V.ref)) ∧ EntsAt H tps es
theorem HouseAt.on {H H' : Hp} (k : TK H H') {h : Addr} {P G : List Str} {es : List Ent} (x : HouseAt H h P G es) : HouseAt H' h P G es := by
  obtain ⟨hp, hg, he, tps, h1, h2, h3, h4, h5⟩ := x.ex
  exact ⟨hp, hg, he, tps, k _ _ h1, k _ _ h2, k _ _ h3, k _ _ h4, h5.on k⟩
/-- what holds of a house that a law makes -/
structure Good (P G : List Str) (es : List Ent) (m : Nat) : Prop where
  nd : P.Nodup
  ne : P ≠ []
  le : P.length ≤ 6
  nm : ∀ y ∈ P, nameB y = true
  ge : G ≠ []
  gl : G.length ≤ 3
  gn : ∀ y ∈ G, nameB y = true
  gd : G.Nodup
  many : es.length = m
  ents : ∀ e ∈ es, nameB e.name = true ∧ 0 ≤ e.moment ∧ e.moment ≤ 9999 ∧ ∃ HL : List Str, (∀ y ∈ HL, nameB y = true) ∧ e.From P G HL
theorem From.perm {e : Ent} {P P' G G' HL : List Str} (h : e.From P G HL) (p : P'.Perm P) (g : G'.Perm G) : e.From P' G' HL := by
  have nd : P'.Nodup → P.Nodup := fun z => p.nodup_iff.mp z
  cases e with
  | come n m gg pl k r => exact ⟨g.mem_iff.mpr h.1, p.mem_iff.mpr h.2.1, h.2.2⟩
  | go n m gg pl k => exact ⟨g.mem_iff.mpr h.1, p.mem_iff.mpr h.2.1, h.2.2⟩
  | move n m gg o t k => exact ⟨g.mem_iff.mpr h.1, p.mem_iff.mpr h.2.1, p.mem_iff.mpr h.2.2.1, fun z => h.2.2.2.1 (nd z), h.2.2.2.2⟩
  | some_ n m gg o t => exact ⟨g.mem_iff.mpr h.1, p.mem_iff.mpr h.2.1, h.2.2.imp id fun z => ⟨p.mem_iff.mpr z.1, fun q => z.2 (nd q)⟩⟩
  | swap n m o t => exact ⟨p.mem_iff.mpr h.1, p.mem_iff.mpr h.2.1, fun z => h.2.2 (nd z)⟩
  | count n m gg pl k hd => exact ⟨g.mem_iff.mpr h.1, p.mem_iff.mpr h.2.1, h.2.2⟩
  | look n m gg pl => exact ⟨g.mem_iff.mpr h.1, p.mem_iff.mpr h.2⟩
/-! the house as data -/
def dV : V → PyData
  | .str x => .str x
  | .int i => .int i
  | _ => .none
def entD (e : Ent) : PyData := .tuple (e.vals.map dV)
def houseD (P G : List Str) (es : List Ent) : PyData := .tuple [.tuple (P.map .str), .tuple (G.map .str), .tuple (es.map entD)]
theorem dp_strs {K : PySem.W.Frag} {H : Hp} : ∀ ys : List Str, DpAll K H (ys.map V.str) (ys.map PyData.str)
  | [] => .nil
  | y :: r => .cons (.str y) (dp_strs r)
theorem dp_ent {K : PySem.W.Frag} {H : Hp} {a : Addr} {e : Ent} (h : H a = some (.tup e.vals)) : Dp K H (.ref a) (entD e) := by
  refine .tup (SqT.of h) ?_
  cases e <;> (repeat' (first | exact .nil | refine .cons (.str _) ?_ | refine .cons (.int _) ?_))
theorem dp_ents {K : PySem.W.Frag} {H : Hp} {as : List Addr} {es : List Ent} (h : EntsAt H as es) : DpAll K H (as.map V.ref) (es.map entD) := by
  induction h with
  | nil => exact .nil
  | cons a _ ih => exact .cons (dp_ent a) ih
theorem HouseAt.dp {K : PySem.W.Frag} {H : Hp} {h : Addr} {P G : List Str} {es : List Ent} (x : HouseAt H h P G es) : Dp K H (.ref h) (houseD P G es) := by
  obtain ⟨hp, hg, he, tps, h1, h2, h3, h4, h5⟩ := x.ex
  exact .tup (SqT.of h1) (.cons (.tup (SqT.of h2) (dp_strs P)) (.cons (.tup (SqT.of h3) (dp_strs G)) (.cons (.tup (SqT.of h4) (dp_ents h5)) .nil)))
/-! its text isn't long -/
structure Short (d : PyData) (n k : Nat) : Prop where
  sh : d.showable = true
  nd : d.hasDict = false
  ls : d.leavesShort 13 = true
  bk : d.bulk ≤ n
  dp : d.depth ≤ k
theorem short_str {y : Str} (h : nameB y = true ∨ y = "" ∨ y ∈ words7) : Short (.str y) 8 0 := by
  have lo : y.cps.toList.all (fun c => decide (c < 16 ^ 8)) = true ∧ y.cps.size ≤ 8 := by
    rcases h with h | rfl | h
    · unfold nameB at h
      rw [Bool.and_eq_true, Bool.and_eq_true] at h
      have l8 : y.length ≤ 8 := of_decide_eq_true h.1.2
      refine ⟨List.all_eq_true.mpr fun c hc => decide_eq_true ?_, l8⟩
      have q : ∀ c ∈ abc.cps.toList, c < 16 ^ 8 := by decide +kernel
      exact q c (of_decide_eq_true (List.all_eq_true.mp h.2 c hc))
    · exact ⟨rfl, Nat.zero_le _⟩
    · simp only [words7, List.mem_cons, List.not_mem_nil, or_false] at h
      rcases h with rfl | rfl | rfl | rfl | rfl | rfl | rfl <;> exact ⟨by decide +kernel, by decide +kernel⟩
  exact ⟨rfl, rfl, lo.1, lo.2, Nat.zero_le _⟩
theorem short_int {i : Int} (h0 : 0 ≤ i) (h1 : i ≤ 1000000000) : Short (.int i) 8 0 := by
  have e : (PyData.shown (.int i)).length ≤ 13 := Nat.le_trans (toString_length_le h0 (k := 10) (by decide) (by omega)) (by decide)
  refine ⟨?_, rfl, decide_eq_true e, Nat.zero_le _, Nat.zero_le _⟩
  show decide (i.natAbs.log2 < 1920) = true
  refine decide_eq_true ?_
  by_cases z : i.natAbs = 0
  · rw [z]
    decide
  · exact Nat.lt_trans ((Nat.log2_lt z).mpr (show i.natAbs < 2 ^ 30 by omega)) (by decide)
theorem short_all {n k : Nat} : ∀ {ds : List PyData}, (∀ d ∈ ds, Short d n k) → PyData.showableAll ds = true ∧ PyData.hasDictAll ds = false ∧ PyData.leavesShortAll 13 ds = true ∧ PyData.bulkAll ds ≤ ds.length * (n + 1) ∧ PyData.depthAll ds ≤ k
  | [], _ => ⟨rfl, rfl, rfl, Nat.le_of_eq (by simp [PyData.bulkAll]), Nat.zero_le _⟩
  | d :: ds, h => by
    have h1 := h d List.mem_cons_self
    obtain ⟨a1, a2, a3, a4, a5⟩ := short_all fun x hx => h x (List.mem_cons_of_mem _ hx)
    refine ⟨?_, ?_, ?_, ?_, ?_⟩
    · rw [PyData.showableAll, h1.sh, a1]
      rfl
    · rw [PyData.hasDictAll, h1.nd, a2]
      rfl
    · rw [PyData.leavesShortAll, h1.ls, a3]
      rfl
    · rw [PyData.bulkAll, List.length_cons, Nat.succ_mul]
      have := h1.bk
      omega
    · rw [PyData.depthAll]
      exact Nat.max_le.mpr ⟨h1.dp, a5⟩
theorem short_tup {n k m : Nat} {ds : List PyData} (h : ∀ d ∈ ds, Short d n k) (l : ds.length * (n + 1) ≤ m) : Short (.tuple ds) m (k + 1) := by
  obtain ⟨a1, a2, a3, a4, a5⟩ := short_all h
  refine ⟨?_, ?_, ?_, ?_, ?_⟩
  · rw [PyData.showable]; exact a1
  · rw [PyData.hasDict]; exact a2
  · rw [PyData.leavesShort]; exact a3
  · rw [PyData.bulk]; omega
  · rw [PyData.depth]; omega
theorem Short.mono {d : PyData} {n k n' k' : Nat} (h : Short d n k) (hn : n ≤ n') (hk : k ≤ k') : Short d n' k' := ⟨h.sh, h.nd, h.ls, Nat.le_trans h.bk hn, Nat.le_trans h.dp hk⟩
theorem Short.fits {d : PyData} {n k : Nat} (h : Short d n k) (hn : n ≤ 100000) : d.shown.length ≤ sizeLine := by
  have q := PyData.shown_le_bulk 13 (by decide) d h.ls
  have := h.bk
  rw [sizeLine_eq]
  omega
theorem short_names {ys : List Str} (h : ∀ y ∈ ys, nameB y = true) (l : ys.length ≤ 31) : Short (.tuple (ys.map .str)) 300 1 := by
  refine short_tup (n := 8) (k := 0) (fun d hd => ?_) (by rw [List.length_map]; omega)
  obtain ⟨y, hy, rfl⟩ := List.mem_map.mp hd
  exact short_str (.inl (h y hy))
theorem short_ent {e : Ent} {P G HL : List Str} (nn : nameB e.name = true) (m0 : 0 ≤ e.moment) (m1 : e.moment ≤ 9999) (hP : ∀ y ∈ P, nameB y = true) (hG : ∀ y ∈ G, nameB y = true) (hH : ∀ y ∈ HL, nameB y = true) (h : e.From P G HL) : Short (entD e) 70 1 := by
  have w : ∀ {x : Str}, x ∈ words7 → Short (.str x) 8 0 := fun hx => short_str (.inr (.inr hx))
  have n : ∀ {x : Str}, nameB x = true → Short (.str x) 8 0 := fun hx => short_str (.inl hx)
  have mo : Short (.int e.moment) 8 0 := short_int m0 (by omega)
  refine short_tup (n := 8) (k := 0) (fun d hd => ?_) (by rw [List.length_map]; cases e <;> simp [Ent.vals, Ent.rest])
  obtain ⟨v, hv, rfl⟩ := List.mem_map.mp hd
  cases e with
  | come nm m g pl k r =>
    obtain ⟨h1, h2, h3, h4, h5, h6⟩ := h
    simp only [Ent.vals, Ent.rest, List.mem_cons, List.not_mem_nil, or_false] at hv
    rcases hv with rfl | rfl | rfl | rfl | rfl | rfl | rfl
    · exact w (Ent.word_in _)
    · exact n nn
    · exact mo
    · exact n (hG _ h1)
    · exact n (hP _ h2)
    · exact short_int (by omega) h4
    · exact short_int h5 h6
  | go nm m g pl k =>
    obtain ⟨h1, h2, h3, h4⟩ := h
    simp only [Ent.vals, Ent.rest, List.mem_cons, List.not_mem_nil, or_false] at hv
    rcases hv with rfl | rfl | rfl | rfl | rfl | rfl
    · exact w (Ent.word_in _)
    · exact n nn
    · exact mo
    · exact n (hG _ h1)
    · exact n (hP _ h2)
    · exact short_int (by omega) h4
  | move nm m g o t k =>
    obtain ⟨h1, h2, h3, h4, h5, h6⟩ := h
    simp only [Ent.vals, Ent.rest, List.mem_cons, List.not_mem_nil, or_false] at hv
    rcases hv with rfl | rfl | rfl | rfl | rfl | rfl | rfl
    · exact w (Ent.word_in _)
    · exact n nn
    · exact mo
    · exact n (hG _ h1)
    · exact n (hP _ h2)
    · exact n (hP _ h3)
    · exact short_int (by omega) h6
  | some_ nm m g o t =>
    obtain ⟨h1, h2, h3⟩ := h
    simp only [Ent.vals, Ent.rest, List.mem_cons, List.not_mem_nil, or_false] at hv
    rcases hv with rfl | rfl | rfl | rfl | rfl | rfl
    · exact w (Ent.word_in _)
    · exact n nn
    · exact mo
    · exact n (hG _ h1)
    · exact n (hP _ h2)
    · rcases h3 with rfl | h3
      · exact short_str (.inr (.inl rfl))
      · exact n (hP _ h3.1)
  | swap nm m o t =>
    obtain ⟨h1, h2, h3⟩ := h
    simp only [Ent.vals, Ent.rest, List.mem_cons, List.not_mem_nil, or_false] at hv
    rcases hv with rfl | rfl | rfl | rfl | rfl
    · exact w (Ent.word_in _)
    · exact n nn
    · exact mo
    · exact n (hP _ h1)
    · exact n (hP _ h2)
  | count nm m g pl k hd =>
    obtain ⟨h1, h2, h3, h4, h5⟩ := h
    simp only [Ent.vals, Ent.rest, List.mem_cons, List.not_mem_nil, or_false] at hv
    rcases hv with rfl | rfl | rfl | rfl | rfl | rfl | rfl
    · exact w (Ent.word_in _)
    · exact n nn
    · exact mo
    · exact n (hG _ h1)
    · exact n (hP _ h2)
    · exact short_int h3 h4
    · exact n (hH _ h5)
  | look nm m g pl =>
    obtain ⟨h1, h2⟩ := h
    simp only [Ent.vals, Ent.rest, List.mem_cons, List.not_mem_nil, or_false] at hv
    rcases hv with rfl | rfl | rfl | rfl | rfl
    · exact w (Ent.word_in _)
    · exact n nn
    · exact mo
    · exact n (hG _ h1)
    · exact n (hP _ h2)
theorem Good.short {P G : List Str} {es : List Ent} {m : Nat} (g : Good P G es m) (hm : m ≤ 31) : Short (houseD P G es) 10000 3 := by
  refine short_tup (n := 3000) (k := 2) (fun d hd => ?_) (by show 3 * 3001 ≤ 10000; decide)
  simp only [List.mem_cons, List.not_mem_nil, or_false] at hd
  rcases hd with rfl | rfl | rfl
  · exact (short_names g.nm (Nat.le_trans g.le (by decide))).mono (by decide) (by decide)
  · exact (short_names g.gn (Nat.le_trans g.gl (by decide))).mono (by decide) (by decide)
  · refine short_tup (n := 70) (k := 1) (fun d hd => ?_) (by rw [List.length_map, g.many]; omega)
    obtain ⟨e, he, rfl⟩ := List.mem_map.mp hd
    obtain ⟨e1, e2, e3, HL, e4, e5⟩ := g.ents e he
    exact short_ent e1 e2 e3 g.nm g.gn e4 e5
/-! ### along_tracks -/
/-- nothing but the tables has changed -/
def TabsG (Ts : List Addr) (H : Hp) : Prop := ∀ T ∈ Ts, GxR.TabG H T
structure TB1 (Ts : List Addr) (H H' : Hp) : Prop where
  tg : TabsG Ts H'
  kp : ∀ a o, H a = some o → (∀ ps, o ≠ .tbl ps) → H' a = some o
  free : ∀ a, H' a = none → H a = none
  oth : ∀ a o, H a = some o → a ∉ Ts → H' a = some o
theorem tabg_sm {H H' : Hp} {T : Addr} (sm : Same H H') (t : GxR.TabG H T) : GxR.TabG H' T := by
  obtain ⟨ps, e, ok⟩ := t
  exact ⟨ps, sm _ _ e, ok⟩
theorem tabs_sm {H H' : Hp} {Ts : List Addr} (sm : Same H H') (t : TabsG Ts H) : TabsG Ts H' := fun T hT => tabg_sm sm (t T hT)
theorem TB1.same {Ts : List Addr} {H H' : Hp} (t : TabsG Ts H) (sm : Same H H') : TB1 Ts H H' := ⟨tabs_sm sm t, fun a o e _ => sm a o e, fun a n => sm.free n, fun a o e _ => sm a o e⟩
theorem TB1.tr {Ts : List Addr} {H H1 H2 : Hp} (a : TB1 Ts H H1) (b : TB1 Ts H1 H2) : TB1 Ts H H2 := ⟨b.1, fun c o e n => b.2 c o (a.2 c o e n) n, fun c n => a.free c (b.free c n), fun c o e n => b.oth c o (a.oth c o e n) n⟩
theorem TB1.tab {Ts : List Addr} {T : Addr} {H H' : Hp} (t : GxR.Tabbed T H H') (g : TabsG Ts H) (hT : T ∈ Ts) : TB1 Ts H H' := by
  refine ⟨fun T' hT' => ?_, fun a o e n => ?_, fun a n => ?_, fun a o e n => (t.2 a fun z => n (z ▸ hT)).trans e⟩
  · by_cases z : T' = T
    · rw [z]
      exact t.1
    · obtain ⟨ps, e, ok⟩ := g T' hT'
      exact ⟨ps, (t.2 T' z).trans e, ok⟩
  · have na : a ≠ T := fun z => by
      obtain ⟨ps, e', _⟩ := g T hT
      rw [z, e'] at e
      exact n ps (Option.some.inj e).symm
    rw [t.2 a na]
    exact e
  · by_cases z : a = T
    · obtain ⟨ps, e, _⟩ := t.1
      rw [z, e] at n
      cases n
    · rw [← t.2 a z]
      exact n
theorem TB1.tk {Ts : List Addr} {H H' : Hp} (t : TB1 Ts H H') : TK H H' := fun a xs e => t.2 a _ e fun ps z => nomatch z
theorem TB1.lst {Ts : List Addr} {H H' : Hp} (t : TB1 Ts H H') {a : Addr} {xs : List V} (e : H a = some (.lst xs)) : H' a = some (.lst xs) := t.2 a _ e fun ps z => nomatch z
theorem TB1.dct {Ts : List Addr} {H H' : Hp} (t : TB1 Ts H H') {a : Addr} {kvs : List (Key × V)} (e : H a = some (.dK kvs)) : H' a = some (.dK kvs) := t.2 a _ e fun ps z => nomatch z
theorem tabs_upd {H : Hp} {Ts : List Addr} {l : Addr} {xs : List V} {o : HO} (t : TabsG Ts H) (e : H l = some (.lst xs)) : TabsG Ts (upd H l o) := fun T hT => by
  obtain ⟨ps, e1, ok⟩ := t T hT
  exact ⟨ps, (upd_ne (ne_of e1 e (by intro z; cases z))).trans e1, ok⟩
/-- a list that came since is written -/
theorem TB1.put {Ts : List Addr} {H H' : Hp} {l : Addr} {xs : List V} {o : HO} (t : TB1 Ts H H') (n : H l = none) (e : H' l = some (.lst xs)) : TB1 Ts H (upd H' l o) :=
  ⟨tabs_upd t.1 e, fun a u eu na => (upd_ne (ne_of_none eu n)).trans (t.2 a u eu na), fun a na => by
    by_cases z : a = l
    · rw [z]
      exact n
    · rw [upd_ne z] at na
      exact t.free a na, fun a u eu na => (upd_ne (ne_of_none eu n)).trans (t.oth a u eu na)⟩
/-! ### sorted(..) of what gives texts -/
def leS (a b : Str) : Prop := a.cps.toList ≤ b.cps.toList
theorem leS_of {a b : Str} (h : ltCps b.cps.toList a.cps.toList = false) : leS a b := by
  rw [ltCps_eq] at h
  exact List.not_lt.mp (of_decide_eq_false h)
theorem str_ext {a b : Str} (h : a.cps.toList = b.cps.toList) : a = b := by
  cases a with
  | mk x => cases b with
    | mk y =>
      have : x = y := Array.toList_inj.mp h
      rw [this]
theorem leS_trans {a b c : Str} (h1 : leS a b) (h2 : leS b c) : leS a c := List.le_trans h1 h2
theorem leS_anti {a b : Str} (h1 : leS a b) (h2 : leS b a) : a = b := str_ext (List.le_antisymm h1 h2)
theorem rising_pw : ∀ (p : Str) (l : List Str), risingS p l = true → (p :: l).Pairwise leS
  | p, [], _ => List.pairwise_singleton _ _
  | p, x :: r, h => by
    have h' : (!ltCps x.cps.toList p.cps.toList && risingS x r) = true := h
    rw [Bool.and_eq_true] at h'
    have le : leS p x := leS_of (by simpa using h'.1)
    have ih := rising_pw x r h'.2
    refine List.pairwise_cons.mpr ⟨fun y hy => ?_, ih⟩
    rcases List.mem_cons.mp hy with rfl | hy
    · exact le
    · exact leS_trans le (List.rel_of_pairwise_cons ih hy)
theorem sorted_pw {l : List Str} (h : sortedS l = true) : l.Pairwise leS := by
  cases l with
  | nil => exact .nil
  | cons x r => exact rising_pw x r h
/-- two sorted lists of the same texts are one -/
theorem sorted_one {l r : List Str} (p : l.Perm r) (h1 : sortedS l = true) (h2 : sortedS r = true) : l = r :=
  List.Perm.eq_of_pairwise (fun a b _ _ x y => leS_anti x y) (sorted_pw h1) (sorted_pw h2) p
theorem sorted_by {prog : Program} {w : World} {A : Around} {E : Value → Shared → Prop} {s : Shared} {x : Value} {Q : Value → Shared → Prop}
    (h : wpAny (model prog w) A.in1 (collect x) (fun vs s1 => ∃ ss, StrsAre vs ss ∧ vs.length < 64 ∧ ∀ (out : Array Value) (ss' : List Str) (h' : Heap) (ep : Nat), StrsAre out.toList ss' → ss'.Perm ss → sortedS ss' = true →
      (∀ b o, s1.heap.get? b = some o → h'.get? b = some o) → h'.get? s1.heap.objs.size = some (seqObj "list" out ep) → Q (.ref s1.heap.objs.size) { s1 with heap := h' }) E s) :
    wpAny (model prog w) A (call (.builtin "sorted") [x]) Q E s := by
  refine Calls.call_function_entry kind_sorted plain_sorted entry_sorted (args_sorted1 _) ?_
  unfold Builtin.«sorted»
  refine wpAny_bind (m := checkCount "sorted" 1 1 _) (wpAny_pure (wpAny_bind (wpAny_mono h (fun vs s1 ⟨ss, hS, h64, hq⟩ => ?_) fun _ _ e => e)))
  have hoL : (s1.heap.push (seqObj "list" vs.toArray 0)).get? s1.heap.objs.size = some (seqObj "list" vs.toArray 0) := Heap.get?_push_size _ rfl
  refine wpAny_bind (wpAny_newList (wpAny_bind (wpAny_holding (wpAny_call_entry slot_list_sort ⟨_, hoL, rfl⟩ entry_list_sort (list_sort_treeK strKind_oneLt hoL hS.keysOf (fun v1 v2 rest e => keyKind_strs (by rw [← e]; exact hS)) h64 fun st' hp hs => ⟨_, rfl, ?_⟩) (args_list_sort _)))))
  obtain ⟨ss', h1, h2, h3⟩ := sorted_out_str hS hp hs
  obtain ⟨ep, he⟩ := sortedHeap_at (out := (arrOf st').map (·.2)) hoL
  refine wpAny_pure ⟨_, rfl, hq _ ss' _ ep h1 h2 h3 (fun b o e => ?_) he⟩
  have lt := Heap.lt_size e
  rw [sortedHeap_old (Nat.ne_of_lt lt) (by rw [Heap.size_push]; exact Nat.lt_succ_of_lt lt)]
  exact Heap.get?_push_of_some _ e
/-- of a tuple of texts -/
theorem cr_sortedTS {X : Cx} : CallR X (.builtin "sorted") (fun vs H Q => ∃ (a : Addr) (xs : List Str), vs = [.ref a] ∧ SqT X.K H a (xs.map V.str) ∧ xs.length < 64 ∧
    ∀ (ys : List Str) (p : Addr), ys.Perm xs → sortedS ys = true → H p = none → Q (.ref p) (upd H p (.lst (ys.map V.str)))) := by
  rintro pins s σ H vs us Q I r ⟨a, xs, rfl, hs, h64, q⟩
  rw [Vals.ref1 r]
  obtain ⟨its, rv, ⟨o, e1, e2, n, e3⟩, hz⟩ := I.tuple hs
  have l0 := rv.length
  rw [List.length_map] at l0
  refine sorted_by (wpAny_collect_seq a (.inr rfl) e1 e2 e3 (fun h1 k1 => ⟨xs, ?_, ?_, fun out ys h' ep g1 g2 g3 k2 g4 => ?_⟩) (by rw [List.size_toArray, ← rv.length]; exact hz))
  · exact rv.strs
  · show its.length < 64
    rw [← l0]
    exact h64
  · have I1 := I.kept (t' := s.toks) k1
    have hlen : (ys.map V.str).length ≤ sizeLine := by rw [List.length_map, g2.length_eq]; exact small64 h64
    exact ⟨.ref h1.objs.size, upd H h1.objs.size (.lst (ys.map V.str)), I1.laid (t' := s.toks) k2 (Nat.le_refl _) ⟨hlen, out.toList, ep, vals_of_strs g1, by rw [g4]⟩, rfl, q ys _ g2 g3 (I1.hok.fresh (Nat.le_refl _))⟩
/-! ### sorted(set(xs)) of texts: a set that tells its table -/
structure SetTx (P : Program) (w : World) (h : Heap) (a : Addr) (l : List Str) : Prop where
  ex : ∃ D : PySem.Froz.SD, h.get? a = some (PySem.Froz.sObj "set" D) ∧ PySem.Froz.TxOk P w D l ∧ L2.Ris D.2.2.place.toList ∧ (w.params.followText "set-order" = true ∨ D.2.2.led = true)
theorem perm_of_sub : ∀ {l ks : List Str}, l.Nodup → (∀ x ∈ l, x ∈ ks) → ks.length ≤ l.length → ks.Perm l
  | [], ks, _, _, h => by
    have : ks = [] := List.eq_nil_of_length_eq_zero (Nat.le_zero.mp h)
    rw [this]
  | x :: r, ks, nd, h, le => by
    obtain ⟨n1, n2⟩ := List.nodup_cons.mp nd
    have hx := h x List.mem_cons_self
    have p := List.perm_cons_erase hx
    refine p.trans (.cons x (perm_of_sub n2 (fun y hy => ?_) ?_))
    · have ne : y ≠ x := fun z => n1 (by rw [← z]; exact hy)
      exact (List.mem_erase_of_ne ne).mpr (h y (List.mem_cons_of_mem _ hy))
    · have := p.length_eq
      simp only [List.length_cons] at this le
      omega
section
variable {P : Program} {w : World} {A : Around} {E : Value → Shared → Prop} {s : Shared}
theorem tail_ris {ep : Nat} {es1 : Array (Int × Value)} {t2 : SetTable} {b : Bool} (h : L2.Ris t2.place.toList) : L2.Ris (PySem.Froz.tailTx ep es1 t2 b).2.2.place.toList ∧ (PySem.Froz.tailTx ep es1 t2 b).2.2.led = t2.led := by
  unfold PySem.Froz.tailTx
  split
  · exact ⟨L2.relayAll_ris _ _ _, L2.relayAll_led _ _ _⟩
  · exact ⟨h, rfl⟩
theorem addTx_ris {D : PySem.Froz.SD} {h : Int} {v : Value} (r : L2.Ris D.2.2.place.toList) : L2.Ris (PySem.Froz.addTx h v D).2.2.place.toList ∧ (PySem.Froz.addTx h v D).2.2.led = D.2.2.led := by
  have r1 := L2.layNew_ris D.2.2 D.1 h v r
  have l1 := L2.layNew_led D.2.2 D.1 h v
  unfold PySem.Froz.addTx
  split
  · obtain ⟨a1, a2⟩ := tail_ris (ep := D.2.1) (es1 := (layNew D.2.2 D.1 h v).1) (b := (layNew D.2.2 D.1 h v).2.2.1) (t2 := { (layNew D.2.2 D.1 h v).2.1 with plain := false }) r1
    exact ⟨a1, a2.trans l1⟩
  · obtain ⟨a1, a2⟩ := tail_ris (ep := D.2.1) (es1 := (layNew D.2.2 D.1 h v).1) (b := (layNew D.2.2 D.1 h v).2.2.1) r1
    exact ⟨a1, a2.trans l1⟩
/-- one that is there is put in again -/
theorem add_old {a : Addr} {T : String} {D : PySem.Froz.SD} {l : List Str} {k : Str} {u : Tok} {Q : Bool → Shared → Prop} (ho : s.heap.get? a = some (PySem.Froz.sObj T D)) (F : PySem.Froz.TxOk P w D l) (hk : k ∈ l) (hb : l.length < scanBound) (h : Q false s) :
    wpAny (model P w) A (setAddHashed a (.str k u) (hashStr w k)) Q E s := by
  obtain ⟨es, ep, t⟩ := D
  have hsz : es.size = l.length := F.sz
  have hel : ElemsOf (PySem.strKind P w) es.toList := F.el
  unfold setAddHashed setAddHashedIn
  refine wpAny_holding (wpAny_bind (wpAny_setState_of ho rfl F.fit ?_))
  dsimp only
  rw [byScan_of rfl (by omega) hel]
  simp only [↓reduceIte]
  unfold setAddByScan
  refine wpAny_bind (wpAny_bind (wpAny_rule (wpAny_bind (wpAny_setScan_of (knd := PySem.strKind P w) (k := k) (PySem.Froz.is_str k u) ho rfl F.fit hel ?_))))
  cases hr : List.findIdx? (fun e => (PySem.strKind P w).is k e.2) es.toList with
  | some j => exact wpAny_pure (wpAny_pure h)
  | none =>
    obtain ⟨e, he, q⟩ := (F.mem k).mp hk
    have c := List.findIdx?_eq_none_iff.mp hr e he
    rw [q] at c
    cases c
/-- x into the set -/
theorem setTx_add {a : Addr} {l : List Str} {k : Str} {u : Tok} {Q : Bool → Shared → Prop} (R : SetTx P w s.heap a l) (hb : l.length + 1 < scanBound)
    (h : ∀ h' b, Heap.SameBut a s.heap h' → SetTx P w h' a (if k ∈ l then l else k :: l) → Q b { s with heap := h' }) : wpAny (model P w) A (setAddHashed a (.str k u) (hashStr w k)) Q E s := by
  obtain ⟨D, ho, F, r, ld⟩ := R.ex
  by_cases hk : k ∈ l
  · rw [if_pos hk] at h
    exact add_old ho F hk (by omega) (h s.heap false (Heap.SameBut.refl _ _) R)
  · rw [if_neg hk] at h
    refine PySem.Froz.add_x ho F hk hb (h _ true (Heap.SameBut.update _ _ _) ⟨_, PySem.Froz.get_upd _ ho rfl, PySem.Froz.add_ok u F, (addTx_ris r).1, ?_⟩)
    rw [(addTx_ris r).2]
    exact ld
end
def onceR (xs : List Str) : List Str := xs.foldl (fun l x => if x ∈ l then l else x :: l) []
theorem onceR_snoc (xs : List Str) (x : Str) : onceR (xs ++ [x]) = if x ∈ onceR xs then onceR xs else x :: onceR xs := by
  unfold onceR
  rw [List.foldl_append]
  rfl
theorem onceR_ok : ∀ (xs l : List Str), l.Nodup → (xs.foldl (fun l x => if x ∈ l then l else x :: l) l).Nodup ∧ (∀ y, y ∈ xs.foldl (fun l x => if x ∈ l then l else x :: l) l ↔ y ∈ l ∨ y ∈ xs) ∧ (xs.foldl (fun l x => if x ∈ l then l else x :: l) l).length ≤ l.length + xs.length
  | [], l, h => ⟨h, fun y => by simp, Nat.le_refl _⟩
  | x :: r, l, h => by
    rw [List.foldl_cons]
    by_cases z : x ∈ l
    · rw [if_pos z]
      obtain ⟨a, b, c⟩ := onceR_ok r l h
      refine ⟨a, fun y => (b y).trans ?_, by rw [List.length_cons]; omega⟩
      rw [List.mem_cons]
      constructor
      · rintro (q | q)
        · exact .inl q
        · exact .inr (.inr q)
      · rintro (q | q | q)
        · exact .inl q
        · exact .inl (by rw [q]; exact z)
        · exact .inr q
    · rw [if_neg z]
      obtain ⟨a, b, c⟩ := onceR_ok r (x :: l) (List.nodup_cons.mpr ⟨z, h⟩)
      refine ⟨a, fun y => (b y).trans ?_, by rw [List.length_cons] at c ⊢; omega⟩
      rw [List.mem_cons, List.mem_cons, or_assoc, or_left_comm]
theorem onceR_nodup (xs : List Str) : (onceR xs).Nodup := (onceR_ok xs [] .nil).1
theorem onceR_mem (xs : List Str) (y : Str) : y ∈ onceR xs ↔ y ∈ xs := ((onceR_ok xs [] .nil).2.1 y).trans (by simp)
theorem onceR_len (xs : List Str) : (onceR xs).length ≤ xs.length := Nat.le_trans (onceR_ok xs [] .nil).2.2 (by simp)
section
variable {prog : Program} {w : World} {A : Around}
theorem setTx_loop {R : Result → Shared → Prop} {it : Addr} {fp wr : List Addr} {G : Array GenState → Array GenState → Prop} {n : Nat} {P : Nat → Value → Prop} {St : Nat → Shared → Prop} (W : WalksS prog w A.in1 it fp wr G n P St) (S : Addr) (nS : S ∉ fp) (xs : List Str)
    (len : xs.length = n) (big : n + 1 < scanBound) (val : ∀ i v, P i v → ∃ t, v = .str (xs.getD i Str.empty) t) :
    ∀ (k i : Nat) (s : Shared), n - i = k → i ≤ n → St i s → SetTx prog w s.heap S (onceR (xs.take i)) →
      (∀ s', Moved (S :: wr) G s s' → SetTx prog w s'.heap S (onceR xs) → R (.ok (.ret .none)) s') →
      codeAny (model prog w) A (.builtin "set.update.loop" ⟨[.ref S, .ref it], []⟩) R s := by
  have nW : S ∉ wr := fun h => nS (W.sub _ h)
  have up : ∀ b ∈ wr, b ∈ S :: wr := fun b hb => List.mem_cons_of_mem _ hb
  have stay : ∀ {s s' : Shared} {l : List Str}, Moved wr G s s' → SetTx prog w s.heap S l → SetTx prog w s'.heap S l := fun mv ⟨D, ho, r⟩ => ⟨D, mv.heap S _ nW ho, r⟩
  intro k
  induction k with
  | zero =>
    intro i s hk hi st hS hR
    obtain rfl : i = n := by omega
    refine codeAny_builtin PyProof.Rows.F.entry_set_update_loop ?_
    rw [Around.under_plainId PyProof.Rows.F.plain_set_update_loop _]
    show wpAny _ A.in1 (pyNext (.ref it) >>= _) _ _ s
    refine wpAny_bind (W.done s _ _ st fun s' mv => ?_)
    rw [List.take_of_length_le (Nat.le_of_eq len)] at hS
    exact wpAny_pure (hR s' (mv.mono up) (stay mv hS))
  | succ k ih =>
    intro i s hk hi st hS hR
    have lt : i < n := by omega
    refine codeAny_builtin PyProof.Rows.F.entry_set_update_loop ?_
    rw [Around.under_plainId PyProof.Rows.F.plain_set_update_loop _]
    show wpAny _ A.in1 (pyNext (.ref it) >>= _) _ _ s
    refine wpAny_bind (W.item i s _ _ lt st fun v s' hP st' mv => ?_)
    obtain ⟨t, rfl⟩ := val i v hP
    show wpAny _ A.in1 (holding [Value.str (xs.getD i Str.empty) t] (setAdd S (.str (xs.getD i Str.empty) t)) >>= _) _ _ s'
    refine wpAny_bind (wpAny_holding ?_)
    unfold setAdd
    refine wpAny_holding (wpAny_bind ((PySem.strKind prog w).pyHash (k := xs.getD i Str.empty) (strKind_is _ _ _ _) ?_))
    have small : (onceR (xs.take i)).length + 1 < scanBound := by
      have h := onceR_len (xs.take i)
      rw [List.length_take] at h
      omega
    refine setTx_add (s := { s' with toks := s'.toks + 1 }) (show SetTx prog w s'.heap S _ from stay mv hS) small fun h' b sb hS2 => ?_
    have hx : xs.take (i + 1) = xs.take i ++ [xs.getD i Str.empty] := by
      have hl : i < xs.length := by omega
      rw [List.take_add_one, List.getElem?_eq_getElem hl, List.getD_eq_getElem?_getD, List.getElem?_eq_getElem hl]
      rfl
    rw [← onceR_snoc, ← hx] at hS2
    refine wpAny_pure ⟨plainId_quiet PyProof.Rows.F.plain_set_update_loop _, ih (i + 1) _ (by omega) lt (W.frame _ s' _ _ st' (Nat.le_succ _) fun b hb o e => ?_) hS2 fun s'' mv'' hS'' => ?_⟩
    · rw [sb.2 b (fun z : b = S => nS (by rw [← z]; exact hb))]
      exact e
    · refine hR s'' (Moved.trans W.gtrans ((mv.mono up).then_heap (Nat.le_succ _) fun b o hb e => ?_) mv'') hS''
      rw [sb.2 b (fun z : b = S => hb (by rw [z]; exact List.mem_cons_self))]
      exact e
theorem code_set_led1 {E : Value → Shared → Prop} {s : Shared} (a : Value) {Q₁ : Value → Shared → Prop}
    (h : Q₁ (.ref s.heap.objs.size) { s with heap := s.heap.push (PySem.Froz.sObj "set" (#[], 0, .fresh 0 0 (!w.params.followText "set-order"))) }) :
    codeAny (model prog w) A (.call (.builtin "set.__new__") ⟨[.type "set", a], []⟩) (wants Q₁ E) s := by
  refine codeAny_of_tree ?_
  show wpAny _ A.in1 (do checkBuiltinCall "set.__new__" ⟨[.type "set", a], []⟩; again (.builtin "set.__new__" ⟨[.type "set", a], []⟩)) _ _ s
  refine wpAny_bind (wpAny_of_eq (PySem.F.newCall_set_1 a) (wpAny_pure ⟨plainId_quiet PySem.F.plain_set_new _, codeAny_builtin PySem.F.entry_set_new ?_⟩))
  rw [Around.under_plainId PySem.F.plain_set_new _]
  unfold Builtin.«set.__new__» Builtin.Frozenset.newClass
  have hsub := sub_set_self
  obtain ⟨hp, g, d, tk, os⟩ := s
  dsimp only
  wp_walk
  refine wpAny_askSetting (wpAny_pure ?_)
  dsimp only
  simp only [newObj]
  refine wpAny_bind (wpAny_alloc (wpAny_pure ?_))
  exact wpAny_pure h
abbrev setL (w : World) : Obj := PySem.Froz.sObj "set" (#[], 0, .fresh 0 0 (!w.params.followText "set-order"))
theorem setTx_fresh {h : Heap} : SetTx prog w (h.push (setL w)) h.objs.size (onceR []) :=
  ⟨_, Heap.get?_push_size _ rfl, PySem.Froz.TxOk.nil rfl, List.Pairwise.nil, by
    show _ ∨ (!w.params.followText "set-order") = true
    cases w.params.followText "set-order"
    · exact .inr rfl
    · exact .inl rfl⟩
set_option maxHeartbeats 3200000 in
theorem setTx_of_tuple {E : Value → Shared → Prop} {s : Shared} {l : Addr} {items : Array Value} {xs : List Str} {Q : Value → Shared → Prop} (hh : A.handled = none) (hl : s.heap.IsTuple l items) (hi : PyProof.Rows.StrsAre items.toList xs) (big : xs.length + 1 < scanBound)
    (h : ∀ (h' : Heap) (tk : Nat), SetTx prog w h' s.heap.objs.size (onceR xs) →
      (∀ b o, b < s.heap.objs.size → s.heap.get? b = some o → h'.get? b = some o) → Q (.ref s.heap.objs.size) { s with heap := h', toks := tk }) :
    wpAny (model prog w) A (call (.type "set") [.ref l]) Q E s := by
  obtain ⟨c, tl, hmro⟩ := PySem.F.called_set.mro
  have hmade := PySem.F.called_set.made
  have hsub := PySem.F.called_set.sub
  refine wpAny_call (codeAny_of_tree ?_)
  show wpAny _ _ (callAny (.type "set") _) _ _ _
  refine wpAny_pure ⟨Code.quiet_builtin _ (by decide +kernel), codeAny_builtin PySem.F.entry_type_call ?_⟩
  rw [Around.under_plain (weight_type_call_type "set" [.ref l] []) rfl]
  have h1 := PySem.F.called_set.notType
  have h2 := PySem.F.called_set.canCreate
  have hct := PySem.F.typeCall_set_1 (.ref l)
  repeat (any_goals (first | assumption | wp_step))
  refine codeAny_mono (code_set_led1 (.ref l) (E := E) (Q₁ := fun obj s₁ => obj = .ref s.heap.objs.size ∧ s₁ = { s with heap := s.heap.push (setL w) }) ⟨rfl, rfl⟩) fun r s₁ hr => ?_
  cases r with
  | error e => exact hr
  | ok fl =>
    cases fl with
    | ret obj =>
      obtain ⟨rfl, rfl⟩ := hr
      have hS : (s.heap.push (setL w)).get? s.heap.objs.size = some (setL w) := Heap.get?_push_size _ rfl
      have hT : Shared.TypeIs { s with heap := s.heap.push (setL w) } (.ref s.heap.objs.size) "set" := ⟨_, hS, rfl⟩
      have hli := PySem.F.called_set.init.lookup
      have hbi := PySem.F.called_set.init.bind (.ref s.heap.objs.size)
      repeat (any_goals (first | assumption | wp_step))
      refine codeAny_mono (codeAny_call_builtin (R := wants (fun r s₂ => r = .none ∧ ∃ h' tk, s₂ = { s with heap := h', toks := tk } ∧
          SetTx prog w h' s.heap.objs.size (onceR xs) ∧
          (∀ b o, b < s.heap.objs.size → s.heap.get? b = some o → h'.get? b = some o)) E) PySem.F.called_set.init.plain PySem.F.entry_set_init (check_set_init_1 hT ?_)) fun r₂ s₂ hr₂ => ?_
      · obtain ⟨⟨ocls, odict, odata, oslots⟩, hol, hcl, nl, hdl⟩ := hl
        simp only at hcl hdl
        subst hcl; subst hdl
        have hol' : (s.heap.push (setL w)).get? l = some { cls := .type "tuple", dict := odict, data := .seq items nl, slots := oslots } := Heap.get?_push_of_some _ hol
        have hsls := PySem.F.sub_tuple_set
        have hslf := PySem.F.sub_tuple_frozenset
        have hne : (Value.type "tuple" == Value.type "dict") = false := by decide
        have hl1 : (s.heap.push (setL w)).IsTuple l items := ⟨_, hol', rfl, nl, rfl⟩
        unfold Builtin.«set.__init__» noKeywords Builtin.Frozenset.updateFrom
        generalize hPI : pyIter = PI
        wp_walk
        subst hPI
        refine wpAny_pyIter_tuple hl1 ?_
        refine wpAny_bind (wpAny_runValue ?_)
        have ltl : l < s.heap.objs.size := Heap.lt_size hol
        have szP : (s.heap.push (setL w)).objs.size = s.heap.objs.size + 1 := Heap.size_push ..
        have hh3 : A.in1.in1.in1.handled = none := hh
        have neI : l ≠ (s.heap.push (setL w)).objs.size := by rw [szP]; exact Nat.ne_of_lt (Nat.lt_succ_of_lt ltl)
        have len : xs.length = items.size := by rw [← StrsAre.len_eq hi, Array.length_toList]
        refine setTx_loop ((Walks.tuple hh3 _ l neI items).toS) s.heap.objs.size ?n xs len (by rw [← len]; exact big)
          (fun i v hv => SS.strs_at hi i v (by rw [Array.getElem?_toList]; exact hv)) (items.size - 0) 0 _ (by omega) (Nat.zero_le _) ⟨⟨_, Heap.get?_push_size _ rfl, rfl, rfl⟩, (hl1.push _)⟩ ?z ?r
        case n =>
          rw [szP]
          simp only [List.mem_cons, List.not_mem_nil, or_false, not_or]
          exact ⟨Nat.ne_of_lt (Nat.lt_succ_self _), Nat.ne_of_gt ltl⟩
        case z =>
          obtain ⟨D, q1, q2⟩ := (setTx_fresh (prog := prog) (w := w) (h := s.heap)).ex
          exact ⟨D, Heap.get?_push_of_some _ q1, q2⟩
        case r =>
          intro s' mv hS'
          obtain ⟨h', g', d', tk', os'⟩ := s'
          obtain rfl : g' = s.gens := mv.gens
          obtain rfl : d' = s.drawn := mv.drawn
          obtain rfl : os' = s.os := mv.os
          refine wpAny_pure ?_
          show wpAny _ _ (ret Value.none) _ _ _
          refine wpAny_pure ⟨rfl, h', tk', rfl, hS', fun b o hb e => mv.heap b o ?_ (Heap.get?_push_of_some _ (Heap.get?_push_of_some _ e))⟩
          rw [szP]
          simp only [List.mem_cons, List.not_mem_nil, or_false, not_or]
          exact ⟨Nat.ne_of_lt hb, Nat.ne_of_lt (Nat.lt_succ_of_lt hb)⟩
      · cases r₂ with
        | error e => exact hr₂
        | ok fl₂ =>
          cases fl₂ with
          | ret r =>
            obtain ⟨rfl, h', tk, rfl, hS', hk'⟩ := hr₂
            repeat (any_goals (first | assumption | wp_step))
            exact h _ _ hS' hk'
          | _ => exact hr₂.elim
    | _ => exact hr.elim
set_option maxHeartbeats 3200000 in
theorem setTx_of_list {E : Value → Shared → Prop} {s : Shared} {l : Addr} {items : Array Value} {xs : List Str} {Q : Value → Shared → Prop} (hh : A.handled = none) (hl : s.heap.IsList l items) (hi : PyProof.Rows.StrsAre items.toList xs) (big : xs.length + 1 < scanBound)
    (h : ∀ (h' : Heap) (tk : Nat), SetTx prog w h' s.heap.objs.size (onceR xs) →
      (∀ b o, b < s.heap.objs.size → s.heap.get? b = some o → h'.get? b = some o) → Q (.ref s.heap.objs.size) { s with heap := h', toks := tk }) :
    wpAny (model prog w) A (call (.type "set") [.ref l]) Q E s := by
  obtain ⟨c, tl, hmro⟩ := PySem.F.called_set.mro
  have hmade := PySem.F.called_set.made
  have hsub := PySem.F.called_set.sub
  refine wpAny_call (codeAny_of_tree ?_)
  show wpAny _ _ (callAny (.type "set") _) _ _ _
  refine wpAny_pure ⟨Code.quiet_builtin _ (by decide +kernel), codeAny_builtin PySem.F.entry_type_call ?_⟩
  rw [Around.under_plain (weight_type_call_type "set" [.ref l] []) rfl]
  have h1 := PySem.F.called_set.notType
  have h2 := PySem.F.called_set.canCreate
  have hct := PySem.F.typeCall_set_1 (.ref l)
  repeat (any_goals (first | assumption | wp_step))
  refine codeAny_mono (code_set_led1 (.ref l) (E := E) (Q₁ := fun obj s₁ => obj = .ref s.heap.objs.size ∧ s₁ = { s with heap := s.heap.push (setL w) }) ⟨rfl, rfl⟩) fun r s₁ hr => ?_
  cases r with
  | error e => exact hr
  | ok fl =>
    cases fl with
    | ret obj =>
      obtain ⟨rfl, rfl⟩ := hr
      have hS : (s.heap.push (setL w)).get? s.heap.objs.size = some (setL w) := Heap.get?_push_size _ rfl
      have hT : Shared.TypeIs { s with heap := s.heap.push (setL w) } (.ref s.heap.objs.size) "set" := ⟨_, hS, rfl⟩
      have hli := PySem.F.called_set.init.lookup
      have hbi := PySem.F.called_set.init.bind (.ref s.heap.objs.size)
      repeat (any_goals (first | assumption | wp_step))
      refine codeAny_mono (codeAny_call_builtin (R := wants (fun r s₂ => r = .none ∧ ∃ h' tk, s₂ = { s with heap := h', toks := tk } ∧
          SetTx prog w h' s.heap.objs.size (onceR xs) ∧
          (∀ b o, b < s.heap.objs.size → s.heap.get? b = some o → h'.get? b = some o)) E) PySem.F.called_set.init.plain PySem.F.entry_set_init (check_set_init_1 hT ?_)) fun r₂ s₂ hr₂ => ?_
      · obtain ⟨⟨ocls, odict, odata, oslots⟩, hol, hcl, nl, hdl⟩ := hl
        simp only at hcl hdl
        subst hcl; subst hdl
        have hol' : (s.heap.push (setL w)).get? l = some { cls := .type "list", dict := odict, data := .seq items nl, slots := oslots } := Heap.get?_push_of_some _ hol
        have hsls := PySem.F.sub_list_set
        have hslf := PySem.F.sub_list_frozenset
        have hne : (Value.type "list" == Value.type "dict") = false := by decide
        have hl1 : (s.heap.push (setL w)).IsList l items := ⟨_, hol', rfl, nl, rfl⟩
        unfold Builtin.«set.__init__» noKeywords Builtin.Frozenset.updateFrom
        generalize hPI : pyIter = PI
        wp_walk
        subst hPI
        refine wpAny_pyIter_list hl1 ?_
        refine wpAny_bind (wpAny_runValue ?_)
        have ltl : l < s.heap.objs.size := Heap.lt_size hol
        have szP : (s.heap.push (setL w)).objs.size = s.heap.objs.size + 1 := Heap.size_push ..
        have hh3 : A.in1.in1.in1.handled = none := hh
        have neI : l ≠ (s.heap.push (setL w)).objs.size := by rw [szP]; exact Nat.ne_of_lt (Nat.lt_succ_of_lt ltl)
        have len : xs.length = items.size := by rw [← StrsAre.len_eq hi, Array.length_toList]
        refine setTx_loop ((Walks.list hh3 _ l neI items).toS) s.heap.objs.size ?n xs len (by rw [← len]; exact big)
          (fun i v hv => SS.strs_at hi i v (by rw [Array.getElem?_toList]; exact hv)) (items.size - 0) 0 _ (by omega) (Nat.zero_le _) ⟨⟨_, Heap.get?_push_size _ rfl, rfl, rfl⟩, (hl1.push _)⟩ ?z ?r
        case n =>
          rw [szP]
          simp only [List.mem_cons, List.not_mem_nil, or_false, not_or]
          exact ⟨Nat.ne_of_lt (Nat.lt_succ_self _), Nat.ne_of_gt ltl⟩
        case z =>
          obtain ⟨D, q1, q2⟩ := (setTx_fresh (prog := prog) (w := w) (h := s.heap)).ex
          exact ⟨D, Heap.get?_push_of_some _ q1, q2⟩
        case r =>
          intro s' mv hS'
          obtain ⟨h', g', d', tk', os'⟩ := s'
          obtain rfl : g' = s.gens := mv.gens
          obtain rfl : d' = s.drawn := mv.drawn
          obtain rfl : os' = s.os := mv.os
          refine wpAny_pure ?_
          show wpAny _ _ (ret Value.none) _ _ _
          refine wpAny_pure ⟨rfl, h', tk', rfl, hS', fun b o hb e => mv.heap b o ?_ (Heap.get?_push_of_some _ (Heap.get?_push_of_some _ e))⟩
          rw [szP]
          simp only [List.mem_cons, List.not_mem_nil, or_false, not_or]
          exact ⟨Nat.ne_of_lt hb, Nat.ne_of_lt (Nat.lt_succ_of_lt hb)⟩
      · cases r₂ with
        | error e => exact hr₂
        | ok fl₂ =>
          cases fl₂ with
          | ret r =>
            obtain ⟨rfl, h', tk, rfl, hS', hk'⟩ := hr₂
            repeat (any_goals (first | assumption | wp_step))
            exact h _ _ hS' hk'
          | _ => exact hr₂.elim
    | _ => exact hr.elim
end
def strV : Value → Str
  | .str k _ => k
  | _ => Str.empty
theorem strs_are : ∀ vs : List Value, (∀ v ∈ vs, ∃ k tk, v = Value.str k tk) → StrsAre vs (vs.map strV)
  | [], _ => .nil
  | v :: r, h => by
    obtain ⟨k, tk, rfl⟩ := h v List.mem_cons_self
    exact .cons k tk (strs_are r fun u hu => h u (List.mem_cons_of_mem _ hu))
theorem isStr_shape {P : Program} {w : World} {k : Str} {v : Value} (h : (PySem.strKind P w).is k v = true) : ∃ tk, v = .str k tk := Value.isStrOf_shape h
/-- sorted(s) of a set of texts -/
theorem sorted_setTx {P : Program} {w : World} {A : Around} {E : Value → Shared → Prop} {s : Shared} {a : Addr} {l : List Str} {Q : Value → Shared → Prop} (R : SetTx P w s.heap a l) (nd : l.Nodup) (hh : A.handled = none) (h64 : l.length < 64)
    (hQ : ∀ s' p (out : Array Value) (c : Nat) (ys : List Str), (∀ b o, s.heap.get? b = some o → s'.heap.get? b = some o) → s'.gens = s.gens → s'.os = s.os → s.heap.objs.size ≤ p →
      s'.heap.get? p = some (seqObj "list" out c) → StrsAre out.toList ys → ys.Perm l → sortedS ys = true → Q (.ref p) s') :
    wpAny (model P w) A (call (.builtin "sorted") [.ref a]) Q E s := by
  obtain ⟨D, ho, F, r, ld⟩ := R.ex
  obtain ⟨es, ep, t⟩ := D
  have hsz : es.size = l.length := F.sz
  refine sorted_by (L2.collect_set (A := A.in1) (es := es) (ep := ep) (t := t) hh ⟨_, ho, rfl, rfl⟩ F.fit (by unfold scanBound; omega) r ld fun s1 vs k1 hz g1 o1 pm => ?_)
  have sh : ∀ v ∈ vs, ∃ k tk, v = Value.str k tk := fun v hv => by
    obtain ⟨e, he, q⟩ := List.mem_map.mp (pm.mem_iff.mp hv)
    obtain ⟨⟨k, hk, _⟩, _⟩ := F.el e he
    obtain ⟨tk, z⟩ := isStr_shape hk
    exact ⟨k, tk, by rw [← q, z]⟩
  have len : vs.length = l.length := by rw [pm.length_eq, List.length_map, Array.length_toList]; exact hsz
  have pl : (vs.map strV).Perm l := perm_of_sub nd (fun x hx => by
    obtain ⟨e, he, q⟩ := (F.mem x).mp hx
    obtain ⟨tk, z⟩ := isStr_shape q
    exact List.mem_map.mpr ⟨.str x tk, pm.mem_iff.mpr (List.mem_map.mpr ⟨e, he, z⟩), rfl⟩) (by rw [List.length_map, len]; exact Nat.le_refl _)
  refine ⟨vs.map strV, strs_are vs sh, by rw [len]; exact h64, fun out ys h' c q1 q2 q3 q4 q5 => ?_⟩
  exact hQ _ _ out c ys (fun b o e => q4 b o (k1 b o e)) g1 o1 hz q5 q1 (q2.trans pl) q3
def tSortSet (K : PySem.W.Frag) (ta : TE) : TE := fun σ H Q => ta σ H fun x H1 => ∃ l, ∃ xs : List Str, x = .ref l ∧ (SqT K H1 l (xs.map V.str) ∨ SqL K H1 l (xs.map V.str)) ∧ (onceR xs).length < 64 ∧ xs.length ≤ 1000 ∧
  ∀ (ys : List Str) (p : Addr), ys.Perm (onceR xs) → sortedS ys = true → H1 p = none → Q (.ref p) (upd H1 p (.lst (ys.map V.str)))
theorem pe_sortSet {X : Cx} {a : Expr} {ta : TE} {p p2 q pos : Pos} (hc : X.calm = true) (hg : Gl X "sorted") (hm : X.mg "sorted" = none) (hg2 : Gl X "set") (hm2 : X.mg "set" = none) (ha : PE X a ta)
    (na : starEach [a] X.env = (false, eval a X.env) :: starEach [] X.env := by rfl) : PE X (.Call (.Name "sorted" p) [.Call (.Name "set" p2) [a] [] q] [] pos) (tSortSet X.K ta) := by
  refine ⟨fun pins s σ H Q I h => Call_ (ld_blt I hg hm boot_sorted (PyProof.Rows.callWith_builtin1 (PyProof.Rows.args_cons ?_ rfl) rfl rfl))⟩
  refine Call_ (ld_blt I hg2 hm2 boot_set (PyProof.Rows.callWith_type1 (PyProof.Rows.args_cons (thn (ha.run pins s σ H _ I h) fun v s1 ⟨x, H1, I1, r1, q1⟩ => PyProof.Rows.args_nil ?_) na) na rfl))
  obtain ⟨l, xs, rfl, hq, l64, le, q1⟩ := q1
  cases r1
  have fin : ∀ (h' : Heap) (tk : Nat), SetTx X.prog X.w h' s1.heap.objs.size (onceR xs) → (∀ b o, b < s1.heap.objs.size → s1.heap.get? b = some o → h'.get? b = some o) →
      wpAny (model X.prog X.w) X.A (call (.builtin "sorted") [.ref s1.heap.objs.size]) (fun v s' => ∃ x H2, Inv X pins σ H2 s' ∧ RelV x v ∧ Q x H2) X.xe { s1 with heap := h', toks := tk } := fun h' tk hS hk => by
    have I2 : Inv X pins σ H1 { s1 with heap := h', toks := tk } := I1.kept fun b o e => hk b o (Heap.lt_size e) e
    refine sorted_setTx hS (onceR_nodup xs) (I1.ok.hd hc) l64 fun s' p out c ys k g o hp hgp hi pm hs => ?_
    have hlen : (ys.map V.str).length ≤ sizeLine := by rw [List.length_map, pm.length_eq]; exact small64 l64
    have hn : H1 p = none := I2.hok.fresh hp
    have J : Inv X pins σ (upd H1 p (.lst (ys.map V.str))) { ({ s1 with heap := h', toks := tk } : Shared) with heap := s'.heap, gens := s'.gens, drawn := s'.drawn, toks := s'.toks } :=
      I2.call (ch := []) (Un.laid k hp hn) (I2.hok.laid k hp ⟨hlen, out.toList, c, vals_of_strs hi, hgp⟩) (by rw [g]; exact I2.bare) (fun _ z => nomatch z)
    have e : s' = { ({ s1 with heap := h', toks := tk } : Shared) with heap := s'.heap, gens := s'.gens, drawn := s'.drawn, toks := s'.toks } := by
      cases s'
      cases s1
      cases o
      rfl
    rw [e]
    exact ⟨.ref p, _, J, rfl, q1 ys p pm hs hn⟩
  rcases hq with hq | hq
  · obtain ⟨its, r, pl, hz⟩ := I1.tuple hq
    exact setTx_of_tuple (I1.ok.hd hc) pl (by simpa using strsAre_of r) (by unfold scanBound; omega) fun h' tk hS hk => PyProof.Rows.args_nil (fin h' tk hS hk)
  · obtain ⟨its, r, pl, hz⟩ := I1.list hq
    exact setTx_of_list (I1.ok.hd hc) pl.isList (by simpa using strsAre_of r) (by unfold scanBound; omega) fun h' tk hS hk => PyProof.Rows.args_nil (fin h' tk hS hk)
/-! ### x in d.values(), texts -/
section
variable {prog : Program} {w : World} {A : Around} {E : Value → Shared → Prop} {s : Shared}
theorem plain_ci : plainId "proto.contains_iter" = true := by decide +kernel
theorem entry_ci : entryFor table "proto.contains_iter" = some Builtin.«proto.contains_iter» := entryFor_of_tree (by kernel_rfl)
theorem nocont_vals : typeLookup (.type "dict_values") "__contains__" = pure none := by rw [typeLookup_type, builtinLookup_eq_fast]; kernel_rfl
theorem ci_loop {it d : Addr} {ep : Nat} {vs : List (Key × Value)} {ys : List Str} {z : Str} {t : Tok} (hA : A.handled = none) (hv : ∀ (i : Nat) (p : Key × Value), vs[i]? = some p → ∃ y u, ys[i]? = some y ∧ p.2 = .str y u) (hl : ys.length = vs.length) (hdi : d ≠ it) {R : Result → Shared → Prop} :
    ∀ (n i : Nat) (s : Shared), i + n = vs.length → s.heap.IsValIter it d i vs.length ep → s.heap.DictAt (mixKind prog w) d vs ep → (∀ h', Heap.ExtBut it s.heap h' → R (.ok (.ret (.bool (decide (z ∈ ys.drop i))))) { s with heap := h' }) →
      codeAny (model prog w) A (.builtin "proto.contains_iter" ⟨[.ref it, .str z t], []⟩) R s
  | 0, i, s, hn, hit, hd, hR => by
    refine codeAny_builtin entry_ci ?_
    rw [Around.under_plainId plain_ci]
    unfold Builtin.«proto.contains_iter»
    refine wpAny_bind (wpAny_pyNext_values_end hA hit hd (List.getElem?_eq_none (by omega)) fun h' eb => ?_)
    refine wpAny_bind (wpAny_rule (wpAny_pure ?_))
    have e : ys.drop i = [] := List.drop_eq_nil_of_le (by omega)
    have q := hR h' eb
    rw [e] at q
    exact q
  | n + 1, i, s, hn, hit, hd, hR => by
    refine codeAny_builtin entry_ci ?_
    rw [Around.under_plainId plain_ci]
    unfold Builtin.«proto.contains_iter»
    obtain ⟨p, hp⟩ : ∃ p, vs[i]? = some p := ⟨_, List.getElem?_eq_getElem (by omega)⟩
    obtain ⟨y, u, hy, ev⟩ := hv i p hp
    have ed : ys.drop i = y :: ys.drop (i + 1) := by
      rw [List.drop_eq_getElem_cons (by omega)]
      rw [List.getElem?_eq_getElem (by omega)] at hy
      rw [Option.some.inj hy]
    refine wpAny_bind (wpAny_pyNext_values_item hit hd (k := p.1) (v := p.2) hp fun h' hit' sb => ?_)
    rw [ev]
    refine wpAny_bind ((mixKind prog w).eqBool (a := Sum.inr y) (b := Sum.inr z) (kV_is (k := Sum.inr y) ⟨u, rfl⟩) (kV_is (k := Sum.inr z) ⟨t, rfl⟩) ?_)
    by_cases e : y = z
    · rw [if_pos (by simp [e])]
      refine wpAny_bind (wpAny_rule (wpAny_pure ?_))
      have q := hR h' fun b o hb eo => (sb.2 b hb).trans eo
      rw [ed, decide_eq_true (by rw [e]; exact List.mem_cons_self)] at q
      exact q
    · rw [if_neg (by simp [e])]
      refine wpAny_pure ⟨plainId_quiet plain_ci _, ci_loop hA hv hl hdi n (i + 1) { s with heap := h' } (by omega) hit' (let ⟨o, es, ho, r⟩ := hd; ⟨o, es, (sb.2 d hdi).trans ho, r⟩) fun h2 eb2 => ?_⟩
      have q := hR h2 (fun b o hb eo => eb2 b o hb ((sb.2 b hb).trans eo))
      rw [ed] at q
      have e2 : decide (z ∈ y :: ys.drop (i + 1)) = decide (z ∈ ys.drop (i + 1)) := by
        have : ¬ z = y := fun h => e h.symm
        simp [this]
      rw [e2] at q
      exact q
end
def valsO (v d : Addr) : HO := .ext fun h => h.get? v = some { cls := .type "dict_values", data := .fields #[.ref d] }
/-- d.values(), as a value -/
def tVals (td : TE) : TE := fun σ H Q => td σ H fun x H1 => ∃ (d : Addr) (kvs : List (Key × V)), x = .ref d ∧ H1 d = some (.dK kvs) ∧ ∀ v, H1 v = none → Q (.ref v) (upd H1 v (valsO v d))
theorem pe_vals {X : Cx} {e : Expr} {td : TE} {apos cpos : Pos} (he : PE X e td) (hbase : attributeBase e "values" X.env (eval e X.env) = eval e X.env := by rfl) (hline : (apos.endLine == cpos.line) = true := by rfl) :
    PE X (.Call (.Attribute e "values" apos) [] [] cpos) (tVals td) := by
  refine ⟨fun pins s σ H Q I h => ?_⟩
  refine wpAny_Call_method (T := "dict") (id := "dict.values") hbase rfl hline F.plainAttrs_dict F.slot_dict_values F.type_dict_values (thn (he.run pins s σ H _ I h) ?_)
  rintro u s1 ⟨x, H1, I1, rx, d, kvs, rfl, hd, q⟩
  obtain rfl : u = Value.ref d := rx
  obtain ⟨_, dS, vs, rel, dd⟩ := dk_of I1.hok hd
  refine ⟨dd.typeIs, dd.mapOf.noDict, ?_⟩
  show wpAny _ _ (callWith cpos (.builtin "dict.values") [.ref d] [] []) _ X.xe s1
  refine method_meetsIn F.slot_dict_values F.entry_dict_values rfl (PySem.evalArgs_none ⟨rfl, dd.typeIs, F.args_dict_values_1 _, _, meets_dict_values (mixKind X.prog X.w) d dS, ⟨vs, dd⟩, ?_⟩)
  refine ⟨.ref s1.heap.objs.size, _, I1.laid (t' := s1.toks) (a := s1.heap.objs.size) (o := valsO s1.heap.objs.size d) (fun b ob q => Heap.get?_push_of_some _ q) (Nat.le_refl _) ?_, rfl, q _ (I1.hok.fresh (Nat.le_refl _))⟩
  have e : (s1.heap.push { cls := .type "dict_values", data := .fields #[.ref d] }).get? s1.heap.objs.size = some { cls := .type "dict_values", data := .fields #[.ref d] } := Heap.get?_push_size _ rfl
  exact ⟨e, ⟨_, e⟩, fun h1 h2 p k => k _ p⟩
def rInVals : R2 := fun x y H Q => ∃ (z : Str) (v d : Addr) (kvs : List (Key × V)) (ys : List Str), x = .str z ∧ y = .ref v ∧ H v = some (valsO v d) ∧ H d = some (.dK kvs) ∧ kvs.map (·.2) = ys.map V.str ∧ Q (.bl (decide (z ∈ ys))) H
theorem op_inVals {X : Cx} (hc : X.calm = true) : OpR X (compareOp .In) rInVals := by
  rintro pins s σ H x y vx vy Q I rx ry ⟨z, v, d, kvs, ys, rfl, rfl, hv, hd, hy, q⟩
  obtain ⟨t, rfl⟩ : ∃ t, vx = Value.str z t := rx
  obtain rfl : vy = Value.ref v := ry
  obtain ⟨ev, _, _⟩ := I.hok v _ hv
  obtain ⟨_, dS, vs, rel, o, es, ep, dd⟩ := dk_of I.hok hd
  have dA : s.heap.DictAt (mixKind X.prog X.w) d vs ep := ⟨o, es, dd⟩
  have tv : s.TypeIs (.ref v) "dict_values" := ⟨_, ev, rfl⟩
  have lv : kvs.length = vs.length := Paired.length rel
  have ly : ys.length = vs.length := by
    have := congrArg List.length hy
    rw [List.length_map, List.length_map] at this
    omega
  show wpAny _ _ (contains (.ref v) (.str z t) >>= fun b => pure (Value.bool b)) _ _ s
  refine wpAny_bind ?_
  unfold contains
  refine wpAny_holding ?_
  show wpAny _ _ (specialOf (.ref v) "__contains__" >>= _) _ _ s
  refine wpAny_bind (wpAny_specialOf tv nocont_vals ?_)
  show wpAny _ _ (if ((none : Option Value) == some Value.none) = true then _ else _) _ _ s
  rw [if_neg (by decide)]
  refine wpAny_bind (wpAny_callSpecialUnlessNone?_none tv nocont_vals ?_)
  refine wpAny_bind (wpAny_rule ?_)
  refine wpAny_bind (wpAny_tryCatch (wpAny_pyIter_values (d := d) (knd := mixKind X.prog X.w) ⟨_, ev, rfl, rfl⟩ dA ?_))
  have nvi : d ≠ s.heap.objs.size := Nat.ne_of_lt (Heap.lt_size dd.1)
  refine wpAny_bind (wpAny_runValue (ci_loop (ys := ys) (I.ok.hd hc) ?_ ly nvi vs.length 0 _ (by omega) ⟨_, Heap.get?_push_size _ rfl, rfl, rfl⟩ ?_ fun h' eb => ?_))
  · intro i p hp
    have hi : i < vs.length := (List.getElem?_eq_some_iff.mp hp).1
    obtain ⟨⟨k, v'⟩, hk⟩ : ∃ e, kvs[i]? = some e := ⟨_, List.getElem?_eq_getElem (by omega)⟩
    obtain ⟨u, hu, ru⟩ := kv_get rel hk
    obtain ⟨y, hy'⟩ : ∃ y, ys[i]? = some y := ⟨_, List.getElem?_eq_getElem (by omega)⟩
    have e1 : (kvs.map (·.2))[i]? = some v' := by rw [List.getElem?_map, hk]; rfl
    rw [hy, List.getElem?_map, hy'] at e1
    obtain rfl : V.str y = v' := Option.some.inj e1
    obtain ⟨t2, rfl⟩ := ru
    rw [hp] at hu
    exact ⟨y, t2, hy', by rw [Option.some.inj hu]⟩
  · exact ⟨o, es, Heap.get?_push_of_some _ dd.1, dd.2⟩
  · refine wpAny_pure (wpAny_pure ⟨.bl _, H, I.kept (t' := s.toks) (fun b ob e => eb b ob (Nat.ne_of_lt (Heap.lt_size e)) (Heap.get?_push_of_some _ e)), rfl, ?_⟩)
    rw [List.drop_zero]
    exact q
/-! ### d.setdefault, list(d.values()), walks over lists and tuples -/
namespace Sdf
section
variable {prog : Program} {w : World} {K : Type} [DecidableEq K] {knd : KeyKind prog w K} {A : Around} {E : Value → Shared → Prop} {s : Shared}
theorem sdf_pairs {d : Addr} {kvs : List (K × Value)} {k : K} {key dflt : Value} {Q : Value → Shared → Prop} (hkey : knd.is k key = true) (hm : s.heap.DictOf knd d kvs) (hsz : kvs.length ≤ sizeLine)
    (hthere : ∀ v, valueAt kvs k = some v → Q v { s with toks := s.toks + 1 })
    (hnew : valueAt kvs k = none → ∀ h', h'.DictOf knd d (stored kvs k dflt) → Heap.SameBut d s.heap h' → Q dflt { s with heap := h', toks := s.toks + 1 }) :
    wpAny (model prog w) A (dictSetDefault d key dflt) Q E s := by
  have hm0 := hm.mapOf
  obtain ⟨o, es, ep, ho, hc, hd, hk, hp, hn⟩ := hm
  have hes : es.size ≤ sizeLine := by
    have e1 := hp.length
    have e2 : es.toList.length = es.size := by simp
    omega
  have hf : ∀ x, findBy knd.is es x = valueAt kvs x := fun x => by
    rw [← hp.find x]
    obtain ⟨l⟩ := es
    simp [findBy]
  unfold dictSetDefault
  try with_reducible refine wpAny_holding ?_
  refine wpAny_bind (knd.pyHash hkey ?_)
  refine wpAny_bind (wpAny_dictFind_of (s := { s with toks := s.toks + 1 }) hkey ho hd hk ?_)
  have hidx : (es.findIdx? fun e => knd.is k e.key) = kvs.findIdx? fun kv => decide (kv.1 = k) := by
    rw [← hp.findIdx k]; obtain ⟨l⟩ := es; simp
  cases hi : es.findIdx? fun e => knd.is k e.key with
  | some i =>
    have hfk : valueAt kvs k = (es[i]?).map (·.val) := by rw [← hf k, findBy_of_findIdx?, hi]
    refine wpAny_bind (wpAny_dictEntries (s := { s with toks := s.toks + 1 }) ho hd ?_)
    cases he : es[i]? with
    | none =>
      exfalso
      have := Array.findIdx?_eq_some_iff_findIdx_eq.mp hi
      have hlt : i < es.size := this.1
      rw [Array.getElem?_eq_getElem hlt] at he
      exact nomatch he
    | some e =>
      rw [he] at hfk
      exact wpAny_bind (wpAny_rule (wpAny_pure (hthere e.val hfk)))
  | none =>
    have hfk : valueAt kvs k = none := by rw [← hf k, findBy_of_findIdx?, hi]
    have hnot : k ∉ kvs.map (·.1) := not_mem_of_findIdx_none (hidx ▸ hi)
    have hany : ¬ (kvs.any fun kv => decide (kv.1 = k)) = true := by
      rw [List.any_eq_true]; rintro ⟨kv, hkv, he⟩
      exact hnot (List.mem_map.mpr ⟨kv, hkv, of_decide_eq_true he⟩)
    refine wpAny_bind (wpAny_rule (wpAny_bind (wpAny_updateDictKeys (hz := hes) (s := { s with toks := s.toks + 1 }) ho hd (wpAny_pure (hnew hfk _ ⟨_, _, ep + 1, Heap.get?_update_self _ ho (Obj.isFreed_of_dict (Obj.data_mapDictKeys hd _)),
      hc.mapDictKeys _, Obj.data_mapDictKeys hd _, hk.push hkey _, ?_, ?_⟩ (Heap.SameBut.update ..))))))
    · rw [stored, if_neg hany]
      have := hp.append hkey (knd.hash k) dflt
      obtain ⟨l⟩ := es
      simpa using this
    · rw [stored, if_neg hany, List.map_append, List.nodup_append]
      refine ⟨hn, by simp, ?_⟩
      intro a ha b hb
      simp only [List.map_cons, List.map_nil, List.mem_singleton] at hb
      subst hb
      exact fun e => hnot (e ▸ ha)
theorem meets_sdf (knd : KeyKind prog w K) {k : K} {key : Value} (d : Addr) (hkey : knd.is k key = true) (hd : (d == sysModules) = false) (dflt : Value) :
    MeetsIn prog w (Builtin.«dict.setdefault» ⟨[.ref d, key, dflt], []⟩) (fun _ R s => ∃ kvs, s.heap.DictOf knd d kvs ∧ kvs.length ≤ sizeLine ∧
      (∀ v, valueAt kvs k = some v → R (.ok (.ret v)) { s with toks := s.toks + 1 }) ∧
      (valueAt kvs k = none → ∀ h', h'.DictOf knd d (stored kvs k dflt) → Heap.SameBut d s.heap h' → R (.ok (.ret dflt)) { s with heap := h', toks := s.toks + 1 })) :=
  .of_wp fun A R s ⟨kvs, hm, hz, h1, h2⟩ => by
    unfold Builtin.«dict.setdefault»
    refine wpAny_bind ?_
    unfold Builtin.Dict.keyAndDefault
    refine wpAny_bind (wpAny_notOrdered_dict hm.typeIs ?_)
    show wpAny _ _ (pure (d, key, some dflt)) _ _ s
    refine wpAny_pure ?_
    show wpAny _ _ (if (d == sysModules) = true then _ else (dictSetDefault d key dflt >>= _)) _ _ s
    rw [if_neg (by rw [hd]; exact Bool.false_ne_true)]
    exact wpAny_bind (sdf_pairs hkey hm hz (fun v hv => wpAny_pure ⟨v, rfl, h1 v hv⟩) fun hn h' hm' hs' => wpAny_pure ⟨dflt, rfl, h2 hn h' hm' hs'⟩)
end
section
variable {X : Cx} {pins : List (Addr × Obj)} {σ : L2.St} {H : Hp} {s : Shared} {a : Addr} {A : Around} {E : Value → Shared → Prop}
theorem d_sdf {kvs : List (Key × V)} {k : Key} {z : V} {u r : Value} {Q : Value → Shared → Prop} (I : Inv X pins σ H s) (e : H a = some (.dK kvs)) (lt : kvs.length < sizeLine) (ry : RelV (kV k) u) (rz : RelV z r)
    (h1 : ∀ v w' s', valV kvs k = some v → Inv X pins σ H s' → RelV v w' → Q w' s') (h2 : ∀ s', valV kvs k = none → Inv X pins σ (upd H a (.dK (putK kvs k z))) s' → Q r s') :
    wpAny (model X.prog X.w) A (call (.builtin "dict.setdefault") [.ref a, u, r]) Q E s := by
  obtain ⟨zz, hd, vs, rel, dd⟩ := dk_of I.hok e
  have hz : vs.length ≤ sizeLine := by rw [← rel.length]; exact zz
  refine call_meetsIn PySem.F.slot_dict_setdefault dd.typeIs PySem.F.entry_dict_setdefault (PySem.F.args_dict_setdefault_3 _ _ _) (meets_sdf (mixKind X.prog X.w) a (kV_is ry) hd r) ⟨vs, dd, hz, fun w' hw => ?_, fun hn h' dd' hs => ?_⟩
  · have q := rel.val k
    rw [hw] at q
    cases ev : valV kvs k with
    | none =>
      rw [ev] at q
      exact absurd q (fun z => by cases z)
    | some v =>
      rw [ev] at q
      exact h1 v w' _ ev (I.tok _) q
  · have ev : valV kvs k = none := by
      have q := rel.val k
      rw [hn] at q
      cases ev : valV kvs k with
      | none => rfl
      | some v =>
        rw [ev] at q
        exact absurd q (fun z => by cases z)
    have he : ∃ q, h'.get? a = some q := let ⟨q, _, _, hq, _⟩ := dd'; ⟨q, hq⟩
    have hl : (putK kvs k z).length ≤ sizeLine := by have := length_putK kvs k z; omega
    exact h2 _ ev (d_write I (by rw [e]; exact True.intro) hs he (dk_new hl hd (rel.put k rz) dd'))
end
end Sdf
/-- d.setdefault(k, x) -/
def tSdf (td ty tx : TE) : TE := fun σ H Q => td σ H fun x H1 => ∃ a, x = .ref a ∧ IsD H1 a ∧ ty σ H1 fun y H2 => tx σ H2 fun z H3 => ∃ kvs k, H3 a = some (.dK kvs) ∧ y = kV k ∧ kvs.length < sizeLine ∧
  (∀ v, valV kvs k = some v → Q v H3) ∧ (valV kvs k = none → Q z (upd H3 a (.dK (putK kvs k z))))
theorem pe_sdf {X : Cx} {o e f : Expr} {apos cpos : Pos} {td ty tx : TE} (ho : PE X o td) (he : PE X e ty) (hf : PE X f tx) (m : M2 X o "setdefault" apos e f cpos) : PE X (.Call (.Attribute o "setdefault" apos) [e, f] [] cpos) (tSdf td ty tx) := by
  refine ⟨fun pins s σ H Q I h => ?_⟩
  refine wpAny_Call_method m.base m.few m.line PySem.F.plainAttrs_dict PySem.F.slot_dict_setdefault PySem.F.type_dict_setdefault (thn (ho.run pins s σ H _ I h) fun u s1 ⟨x, H1, I1, rx, a, ex, d, q1⟩ => ?_)
  subst ex
  obtain rfl : u = Value.ref a := rx
  obtain ⟨t1, t2, _⟩ := isD_at I1 d
  refine ⟨t1, t2, ?_⟩
  rw [m.trees]
  refine Calls.callWith_builtin rfl (Calls.evalArgs_plain (Calls.spliced_cons (thn (he.run pins s1 σ H1 _ I1 q1) fun iv s2 ⟨y, H2, I2, ry, q2⟩ =>
    Calls.spliced_cons (thn (hf.run pins s2 σ H2 _ I2 q2) fun fv s3 ⟨z, H3, I3, rz, kvs, k, hd, ey, lt, qa, qb⟩ => Calls.spliced_nil ?_))))
  subst ey
  exact Sdf.d_sdf I3 hd lt ry rz (fun v w' s4 ev I4 rw' => ⟨_, H3, I4, rw', qa v ev⟩) fun s4 ev I4 => ⟨_, _, I4, rz, qb ev⟩
/-- list(d.values()) -/
theorem call_listVals {X : Cx} (hc : X.calm = true) : CallR X (.type "list") (fun xs H Q => ∃ (v d : Addr) (kvs : List (Key × V)), xs = [.ref v] ∧ H v = some (valsO v d) ∧ H d = some (.dK kvs) ∧ ∀ q, H q = none → Q (.ref q) (upd H q (.lst (kvs.map (·.2))))) := by
  rintro pins s σ H xs us Q I r ⟨v, d, kvs, rfl, hv, hd, q⟩
  obtain ⟨u, eu, rx⟩ := vals1 r
  subst eu
  obtain rfl : u = Value.ref v := rx
  obtain ⟨ev, _, _⟩ := I.hok v _ hv
  obtain ⟨z, lo, vs, rk, hdd⟩ := (show ObjOk X.prog X.w H s.heap d (.dK kvs) from I.hok d _ hd)
  obtain ⟨ep, hat⟩ := hdd.dictAt
  have hl : kvs.length = vs.length := Paired.length rk
  refine PySem.W.kdl_call (PySem.W.kdl_values (knd := mixKind X.prog X.w) (kvs := vs) (ep := ep)) (I.ok.hd hc) ⟨⟨_, ev, rfl, rfl⟩, hat⟩ (by rw [← hl]; exact z) fun h' tk acc' c' hkeep hS hacc => ?_
  refine ⟨.ref s.heap.objs.size, upd H s.heap.objs.size (.lst (kvs.map (·.2))), I.laid hkeep (Nat.le_refl _) (show ObjOk X.prog X.w _ _ _ (.lst (kvs.map (·.2))) from ⟨?_, acc'.toList, c', ?_, ?_⟩), rfl, q _ (I.hok.fresh (Nat.le_refl _))⟩
  · rw [List.length_map]; exact z
  · have el : acc'.toList.length = acc'.size := by simp
    refine vals_of_at (by rw [List.length_map, el, hacc.1, hl]) fun j x w h1 h2 => ?_
    obtain ⟨k, hky⟩ := hacc.2 j w (by rw [← Array.getElem?_toList]; exact h2)
    obtain ⟨y, hy, ry⟩ := KV.at' rk hky
    rw [List.getElem?_map, hy] at h1
    rw [← Option.some.inj h1]
    exact ry
  · rw [Array.toArray_toList]; exact hS
/-! a list or a tuple -/
def LT (H : Hp) (a : Addr) (xs : List V) : Prop := H a = some (.lst xs) ∨ H a = some (.tup xs)
theorem LT.by {H H' : Hp} {a : Addr} {xs : List V} (h : LT H a xs) (k : ∀ o, H a = some o → (∀ ps, o ≠ .tbl ps) → H' a = some o) : LT H' a xs := h.imp (fun e => k _ e fun _ z => nomatch z) fun e => k _ e fun _ z => nomatch z
theorem LT.on {H H' : Hp} {a : Addr} {xs : List V} (h : LT H a xs) (s : Same H H') : LT H' a xs := h.imp (fun e => s _ _ e) fun e => s _ _ e
abbrev iSeq (K : PySem.W.Frag) (tl : TE) : TI := fun σ H R => iList K tl σ H R ∨ iTup K tl σ H R
theorem pi_seq {X : Cx} {tg l : Expr} {tl : TE} (hl : PE X l tl) : PI X tg l (iSeq X.K tl) := ⟨fun pins s σ H R I h => h.elim ((pi_list hl).run pins s σ H R I) ((pi_tup hl).run pins s σ H R I)⟩
structure Over (J : It) (xs : List V) (At : Hp → Prop) : Prop where
  go : ∀ i H x, At H → xs[i]? = some x → J.go i H
  yld : ∀ i H y H', At H → J.yld i H y H' → H' = H ∧ xs[i]? = some y
  stop : ∀ i H, At H → xs.length ≤ i → J.stop i H
theorem over_l {K : PySem.W.Frag} {a : Addr} {xs : List V} : Over (Itl K a) xs (fun H => SqL K H a xs) :=
  ⟨fun i H x h e => ⟨xs, x, h, e⟩, fun i H y H' h z => ⟨z.1, z.2 xs h⟩, fun i H h e => ⟨xs, h, e⟩⟩
theorem over_t {K : PySem.W.Frag} {a : Addr} {xs : List V} : Over (Itt K a) xs (fun H => SqT K H a xs) :=
  ⟨fun i H x h e => ⟨xs, x, h, e⟩, fun i H y H' h z => ⟨z.1, z.2 xs h⟩, fun i H h e => ⟨xs, h, e⟩⟩
/-- all(.. for x in xs), its iterator being there -/
theorem all_over {J : It} {At : Hp → Prop} {T : Addr} {xs : List V} {g : TG} {tt : TT} {te : TE} {vs : List Nat} {σ : L2.St} {H : Hp} {Q : VK} (o : Over J xs At) (W : Nat → Hp → Prop) (tg : GxR.TabG H T) (h0 : ∀ H2, GxR.Tabbed T H H2 → W 0 H2) (hl : ∀ i H', i ≤ xs.length → W i H' → At H')
    (step : ∀ i x H' (Go : Hp → Prop), xs[i]? = some x → W i H' → (∀ H4, W (i + 1) H4 → Go H4) → g x (wipe σ vs) H' fun σ2 H2 => wipe σ2 vs = wipe σ vs ∧ tt σ2 H2 fun b H3 => if b = true then te σ2 H3 fun y H4 => ∃ k, y = .bl k ∧ (if k = true then Go H4 else Q (.bl false) H4) else Go H3)
    (done : ∀ H', W xs.length H' → Q (.bl true) H') :
    GxR.TabG H T ∧ ∀ H2, GxR.Tabbed T H H2 → ∃ W : Nat → Nat → Hp → Prop, (∃ m, W 0 m H2) ∧
      GTurns J g tt te vs σ W (fun i m y H' => ∃ k, y = .bl k ∧ (if k = true then ∃ m', m' < m ∧ W (i + 1) m' H' else Q (.bl false) H')) (fun H' => Q (.bl true) H') := by
  refine ⟨tg, fun H2 tb => ⟨fun i m H' => m = xs.length - i ∧ i ≤ xs.length ∧ W i H', ⟨_, rfl, Nat.zero_le _, h0 H2 tb⟩, ?_⟩⟩
  rintro i m H3 ⟨rfl, hi, w3⟩
  by_cases lt : i < xs.length
  · refine .inr ⟨o.go i H3 xs[i] (hl i H3 hi w3) (List.getElem?_eq_getElem lt), fun x H' y => ?_⟩
    obtain ⟨rfl, hx⟩ := o.yld i H3 x H' (hl i H3 hi w3) y
    exact step i x _ (fun H' => ∃ m', m' < xs.length - i ∧ m' = xs.length - (i + 1) ∧ i + 1 ≤ xs.length ∧ W (i + 1) H') hx w3 fun H4 w4 => ⟨_, by omega, rfl, lt, w4⟩
  · have ei : i = xs.length := by omega
    exact .inl ⟨o.stop i H3 (hl i H3 hi w3) (by omega), done H3 (ei ▸ w3)⟩
theorem all_seq {K : PySem.W.Frag} {T l : Addr} {xs : List V} {g : TG} {tt : TT} {te : TE} {vs : List Nat} {σ : L2.St} {H : Hp} {Q : VK} {k : Nat} (h : LT H l xs) (hv : σ[k]? = some (some (.ref l))) (W : Nat → Hp → Prop) (tg : GxR.TabG H T) (h0 : ∀ H2, GxR.Tabbed T H H2 → W 0 H2) (hl : ∀ i H', i ≤ xs.length → W i H' → ∀ o, H l = some o → (∀ ps, o ≠ .tbl ps) → H' l = some o)
    (step : ∀ i x H' (Go : Hp → Prop), xs[i]? = some x → W i H' → (∀ H4, W (i + 1) H4 → Go H4) → g x (wipe σ vs) H' fun σ2 H2 => wipe σ2 vs = wipe σ vs ∧ tt σ2 H2 fun b H3 => if b = true then te σ2 H3 fun y H4 => ∃ k, y = .bl k ∧ (if k = true then Go H4 else Q (.bl false) H4) else Go H3)
    (done : ∀ H', W xs.length H' → Q (.bl true) H') : tAllG T (iSeq K (tVar k)) g tt te vs σ H Q := by
  rcases h with h | h
  · exact .inl ⟨_, hv, l, rfl, ⟨_, SqL.of h⟩, all_over over_l W tg h0 (fun i H' hi w => SqL.of (hl i H' hi w _ h fun _ z => nomatch z)) step done⟩
  · exact .inr ⟨_, hv, l, rfl, ⟨_, SqT.of h⟩, all_over over_t W tg h0 (fun i H' hi w => SqT.of (hl i H' hi w _ h fun _ z => nomatch z)) step done⟩
theorem for_seq {K : PySem.W.Frag} {l : Addr} {xs : List V} {g : TG} {tb : TS} {D : Ends} {σ : L2.St} {H : Hp} {k : Nat} (h : LT H l xs) (hv : σ[k]? = some (some (.ref l))) (Pv : Nat → L2.St → Hp → Prop) (h0 : Pv 0 σ H) (hl : ∀ i σ H', i ≤ xs.length → Pv i σ H' → ∀ o, H l = some o → (∀ ps, o ≠ .tbl ps) → H' l = some o)
    (hs : ∀ i x σ H, xs[i]? = some x → Pv i σ H → g x σ H fun σ2 H2 => tb { D with nx := Pv (i + 1), ct := Pv (i + 1), bk := D.nx } σ2 H2) (hd : ∀ σ H, Pv xs.length σ H → D.nx σ H) : tFor (iSeq K (tVar k)) g tb D σ H := by
  rcases h with h | h
  · exact .inl ⟨_, hv, l, rfl, ⟨_, SqL.of h⟩, for_list Pv h0 (fun i σ' H' hi w => SqL.of (hl i σ' H' hi w _ h fun _ z => nomatch z)) hs hd⟩
  · exact .inr ⟨_, hv, l, rfl, ⟨_, SqT.of h⟩, for_tup Pv h0 (fun i σ' H' hi w => SqT.of (hl i σ' H' hi w _ h fun _ z => nomatch z)) hs hd⟩
/-! ### sorted(..) of a list of data -/
theorem each_unmap {R : Value → PyData → Prop} {f : V × PyData → PyData} : ∀ {es : List (V × PyData)} {us : List Value}, PySem.W.EachIs R us (es.map f) → PySem.W.EachIs (fun v e => R v (f e)) us es
  | [], _, .nil => .nil
  | _ :: _, _, .cons a t => .cons a (each_unmap t)
theorem cr_sortD {X : Cx} (hu : X.A.units + 64 < cLine) : CallR X (.builtin "sorted") (fun vs H Q => ∃ (l : Addr) (es : List (V × PyData)), vs = [.ref l] ∧ SqL X.K H l (es.map (·.1)) ∧ DpAll X.K H (es.map (·.1)) (es.map (·.2)) ∧ PySem.W.AllAlike (es.map (·.2)) ∧ PySem.W.Sortable (es.map (·.2)) ∧
    (∀ e ∈ es, e.2.depth ≤ 60) ∧ ∀ p, H p = none → Q (.ref p) (upd H p (.lst ((keyed es).map (·.1))))) := by
  rintro pins s σ H vs us Q I r ⟨l, es, rfl, hs, dp, al, so, de, q⟩
  obtain rfl := Vals.ref1 r
  obtain ⟨its, rv, hl, hz⟩ := I.list hs
  have hlen : its.length = es.length := by rw [← rv.length, List.length_map]
  have hL : es.length ≤ sizeLine := by rw [← hlen, ← rv.length]; exact hz
  refine PySem.W.sorted_data (R := fun v (e : V × PyData) => RelV e.1 v) (enc := fun e : V × PyData => e.2) hl.isList (each_pairs rv) (each_unmap (each_dp I dp rv)) al so hL (fun b hb => ?_) fun out lo eo => ?_
  · have := de b hb
    omega
  · obtain ⟨c, hc⟩ := sortedAll_at s.heap its out.toArray
    have l2 : ((keyed es).map (·.1)).length ≤ sizeLine := by
      rw [List.length_map, List.length_mergeSort]
      exact hL
    exact ⟨.ref (s.heap.objs.size + 1), upd H (s.heap.objs.size + 1) (.lst ((keyed es).map (·.1))), I.laid (t' := s.toks) (fun b o => sortedAll_old) (Nat.le_succ _) ⟨l2, out, c, pairs_each eo, hc⟩, rfl, q _ (I.hok.fresh (Nat.le_succ _))⟩
/-! their text isn't long -/
theorem toString_neg (i : Int) (h : i < 0) : (toString i).length ≤ (toString (-i)).length + 1 := by
  obtain ⟨n, rfl⟩ : ∃ n : Nat, i = -((n + 1 : Nat) : Int) := ⟨(-i).toNat - 1, by omega⟩
  rw [Int.neg_neg]
  show ("-" ++ toString (n + 1)).length ≤ (toString (n + 1)).length + 1
  rw [String.length_append]
  have : ("-" : String).length = 1 := rfl
  omega
theorem short_big {i : Int} (h0 : -100000000000 < i) (h1 : i < 100000000000) : Short (.int i) 8 0 := by
  have e : (PyData.shown (.int i)).length ≤ 13 := by
    by_cases z : 0 ≤ i
    · exact Nat.le_trans (toString_length_le z (k := 11) (by decide) (by omega)) (by decide)
    · show (Str.ofString (toString i)).length ≤ 13
      have h := toString_length_le (v := -i) (by omega) (k := 11) (by decide) (by omega)
      rw [PySem.ofString_length] at h ⊢
      have := toString_neg i (by omega)
      omega
  refine ⟨?_, rfl, decide_eq_true e, Nat.zero_le _, Nat.zero_le _⟩
  show decide (i.natAbs.log2 < 1920) = true
  refine decide_eq_true ?_
  by_cases z : i.natAbs = 0
  · rw [z]
    decide
  · exact Nat.lt_trans ((Nat.log2_lt z).mpr (show i.natAbs < 2 ^ 40 by omega)) (by decide)
theorem short_lst {n k m : Nat} {ds : List PyData} (h : ∀ d ∈ ds, Short d n k) (l : ds.length * (n + 1) ≤ m) : Short (.list ds) m (k + 1) := by
  obtain ⟨a1, a2, a3, a4, a5⟩ := short_all h
  refine ⟨?_, ?_, ?_, ?_, ?_⟩
  · rw [PyData.showable]; exact a1
  · rw [PyData.hasDict]; exact a2
  · rw [PyData.leavesShort]; exact a3
  · rw [PyData.bulk]; omega
  · rw [PyData.depth]; omega
theorem Short.fits2 {d : PyData} {n k : Nat} (h : Short d n k) (hn : n ≤ 400000) : d.shown.length ≤ sizeLine := by
  have q := PyData.shown_le_bulk 13 (by decide) d h.ls
  have := h.bk
  rw [sizeLine_eq]
  omega
theorem inV_iff {x : Str} {ys : List Str} : inV (.str x) (ys.map V.str) = decide (x ∈ ys) := by
  unfold inV
  rw [List.any_map]
  by_cases h : x ∈ ys
  · rw [decide_eq_true h]
    exact List.any_eq_true.mpr ⟨x, h, by show (x == x) = true; simp⟩
  · rw [decide_eq_false h, List.any_eq_false]
    intro y hy z
    have z' : (y == x) = true := z
    exact h (eq_of_beq z' ▸ hy)
theorem all_flat (ys : List Str) : (ys.map V.str).all flatV = true := by
  rw [List.all_map]
  exact List.all_eq_true.mpr fun y _ => rfl
theorem scal_good (e : Ent) (g : Str) : scal e.goodV (.str g) = true := by cases e <;> rfl
/-! ### is_entry_of -/
theorem TB1.of2 {Ts : List Addr} {T1 T2 : Addr} {H H' : Hp} (g : TabsG Ts H) (i1 : T1 ∈ Ts) (i2 : T2 ∈ Ts) (b : TB2 T1 T2 H H') : TB1 Ts H H' := by
  have n1 : ∀ {a o}, H a = some o → (∀ ps, o ≠ .tbl ps) → a ≠ T1 ∧ a ≠ T2 := fun {a o} e n => by
    obtain ⟨p1, e1, _⟩ := g T1 i1
    obtain ⟨p2, e2, _⟩ := g T2 i2
    exact ⟨ne_of e e1 (n p1), ne_of e e2 (n p2)⟩
  refine ⟨fun T hT => ?_, fun a o e n => b.1 a o e (n1 e n).1 (n1 e n).2, fun a n => ?_, fun a o e n => b.1 a o e (fun z => n (z ▸ i1)) fun z => n (z ▸ i2)⟩
  · by_cases z1 : T = T1
    · rw [z1]; exact b.2.1
    · by_cases z2 : T = T2
      · rw [z2]; exact b.2.2
      · obtain ⟨ps, e, ok⟩ := g T hT
        exact ⟨ps, b.1 T _ e z1 z2, ok⟩
  · cases e : H a with
    | none => rfl
    | some o =>
      by_cases z1 : a = T1
      · obtain ⟨ps, e1, _⟩ := b.2.1
        rw [z1, e1] at n
        cases n
      · by_cases z2 : a = T2
        · obtain ⟨ps, e1, _⟩ := b.2.2
          rw [z2, e1] at n
          cases n
        · rw [b.1 a o e z1 z2] at n
          cases n
theorem take_sn {α : Type} {l : List α} {i : Nat} {x : α} (h : l[i]? = some x) : l.take (i + 1) = l.take i ++ [x] := by
  rw [List.take_add_one, h]
  rfl
def goodOk (e : Ent) (G : List Str) : Bool := match e.goodV with | .str g => decide (g ∈ G) | _ => true
def ofB (e : Ent) (P G : List Str) : Bool := goodOk e G && e.places.all fun y => decide (y ∈ P)
def spIsEntryOf (Ts : List Addr) : Sp := fun vs H Q _ => ∃ (a pl gl : Addr) (e : Ent) (P G : List Str), vs = [.ref a, .ref pl, .ref gl] ∧ H a = some (.tup e.vals) ∧ e.Fine ∧ H pl = some (.tup (P.map V.str)) ∧ H gl = some (.tup (G.map V.str)) ∧ TabsG Ts H ∧
  ∀ H', TB1 Ts H H' → Q (.bl (ofB e P G)) H'
theorem goodV_cases (e : Ent) : e.goodV = .non ∨ ∃ g, e.goodV = .str g := by cases e <;> first | exact .inl rfl | exact .inr ⟨_, rfl⟩
section
variable {P : Program} {w : World} {K : PySem.W.Frag} {mg : Str → Option Value} {base : Heap}
abbrev sIsEntryOfN : List Str := ["thing", "places", "goods", "good", "place"]
theorem sc_sIsEntryOf : FnScope sIsEntryOfN ["thing", "places", "goods"] (defScope sIsEntryOf) := ⟨rfl, rfl, rfl, by decide +kernel, rfl, by decide +kernel, by decide +kernel⟩
theorem ok_isEntryOf {f cR T1 T2 T4 fI fG fP : Addr} {Ts : List Addr} {dI dG dP : FuncData} {oc kV doc pm ct : Value} {od an : Option Addr} {osl : Array (Option Value)}
    (lk : K.lookup f = some ⟨oc, od, .func (PySem.W.fnOf "is_entry_of" "is_entry_of" (defArgs sIsEntryOf) (defBody sIsEntryOf) (defScope sIsEntryOf) .none kV doc pm an (.ref cR) ct), osl⟩) (cdI : PySem.W.codeIn K (.ref cR) "is_entry_of" = true)
    (TB : GxR.TabB base mg cR T4) (i1 : T1 ∈ Ts) (i2 : T2 ∈ Ts) (i4 : T4 ∈ Ts) (IE : DefT P w K mg base "is_entry" 4 fI dI ["thing"] (spIsEntry T1 T2)) (GO : DefT P w K mg base "good_of" 1 fG dG ["entry"] spGood) (PO : DefT P w K mg base "places_of" 1 fP dP ["entry"] spPlaces)
    (mal : mg "all" = none) :
    FnOk P w K mg base CX0 5 f (PySem.W.fnOf "is_entry_of" "is_entry_of" (defArgs sIsEntryOf) (defBody sIsEntryOf) (defScope sIsEntryOf) .none kV doc pm an (.ref cR) ct) ["thing", "places", "goods"] (spIsEntryOf Ts) := by
  refine fn_of lk cdI sc_sIsEntryOf (fun vs H Q E h => ?_) (fun A outer s H vs Q E hr h => ?_)
  · obtain ⟨a, pl, gl, e, Ps, G, rfl, _⟩ := h
    rfl
  · obtain ⟨a, pl, gl, e, Ps, G, rfl, ha, fi, hp, hg, tg, q⟩ := h
    have nd := sc_sIsEntryOf.nd
    have hr1 : Room 1 _ := hr.mono (by decide)
    refine ⟨_, pss_cons (ps_if (pt_not (pt_val (pe_call IE.ok hr (by rfl) IE.g IE.kp IE.b .nil pass0 (pa_cons (pv 0) pa_nil)))) (pss_one (ps_ret pe_bl)) pss_nil)
      (pss_cons (ps_set (i := 3) nd rfl (Or.inl rfl) (pe_call GO.ok hr1 (by rfl) GO.g GO.kp GO.b .nil pass0 (pa_cons (pv 0) pa_nil)))
      (pss_cons (ps_if (PW.pt (pw_and (pt_cmpR op_notN (pv 3) pe_non (by rfl)) (pw_and1 (pt_cmpR op_notIn_seq (pv 3) (pv 2) (by rfl))))) (pss_one (ps_ret pe_bl)) pss_nil)
      (pss_one (ps_ret (pe_allG (T := T4) (c := cR) (k := 1) (own := [("place", 4)]) (g := gName 4) (tt := tYes) (te := tOp (rIn K false) (tVar 4) (tVar 1))
          (hr.mono (by decide)) (by rfl) mal rfl nd TB rfl ⟨blkOk_by (N := sIsEntryOfN) (sc := defScope sIsEntryOf) (by decide +kernel), rfl, by decide +kernel, rfl⟩
          (pi_tup (pe_call PO.ok hr1 (by rfl) PO.g PO.kp PO.b .nil pass0 (pa_cons (pv 0) pa_nil))) (fun _ _ _ _ _ _ => pg_name (i := 4) nd rfl (Or.inl rfl)) (fun _ _ _ _ _ _ _ => pts_nil) (fun _ _ _ _ _ _ _ => pe_cmpR op_in_seq (pv 4) (pv 1) (by rfl))))))), ?_⟩
    refine ⟨_, rfl, a, e, rfl, ha, fi, tg T1 i1, tg T2 i2, fun H1 b => ?_⟩
    have b1 := TB1.of2 tg i1 i2 b
    have ha1 := b1.tk _ _ ha
    have hp1 := b1.tk _ _ hp
    have hg1 := b1.tk _ _ hg
    refine ⟨true, rfl, iteF ⟨_, rfl, a, e, rfl, ha1, ?_⟩⟩
    -- the places
    have last : goodOk e G = true → tRet (tAllG T4 (iTup K (tCall spPlaces [] E0 (tCons (tVar 0) tNil))) (gName 4) tYes (tOp (rIn K false) (tVar 4) (tVar 1)) [4]) { nx := fun x H' => Q V.non H', rt := Q } [some (.ref a), some (.ref pl), some (.ref gl), some e.goodV, none] H1 := fun go => by
      refine ⟨_, rfl, a, e, rfl, ha1, fun tp H4 s4 ht => ⟨tp, rfl, ⟨_, SqT.of ht⟩, ?_⟩⟩
      have b4 := b1.tr (.same b1.1 s4)
      refine all_over (over_t (K := K) (a := tp) (xs := e.places.map V.str)) (fun i H' => TB1 Ts H4 H' ∧ (e.places.take i).all (fun y => decide (y ∈ Ps)) = true) (b4.1 T4 i4) (fun H2 tb => ⟨.tab tb b4.1 i4, rfl⟩) (fun i H' _ b => SqT.of (b.1.tk _ _ ht)) ?_ ?_
      · intro i x H' Go hx b go'
        rw [List.getElem?_map] at hx
        obtain ⟨y, hy, rfl⟩ := Option.map_eq_some_iff.mp hx
        refine ⟨rfl, yesT ⟨_, rfl, _, rfl, pl, Ps.map V.str, rfl, .inr (SqT.of (b.1.tk _ _ (s4 _ _ hp1))), rfl, all_flat _, _, rfl, ?_⟩⟩
        rw [inV_iff]
        by_cases z : y ∈ Ps
        · rw [decide_eq_true z]
          refine iteT (go' _ ⟨b.1, ?_⟩)
          rw [take_sn hy, List.all_append, b.2]
          simp [z]
        · rw [decide_eq_false z]
          refine iteF ?_
          have := q H' (b4.tr b.1)
          rw [show ofB e Ps G = false by
            unfold ofB
            rw [go, Bool.true_and, List.all_eq_false]
            exact ⟨y, List.mem_of_getElem? hy, by simp [z]⟩] at this
          exact this
      · intro H' b
        have := q H' (b4.tr b.1)
        rw [show ofB e Ps G = true by
          unfold ofB
          rw [go, Bool.true_and, ← b.2, List.length_map, List.take_length]] at this
        exact this
    rcases goodV_cases e with eg | ⟨g, eg⟩
    · have go : goodOk e G = true := by unfold goodOk; rw [eg]
      refine ⟨_, rfl, rfl, ?_⟩
      have := last go
      rw [eg] at this ⊢
      exact ⟨_, rfl, iteF this⟩
    · have go : goodOk e G = decide (g ∈ G) := by unfold goodOk; rw [eg]
      refine ⟨_, rfl, rfl, ?_⟩
      rw [eg] at last ⊢
      refine ⟨_, rfl, iteT ⟨_, rfl, _, rfl, gl, G.map V.str, rfl, .inr (SqT.of hg1), rfl, all_flat _, _, rfl, ?_⟩⟩
      rw [inV_iff]
      by_cases z : g ∈ G
      · rw [decide_eq_true z]
        exact iteF (last (by rw [go, decide_eq_true z]))
      · rw [decide_eq_false z]
        refine iteT ?_
        have := q H1 b1
        rw [show ofB e Ps G = false by unfold ofB; rw [go, decide_eq_false z]; rfl] at this
        exact this
end
/-! ### own_entries, in_order, house_of -/
theorem ents_pairs {H : Hp} : ∀ {pr : List (Addr × Ent)}, (∀ x ∈ pr, H x.1 = some (.tup x.2.vals)) → EntsAt H (pr.map (·.1)) (pr.map (·.2))
  | [], _ => .nil
  | x :: r, h => .cons (h x List.mem_cons_self) (ents_pairs fun y hy => h y (List.mem_cons_of_mem _ hy))
def prV (x : Addr × Ent) : V × PyData := (.ref x.1, ordD x.2)
/-- entries in their order -/
def ordLe (a b : Addr × Ent) : Bool := PySem.W.dataLe false id (ordD a.2) (ordD b.2)
def sortE (pr : List (Addr × Ent)) : List (Addr × Ent) := pr.mergeSort ordLe
theorem keyed_prV (pr : List (Addr × Ent)) : keyed (pr.map prV) = (sortE pr).map prV := (List.map_mergeSort (f := prV) (s := PySem.W.dataLe false fun e : V × PyData => e.2) (r := ordLe) (l := pr) fun a _ b _ => rfl).symm
theorem sortE_p (pr : List (Addr × Ent)) : (sortE pr).Perm pr := List.mergeSort_perm _ _
theorem ord_inj {e g : Ent} (h : PySem.W.keyToks (ordD e) = PySem.W.keyToks (ordD g)) : e.name = g.name := by
  have h' : ([.inl 1, .inl e.moment, .inl 1, .inl e.rank, .inl 1, .inr e.name.cps.toList, .inl 0] : List (Int ⊕ List Nat)) = [.inl 1, .inl g.moment, .inl 1, .inl g.rank, .inl 1, .inr g.name.cps.toList, .inl 0] := by
    simpa [ordD, PySem.W.keyToks, PySem.W.keyToksAll] using h
  simp only [List.cons.injEq, Sum.inr.injEq, Sum.inl.injEq, true_and, and_true] at h'
  exact str_ext h'.2.2
theorem dle_iff (a b : PyData) : PySem.W.dataLe false id a b = !PySem.W.dataLt b a := rfl
theorem dlt_asym {a b : PyData} (h : PySem.W.dataLt a b = true) : PySem.W.dataLt b a = false := by
  cases e : PySem.W.dataLt b a with
  | false => rfl
  | true =>
    have := PyProof.Rows.lex_trans (O := PyProof.Rows.itemOrd) _ _ _ h e
    rw [PyProof.Rows.lex_irrefl] at this
    cases this
theorem dle_tr (a b c : PyData) (h1 : PySem.W.dataLe false id a b = true) (h2 : PySem.W.dataLe false id b c = true) : PySem.W.dataLe false id a c = true := by
  rw [dle_iff] at *
  have g1 : PySem.W.dataLt b a = false := by simpa using h1
  have g2 : PySem.W.dataLt c b = false := by simpa using h2
  cases e : PySem.W.dataLt c a with
  | false => rfl
  | true =>
    rcases PyProof.Rows.lex_negTrans (O := PyProof.Rows.itemOrd) _ (PySem.W.keyToks b) _ e with z | z
    · exact absurd (g2.symm.trans z) (by decide)
    · exact absurd (g1.symm.trans z) (by decide)
theorem dle_tot (a b : PyData) : (PySem.W.dataLe false id a b || PySem.W.dataLe false id b a) = true := by
  rw [dle_iff, dle_iff]
  cases e : PySem.W.dataLt b a with
  | false => rfl
  | true => rw [dlt_asym e]; rfl
theorem ordLe_tr (a b c : Addr × Ent) (h1 : ordLe a b = true) (h2 : ordLe b c = true) : ordLe a c = true := dle_tr _ _ _ h1 h2
theorem ordLe_tot (a b : Addr × Ent) : (ordLe a b || ordLe b a) = true := dle_tot _ _
theorem sortE_perm {a b : List (Addr × Ent)} (p : a.Perm b) (inj : ∀ x ∈ a, ∀ y ∈ a, x.2.name = y.2.name → x = y) : sortE a = sortE b := by
  have pa := sortE_p a
  have pb := sortE_p b
  refine List.Perm.eq_of_pairwise (le := fun x y => ordLe x y = true) (fun x y hx hy h1 h2 => ?_) (List.pairwise_mergeSort ordLe_tr ordLe_tot a) (List.pairwise_mergeSort ordLe_tr ordLe_tot b) (pa.trans (p.trans pb.symm))
  unfold ordLe at h1 h2
  rw [dle_iff] at h1 h2
  have g1 : PySem.W.dataLt (ordD y.2) (ordD x.2) = false := by simpa using h1
  have g2 : PySem.W.dataLt (ordD x.2) (ordD y.2) = false := by simpa using h2
  exact inj x (pa.mem_iff.mp hx) y (p.mem_iff.mpr (pb.mem_iff.mp hy)) (ord_inj (PyProof.Rows.lex_total (O := PyProof.Rows.itemOrd) _ _ g2 g1))
def spInOrder : Sp := fun vs H Q _ => ∃ (l : Addr) (pr : List (Addr × Ent)), vs = [.ref l] ∧ H l = some (.lst (pr.map fun x => V.ref x.1)) ∧ (∀ x ∈ pr, H x.1 = some (.tup x.2.vals)) ∧
  ∀ (tp : Addr) (H' : Hp), H tp = none → Same H H' → H' tp = some (.tup ((sortE pr).map fun x => V.ref x.1)) → Q (.ref tp) H'
section
variable {P : Program} {w : World} {K : PySem.W.Frag} {mg : Str → Option Value} {base : Heap}
abbrev sInOrderN : List Str := ["entries"]
theorem sc_sInOrder : FnScope sInOrderN ["entries"] (defScope sInOrder) := ⟨rfl, rfl, rfl, by decide +kernel, rfl, by decide +kernel, by decide +kernel⟩
theorem ok_inOrder {f fO : Addr} {fd dO : FuncData} (F : Fun K "in_order" "in_order" sInOrder f fd) (O : DefT P w K mg base "order_of" 1 fO dO ["entry"] spOrd) (ms : mg "sorted" = none) (mt : mg "tuple" = none) : FnOk P w K mg base CX0 4 f fd ["entries"] spInOrder := by
  refine F.ok sc_sInOrder (fun vs H Q E h => ?_) (fun cdv A outer s H vs Q E hr h => ?_)
  · obtain ⟨l, pr, rfl, _⟩ := h
    rfl
  · obtain ⟨l, pr, rfl, hl, hE, q⟩ := h
    have nd := sc_sInOrder.nd
    have hr3 : Room 3 _ := hr
    have nd := sc_sInOrder.nd
    have hr3 : Room 3 _ := hr.mono (by decide)
    refine ⟨_, pss_one (ps_ret (pe_callTy call_tuple_of (by rfl) mt (by decide +kernel) (pa_cons (pe_callBK (cr_sortK O.ok hr3 O.b) (by rfl) ms (by decide +kernel) (pa_cons (pv 0) pa_nil) (pk_cons (pe_glob (v := .ref fO) (by rfl) O.g rfl) pk_nil)) pa_nil))), ?_⟩
    refine ⟨_, rfl, l, pr.map prV, rfl, rfl, SqL.of (by rw [hl, List.map_map]; rfl), ?_, .inl ?_, ?_, ?_, fun a3 H10 na3 s3 h3 => ⟨a3, _, rfl, .inl ⟨SqL.of h3, fun t3 nt3 => ?_⟩⟩⟩
    · intro d hd d' hd'
      rw [List.map_map] at hd hd'
      obtain ⟨x, _, rfl⟩ := List.mem_map.mp hd
      obtain ⟨y, _, rfl⟩ := List.mem_map.mp hd'
      exact ord_alike x.2 y.2
    · intro d hd
      rw [List.map_map] at hd
      obtain ⟨x, _, rfl⟩ := List.mem_map.mp hd
      exact ⟨_, _, rfl⟩
    · intro e he
      obtain ⟨x, _, rfl⟩ := List.mem_map.mp he
      show 1 ≤ 60
      decide
    · intro e he H1 sm Q1 hq
      obtain ⟨x, hx, rfl⟩ := List.mem_map.mp he
      exact ⟨x.1, x.2, rfl, sm _ _ (hE x hx), fun tp H2 sm2 h2 => hq _ _ sm2 (ord_dp h2)⟩
    · rw [keyed_prV]
      refine q t3 _ ?_ (s3.trans (same_new nt3)) ?_
      · cases e : H t3 with
        | none => rfl
        | some o => exact absurd (s3 _ _ e) (by rw [nt3]; intro z; cases z)
      · rw [upd_same, List.map_map]
        rfl
end
/-! ### entries told by their parts -/
def snB : V → Bool
  | .int _ => true
  | .str _ => true
  | _ => false
theorem vals_sn (e : Ent) : ∀ v ∈ e.vals, (∃ i, v = .int i) ∨ ∃ s, v = .str s := by
  have h : e.vals.all snB = true := by cases e <;> rfl
  intro v hv
  have := List.all_eq_true.mp h v hv
  cases v with
  | int i => exact .inl ⟨i, rfl⟩
  | str s => exact .inr ⟨s, rfl⟩
  | _ => exact nomatch this
theorem wno {a b : String} (h : (Str.ofString a == Str.ofString b) = false) : ¬ (Str.ofString a = Str.ofString b) := fun e => by rw [e] at h; exact absurd (beq_self_eq_true (Str.ofString b)) (by rw [h]; exact fun z => nomatch z)
theorem vals_inj {e f : Ent} (h : e.vals = f.vals) : e = f := by
  have w2 : ∀ x ∈ words7, ∀ y ∈ words7, V.str x = V.str y → x = y := fun x _ y _ z => V.str.inj z
  have hw : e.word = f.word := by
    have := (List.cons.inj h).1
    exact V.str.inj this
  cases e <;> cases f <;> first
    | (simpa [Ent.vals, Ent.rest, Ent.name, Ent.moment, Ent.word] using h)
    | (exact absurd hw (wno (by decide +kernel)))
/-! ### is_entry, asked of anything -/
/-- a thing of the usual kinds -/
inductive Thg (H : Hp) : V → Prop where
  | str (z : Str) (h : z.length ≤ 1000) : Thg H (.str z)
  | int (i : Int) : Thg H (.int i)
  | bl (b : Bool) : Thg H (.bl b)
  | non : Thg H .non
  | lst {a : Addr} {xs : List V} (h : H a = some (.lst xs)) : Thg H (.ref a)
  | tup {a : Addr} {xs : List V} (h : H a = some (.tup xs)) : Thg H (.ref a)
  | dct {a : Addr} {kvs : List (Key × V)} (h : H a = some (.dK kvs)) : Thg H (.ref a)
theorem Thg.on {H H' : Hp} {v : V} (k : ∀ a o, v = .ref a → H a = some o → (∀ ps, o ≠ .tbl ps) → H' a = some o) (t : Thg H v) : Thg H' v := by
  cases t with
  | str z h => exact .str z h
  | int i => exact .int i
  | bl b => exact .bl b
  | non => exact .non
  | lst h => exact .lst (k _ _ rfl h fun ps z => nomatch z)
  | tup h => exact .tup (k _ _ rfl h fun ps z => nomatch z)
  | dct h => exact .dct (k _ _ rfl h fun ps z => nomatch z)
theorem Thg.of_part {H : Hp} {v : V} (p : Part v) : Thg H v := by
  rcases p with ⟨z, rfl, h⟩ | ⟨i, rfl⟩
  · exact .str z h
  · exact .int i
/-- the built-in kind of a thing -/
theorem Thg.ty {K : PySem.W.Frag} {H : Hp} {v : V} (t : Thg H v) : ∃ n : String, TyX K H v (.type n) ∧ n ∈ ["str", "int", "bool", "NoneType", "list", "tuple", "dict"] ∧ (n = "str" ↔ ∃ z, v = .str z) ∧ (n = "tuple" ↔ ∃ a xs, v = .ref a ∧ H a = some (.tup xs)) := by
  have no : ∀ {p q : Prop}, ¬ p → ¬ q → (p ↔ q) := fun a b => ⟨fun x => absurd x a, fun x => absurd x b⟩
  cases t with
  | str z h => exact ⟨"str", .base (.str z), by decide, ⟨fun _ => ⟨z, rfl⟩, fun _ => rfl⟩, no (by decide) (fun ⟨_, _, e, _⟩ => nomatch e)⟩
  | int i => exact ⟨"int", .base (.int i), by decide, no (by decide) (fun ⟨_, e⟩ => nomatch e), no (by decide) (fun ⟨_, _, e, _⟩ => nomatch e)⟩
  | bl b => exact ⟨"bool", .base (.bl b), by decide, no (by decide) (fun ⟨_, e⟩ => nomatch e), no (by decide) (fun ⟨_, _, e, _⟩ => nomatch e)⟩
  | non => exact ⟨"NoneType", .base .non, by decide, no (by decide) (fun ⟨_, e⟩ => nomatch e), no (by decide) (fun ⟨_, _, e, _⟩ => nomatch e)⟩
  | lst h => exact ⟨"list", .base (.lst h), by decide, no (by decide) (fun ⟨_, e⟩ => nomatch e), no (by decide) (fun ⟨_, _, e, h2⟩ => by cases e; rw [h] at h2; exact nomatch h2)⟩
  | tup h => exact ⟨"tuple", .base (.tup h), by decide, no (by decide) (fun ⟨_, e⟩ => nomatch e), ⟨fun _ => ⟨_, _, rfl, h⟩, fun _ => rfl⟩⟩
  | dct h => exact ⟨"dict", .base (.dK h), by decide, no (by decide) (fun ⟨_, e⟩ => nomatch e), no (by decide) (fun ⟨_, _, e, h2⟩ => by cases e; rw [h] at h2; exact nomatch h2)⟩
theorem kit_str {n : String} (m : n ∈ ["str", "int", "bool", "NoneType", "list", "tuple", "dict"]) : kitB n "str" = some (decide (n = "str")) := by
  simp only [List.mem_cons, List.not_mem_nil, or_false] at m
  rcases m with rfl | rfl | rfl | rfl | rfl | rfl | rfl <;> decide +kernel
theorem kit_tup {n : String} (m : n ∈ ["str", "int", "bool", "NoneType", "list", "tuple", "dict"]) : kitB n "tuple" = some (decide (n = "tuple")) := by
  simp only [List.mem_cons, List.not_mem_nil, or_false] at m
  rcases m with rfl | rfl | rfl | rfl | rfl | rfl | rfl <;> decide +kernel
namespace EqE
open PySem PySem.Spec in
theorem no_str (t : Str) (u : Tok) (l : Addr) (es : Array DictEntry) (n : Nat) (od : Option Addr) (sl : Array (Option Value)) :
    Meets (Builtin.«str.__eq__» ⟨[.str t u, .ref l], []⟩) (fun _ R z => z.heap.get? l = some ⟨.type "dict", od, .dict es n, sl⟩ ∧ R (.ok (.ret .notImplemented)) z) := by
  refine .of_wp fun prog w A R z h => ?_
  obtain ⟨hp, g, d, tk, os⟩ := z
  obtain ⟨hl, h⟩ := h
  wp_walk using wpAny_loadPart' hl, wpAny_load hl
  exact ⟨_, rfl, h⟩
theorem no_dict (t : Str) (u : Tok) (l : Addr) (es : Array DictEntry) (n : Nat) (od : Option Addr) (sl : Array (Option Value)) :
    Meets (Builtin.«dict.__eq__» ⟨[.ref l, .str t u], []⟩) (fun _ R z => z.heap.get? l = some ⟨.type "dict", od, .dict es n, sl⟩ ∧ R (.ok (.ret .notImplemented)) z) := by
  refine .of_wp fun prog w A R z h => ?_
  obtain ⟨hp, g, d, tk, os⟩ := z
  obtain ⟨hl, h⟩ := h
  have f1 := F.sub_str_dict
  wp_walk using wpAny_loadPart' hl, wpAny_load hl
  exact ⟨_, rfl, h⟩
theorem dict_txt {prog : Program} {w : World} {A : Around} {E : Value → Shared → Prop} {z : Shared} {Q : Value → Shared → Prop} {t : Str} {u : Tok} {l : Addr} {es : Array DictEntry} {n : Nat} {od : Option Addr} {sl : Array (Option Value)} (ho : z.heap.get? l = some ⟨.type "dict", od, .dict es n, sl⟩) (hu : A.units < cLine) (h : Q (.bool false) z) :
    wpAny (model prog w) A (compareOp .Eq (.ref l) (.str t u)) Q E z :=
  SeqAt.rc_eq_decline_or (k := false) ⟨_, ho, rfl⟩ (typeIs_str z t u) (by decide) F.sub_str_dict F.slot_dict_eq F.slot_str_eq_refl
    (fun _ hq => call_meets F.slot_dict_eq ⟨_, ho, rfl⟩ F.entry_dict_eq (F.args_dict_eq_2 _ _) (no_dict t u l es n od sl) ⟨ho, hq⟩)
    (fun _ hq => call_meets F.slot_str_eq_refl (typeIs_str z t u) F.entry_str_eq (F.args_str_eq_2 _ _) (no_str t u l es n od sl) ⟨ho, hq⟩)
    (fun _ hq => wpAny_of_eq (rfl : isSame (.ref l) (.str t u) = pure false) hq) (.inr hu) h
def rEqE : R2 := fun x y G W => ∃ s, y = V.str s ∧ Thg G x ∧ W (V.bl (decide (x = V.str s))) G
theorem op_eqE {X : Cx} (hu : X.A.units + 64 < cLine) : OpR X (compareOp .Eq) rEqE := by
  rintro pins z τ G x y v u W I rx ry ⟨s, rfl, th, q⟩
  obtain ⟨t, rfl⟩ : ∃ t, u = Value.str s t := ry
  cases th with
  | str z' h => exact op_eq pins z τ G (V.str z') (V.str s) v _ W I rx ⟨t, rfl⟩ ⟨rfl, q⟩
  | int i => exact op_eq pins z τ G (V.int i) (V.str s) v _ W I rx ⟨t, rfl⟩ ⟨rfl, q⟩
  | bl i => exact op_eq pins z τ G (V.bl i) (V.str s) v _ W I rx ⟨t, rfl⟩ ⟨rfl, q⟩
  | non => exact op_eq pins z τ G V.non (V.str s) v _ W I rx ⟨t, rfl⟩ ⟨rfl, q⟩
  | @lst a xs h =>
    obtain rfl : v = Value.ref a := rx
    rw [decide_eq_false fun q => nomatch q] at q
    obtain ⟨its, rv, pl, hz⟩ := I.list (SqL.of h)
    exact SeqAt.RcAt.list_str s t pl.isList (by omega) _ _ _ _ ⟨.bl false, G, I, rfl, q⟩
  | @tup a xs h =>
    obtain rfl : v = Value.ref a := rx
    rw [decide_eq_false fun q => nomatch q] at q
    obtain ⟨its, rv, pl, hz⟩ := I.tuple (SqT.of h)
    exact SeqAt.RcAt.tuple_str s t pl (by omega) _ _ _ _ ⟨.bl false, G, I, rfl, q⟩
  | @dct a kvs h =>
    obtain rfl : v = Value.ref a := rx
    rw [decide_eq_false fun q => nomatch q] at q
    obtain ⟨_, _, vs, _, o, es, ep, h1, h2, h3, _⟩ := (show ObjOk X.prog X.w G z.heap a (.dK kvs) from I.hok a _ h)
    obtain ⟨oc, od, dt, sl⟩ := o
    have z1 := h2.1
    dsimp only at z1 h3
    subst z1 h3
    exact dict_txt h1 (by omega) ⟨.bl false, G, I, rfl, q⟩
end EqE
/-- the words of the forms alone are keys -/
theorem forms_only {K : PySem.W.Frag} {a : Addr} {es : Array DictEntry} {n : Nat} (h : K.lookup a = some ⟨.type "dict", none, .dict es n, #[]⟩) (k : (es.toList.all fun e => match e.key with | .str s _ => words7.any fun y => s == y | _ => false) = true) (z : Str) (nz : z ∉ words7) : PySem.W.nsIn K a z = some none := by
  have all := List.all_eq_true.mp k
  have ks : ∀ e ∈ es.toList, ∃ s t, e.key = .str s t ∧ s ∈ words7 := fun e he => by
    have := all e he
    cases ek : e.key with
    | str s t =>
      rw [ek] at this
      obtain ⟨y, hy, e2⟩ := List.any_eq_true.mp this
      exact ⟨s, t, rfl, by rw [eq_of_beq e2]; exact hy⟩
    | _ => rw [ek] at this; exact nomatch this
  unfold PySem.W.nsIn
  rw [h]
  dsimp only
  have f1 : es.toList.find? (fun e => e.key.isStr z) = none := by
    rw [List.find?_eq_none]
    intro e he q
    obtain ⟨s, t, ek, hs⟩ := ks e he
    rw [ek] at q
    have q2 : (s == z) = true := q
    exact nz (by rw [← eq_of_beq q2]; exact hs)
  rw [f1]
  have f2 : es.toList.any (fun e => e.refKey) = false := by
    rw [List.any_eq_false]
    intro e he q
    obtain ⟨s, t, ek, hs⟩ := ks e he
    unfold DictEntry.refKey at q
    rw [ek] at q
    exact Bool.false_ne_true q
  dsimp only
  rw [f2]
  rfl
def spWholeA : Sp := fun vs H Q _ => ∃ v : V, vs = [v] ∧ Thg H v ∧ Q (.bl (match v with | .int _ => true | _ => false)) H
def spFitsA (T1 : Addr) : Sp := fun vs H Q _ => ∃ (v : V) (x : Str), vs = [v, .str x] ∧ Thg H v ∧ x ∈ sorts6 ∧ GxR.TabG H T1 ∧ ∀ H', GxR.Tabbed T1 H H' → Q (.bl (fitB v x)) H'
/-- the parts of an entry -/
def IsE (xs : List V) : Prop := ∃ e : Ent, e.Fine ∧ xs = e.vals
/-- what is an entry, and what is none -/
def spIsEntryA (T1 T2 : Addr) : Sp := fun vs H Q _ => ∃ v : V, vs = [v] ∧ GxR.TabG H T1 ∧ GxR.TabG H T2 ∧
  ((Thg H v ∧ (∀ a xs, v = .ref a → H a ≠ some (.tup xs)) ∧ ∀ H', TB2 T1 T2 H H' → Q (.bl false) H') ∨
   ∃ (a : Addr) (xs : List V), v = .ref a ∧ H a = some (.tup xs) ∧ xs.length ≤ 1000 ∧ (∀ x ∈ xs, Thg H x) ∧ (IsE xs → ∀ H', TB2 T1 T2 H H' → Q (.bl true) H') ∧ (¬ IsE xs → ∀ H', TB2 T1 T2 H H' → Q (.bl false) H'))
theorem vals_len (e : Ent) : e.vals.length = e.sorts.length + 1 := by cases e <;> rfl
theorem sorts_word {e f : Ent} (h : e.word = f.word) : e.sorts = f.sorts := by
  cases e <;> cases f <;> first
    | rfl
    | (exact absurd h (wno (by decide +kernel)))
theorem word_of {z : Str} (h : z ∈ words7) : ∃ e : Ent, e.word = z := by
  simp only [words7, List.mem_cons, List.not_mem_nil, or_false] at h
  rcases h with rfl | rfl | rfl | rfl | rfl | rfl | rfl
  · exact ⟨.come "" 0 "" "" 0 0, rfl⟩
  · exact ⟨.go "" 0 "" "" 0, rfl⟩
  · exact ⟨.move "" 0 "" "" "" 0, rfl⟩
  · exact ⟨.some_ "" 0 "" "" "", rfl⟩
  · exact ⟨.swap "" 0 "" "", rfl⟩
  · exact ⟨.count "" 0 "" "" 0 "", rfl⟩
  · exact ⟨.look "" 0 "" "", rfl⟩
theorem fit_str {v : V} {x : Str} (h : fitB v x = true) (hx : x = "name" ∨ x = "end") : ∃ s, v = .str s := by
  rcases hx with rfl | rfl
  · unfold fitB at h
    rw [if_pos rfl] at h
    cases v with
    | str s => exact ⟨s, rfl⟩
    | _ => exact nomatch h
  · unfold fitB at h
    rw [if_neg ken, if_pos rfl] at h
    cases v with
    | str s => exact ⟨s, rfl⟩
    | int i => simp [nmV] at h
    | bl i => simp [nmV] at h
    | non => simp [nmV] at h
    | ref i => simp [nmV] at h
    | _ => simp [nmV] at h
theorem fit_int {v : V} {x : Str} (h : fitB v x = true) (hx : x ∈ sorts4) : ∃ i, v = .int i := by
  have n1 : x ≠ "name" ∧ x ≠ "end" := by
    simp only [sorts4, List.mem_cons, List.not_mem_nil, or_false] at hx
    rcases hx with rfl | rfl | rfl | rfl
    · exact ⟨kmn, kme⟩
    · exact ⟨kyn, kye⟩
    · exact ⟨kcn, kce⟩
    · exact ⟨kpn, kpe⟩
  unfold fitB at h
  rw [if_neg n1.1, if_neg n1.2] at h
  cases v with
  | int i => exact ⟨i, rfl⟩
  | _ => exact nomatch h
theorem fit_part {H : Hp} {v : V} {x : Str} (t : Thg H v) (h : fitB v x = true) (hx : x ∈ sorts6) : Part v := by
  have : (∃ s, v = .str s) ∨ ∃ i, v = .int i := by
    simp only [sorts6, List.mem_cons, List.not_mem_nil, or_false] at hx
    rcases hx with rfl | rfl | rfl | rfl | rfl | rfl
    · exact .inl (fit_str h (.inl rfl))
    · exact .inl (fit_str h (.inr rfl))
    · exact .inr (fit_int h (by simp [sorts4]))
    · exact .inr (fit_int h (by simp [sorts4]))
    · exact .inr (fit_int h (by simp [sorts4]))
    · exact .inr (fit_int h (by simp [sorts4]))
  rcases this with ⟨s, rfl⟩ | ⟨i, rfl⟩
  · cases t with
    | str _ h => exact .inl ⟨s, rfl, h⟩
  · exact .inr ⟨i, rfl⟩
/-- parts that fit are those of an entry -/
theorem ent_of {f : Ent} {ps : List V} (l : ps.length = f.sorts.length) (h : ∀ (i : Nat) (v : V) (x : Str), ps[i]? = some v → f.sorts[i]? = some x → fitB v x = true) : ∃ e : Ent, e.word = f.word ∧ e.parts = ps := by
  have s : ∀ (i : Nat) (x : Str), f.sorts[i]? = some x → x = "name" ∨ x = "end" → ∃ s, ps[i]? = some (.str s) := fun i x hx k => by
    have lt : i < ps.length := by rw [l]; exact (List.getElem?_eq_some_iff.mp hx).1
    obtain ⟨s, e⟩ := fit_str (h i _ x (List.getElem?_eq_getElem lt) hx) k
    exact ⟨s, by rw [List.getElem?_eq_getElem lt, e]⟩
  have n : ∀ (i : Nat) (x : Str), f.sorts[i]? = some x → x ∈ sorts4 → ∃ j, ps[i]? = some (.int j) := fun i x hx k => by
    have lt : i < ps.length := by rw [l]; exact (List.getElem?_eq_some_iff.mp hx).1
    obtain ⟨s, e⟩ := fit_int (h i _ x (List.getElem?_eq_getElem lt) hx) k
    exact ⟨s, by rw [List.getElem?_eq_getElem lt, e]⟩
  have m4 : ("moment" : Str) ∈ sorts4 ∧ ("many" : Str) ∈ sorts4 ∧ ("counted" : Str) ∈ sorts4 ∧ ("price" : Str) ∈ sorts4 := by simp [sorts4]
  cases f with
  | come =>
    match ps, l with
    | [p0, p1, p2, p3, p4, p5], _ =>
      obtain ⟨a0, e0⟩ := s 0 _ rfl (.inl rfl); obtain ⟨a1, e1⟩ := n 1 _ rfl m4.1; obtain ⟨a2, e2⟩ := s 2 _ rfl (.inl rfl); obtain ⟨a3, e3⟩ := s 3 _ rfl (.inl rfl); obtain ⟨a4, e4⟩ := n 4 _ rfl m4.2.1; obtain ⟨a5, e5⟩ := n 5 _ rfl m4.2.2.2
      cases e0; cases e1; cases e2; cases e3; cases e4; cases e5
      exact ⟨.come a0 a1 a2 a3 a4 a5, rfl, rfl⟩
  | go =>
    match ps, l with
    | [p0, p1, p2, p3, p4], _ =>
      obtain ⟨a0, e0⟩ := s 0 _ rfl (.inl rfl); obtain ⟨a1, e1⟩ := n 1 _ rfl m4.1; obtain ⟨a2, e2⟩ := s 2 _ rfl (.inl rfl); obtain ⟨a3, e3⟩ := s 3 _ rfl (.inl rfl); obtain ⟨a4, e4⟩ := n 4 _ rfl m4.2.1
      cases e0; cases e1; cases e2; cases e3; cases e4
      exact ⟨.go a0 a1 a2 a3 a4, rfl, rfl⟩
  | move =>
    match ps, l with
    | [p0, p1, p2, p3, p4, p5], _ =>
      obtain ⟨a0, e0⟩ := s 0 _ rfl (.inl rfl); obtain ⟨a1, e1⟩ := n 1 _ rfl m4.1; obtain ⟨a2, e2⟩ := s 2 _ rfl (.inl rfl); obtain ⟨a3, e3⟩ := s 3 _ rfl (.inl rfl); obtain ⟨a4, e4⟩ := s 4 _ rfl (.inl rfl); obtain ⟨a5, e5⟩ := n 5 _ rfl m4.2.1
      cases e0; cases e1; cases e2; cases e3; cases e4; cases e5
      exact ⟨.move a0 a1 a2 a3 a4 a5, rfl, rfl⟩
  | some_ =>
    match ps, l with
    | [p0, p1, p2, p3, p4], _ =>
      obtain ⟨a0, e0⟩ := s 0 _ rfl (.inl rfl); obtain ⟨a1, e1⟩ := n 1 _ rfl m4.1; obtain ⟨a2, e2⟩ := s 2 _ rfl (.inl rfl); obtain ⟨a3, e3⟩ := s 3 _ rfl (.inl rfl); obtain ⟨a4, e4⟩ := s 4 _ rfl (.inr rfl)
      cases e0; cases e1; cases e2; cases e3; cases e4
      exact ⟨.some_ a0 a1 a2 a3 a4, rfl, rfl⟩
  | swap =>
    match ps, l with
    | [p0, p1, p2, p3], _ =>
      obtain ⟨a0, e0⟩ := s 0 _ rfl (.inl rfl); obtain ⟨a1, e1⟩ := n 1 _ rfl m4.1; obtain ⟨a2, e2⟩ := s 2 _ rfl (.inl rfl); obtain ⟨a3, e3⟩ := s 3 _ rfl (.inl rfl)
      cases e0; cases e1; cases e2; cases e3
      exact ⟨.swap a0 a1 a2 a3, rfl, rfl⟩
  | count =>
    match ps, l with
    | [p0, p1, p2, p3, p4, p5], _ =>
      obtain ⟨a0, e0⟩ := s 0 _ rfl (.inl rfl); obtain ⟨a1, e1⟩ := n 1 _ rfl m4.1; obtain ⟨a2, e2⟩ := s 2 _ rfl (.inl rfl); obtain ⟨a3, e3⟩ := s 3 _ rfl (.inl rfl); obtain ⟨a4, e4⟩ := n 4 _ rfl m4.2.2.1; obtain ⟨a5, e5⟩ := s 5 _ rfl (.inl rfl)
      cases e0; cases e1; cases e2; cases e3; cases e4; cases e5
      exact ⟨.count a0 a1 a2 a3 a4 a5, rfl, rfl⟩
  | look =>
    match ps, l with
    | [p0, p1, p2, p3], _ =>
      obtain ⟨a0, e0⟩ := s 0 _ rfl (.inl rfl); obtain ⟨a1, e1⟩ := n 1 _ rfl m4.1; obtain ⟨a2, e2⟩ := s 2 _ rfl (.inl rfl); obtain ⟨a3, e3⟩ := s 3 _ rfl (.inl rfl)
      cases e0; cases e1; cases e2; cases e3
      exact ⟨.look a0 a1 a2 a3, rfl, rfl⟩
theorem once_len_nd {e : Ent} (h : ¬ e.places.Nodup) : (once e.places).length ≠ e.places.length := by
  have two : ∀ o t : Str, ¬ [o, t].Nodup → (once [o, t]).length ≠ 2 := fun o t h => by
    have e : o = t := Classical.byContradiction fun z => h (List.nodup_cons.mpr ⟨fun q => z (List.mem_singleton.mp q), nd1 _⟩)
    subst e
    have : once [o, o] = [o] := by
      show (if ([o] : List Str).contains o = true then [o] else [o] ++ [o]) = [o]
      rw [if_pos (by simp)]
    rw [this]
    exact fun z => by cases z
  cases e with
  | some_ n m g o t =>
    by_cases z : t = ""
    · rw [show Ent.places (.some_ n m g o t) = [o] from if_pos z] at h
      exact absurd (nd1 _) h
    · rw [show Ent.places (.some_ n m g o t) = [o, t] from if_neg z] at h ⊢
      exact two o t h
  | move n m g o t k => exact two o t h
  | swap n m o t => exact two o t h
  | come => exact absurd (nd1 _) h
  | go => exact absurd (nd1 _) h
  | count => exact absurd (nd1 _) h
  | look => exact absurd (nd1 _) h
section
variable {P : Program} {w : World} {K : PySem.W.Frag} {mg : Str → Option Value} {base : Heap}
theorem ok_wholeA {f : Addr} {fd : FuncData} (F : Fun K "is_whole" "is_whole" sWhole f fd) (mi : mg "isinstance" = none) (m1 : mg "int" = none) (m2 : mg "bool" = none) : FnOk P w K mg base CX0 1 f fd ["thing"] spWholeA := by
  refine F.ok scWhole (fun vs H Q E h => ?_) (fun cdv A outer s H vs Q E hr h => ?_)
  · obtain ⟨v, rfl, _⟩ := h
    rfl
  · obtain ⟨v, rfl, pt, q⟩ := h
    refine ⟨_, pss_one (ps_ret (pe_and (pe_callB call_isi (by rfl) mi (by decide +kernel) (pa_cons (pv 0) (pa_cons (pe_bltn (v := .ty "int") (u := .type "int") (by rfl) m1 (by decide +kernel) rfl) pa_nil)))
      (pe_one (pe_not (pe_callB call_isi (by rfl) mi (by decide +kernel) (pa_cons (pv 0) (pa_cons (pe_bltn (v := .ty "bool") (u := .type "bool") (by rfl) m2 (by decide +kernel) rfl) pa_nil))))))), ?_⟩
    cases pt with
    | str z h => exact ⟨_, rfl, _, _, _, _, false, rfl, .ty "int", .base (.str z), kit_ty (by decide +kernel), _, rfl, iteF q⟩
    | int i => exact ⟨_, rfl, _, _, _, _, true, rfl, .ty "int", .base (.int i), kit_ty (by decide +kernel), _, rfl, iteT ⟨_, rfl, _, _, _, _, false, rfl, .ty "bool", .base (.int i), kit_ty (by decide +kernel), _, rfl, q⟩⟩
    | bl b => exact ⟨_, rfl, _, _, _, _, true, rfl, .ty "int", .base (.bl b), kit_ty (by decide +kernel), _, rfl, iteT ⟨_, rfl, _, _, _, _, true, rfl, .ty "bool", .base (.bl b), kit_ty (by decide +kernel), _, rfl, q⟩⟩
    | non => exact ⟨_, rfl, _, _, _, _, false, rfl, .ty "int", .base .non, kit_ty (by decide +kernel), _, rfl, iteF q⟩
    | lst h => exact ⟨_, rfl, _, _, _, _, false, rfl, .ty "int", .base (.lst h), kit_ty (by decide +kernel), _, rfl, iteF q⟩
    | tup h => exact ⟨_, rfl, _, _, _, _, false, rfl, .ty "int", .base (.tup h), kit_ty (by decide +kernel), _, rfl, iteF q⟩
    | dct h => exact ⟨_, rfl, _, _, _, _, false, rfl, .ty "int", .base (.dK h), kit_ty (by decide +kernel), _, rfl, iteF q⟩
theorem ok_fitsA {f fN fW aB T1 : Addr} {fd dN dW : FuncData} (F : Fun K "fits" "fits" sFits f fd) (N : DefT P w K mg base "is_name" 1 fN dN ["thing"] (spName K T1)) (W : DefT P w K mg base "is_whole" 1 fW dW ["thing"] spWholeA)
    (mB : mg "BOUNDS" = some (.ref aB)) (hB : ∀ x ∈ sorts4, ∃ aT, KDct K w aB x (.ref aT) ∧ ∀ H, SqT K H aT [.int (bnd x).1, .int (bnd x).2]) : FnOk P w K mg base CX0 2 f fd ["part", "sort"] (spFitsA T1) := by
  refine F.ok scFits (fun vs H Q E h => ?_) (fun cdv A outer s H vs Q E hr h => ?_)
  · obtain ⟨v, x, rfl, _⟩ := h
    rfl
  · obtain ⟨v, x, rfl, pt, hx, tg, q⟩ := h
    have nd := scFits.nd
    have hu64 := hr.units
    refine ⟨_, pss_cons (ps_if (pt_cmpR op_eq (pv 1) pe_str (nomark _)) (pss_one (ps_ret (pe_call N.ok hr (by rfl) N.g N.kp N.b .nil pass0 (pa_cons (pv 0) pa_nil)))) pss_nil)
      (pss_cons (ps_if (pt_cmpR op_eq (pv 1) pe_str (nomark _)) (pss_one (ps_ret (pe_or (pe_cmpR (EqE.op_eqE hu64) (pv 0) pe_str (nomark _)) (pe_one (pe_call N.ok hr (by rfl) N.g N.kp N.b .nil pass0 (pa_cons (pv 0) pa_nil)))))) pss_nil)
      (pss_cons (ps_asg (pe_ix ix_kdict (pe_glob (v := .ref aB) rfl mB rfl) (pv 1) (fun _ _ => rfl)) (pg_tup (by rfl) (pgs_cons (pg_name (i := 2) nd rfl (Or.inl rfl)) (pgs_cons (pg_name (i := 3) nd rfl (Or.inl rfl)) pgs_nil))))
      (pss_one (ps_ret (pe_and (pe_call W.ok hr (by rfl) W.g W.kp W.b .nil pass0 (pa_cons (pv 0) pa_nil)) (pe_one (pe_chain op_le op_le (pv 2) (pv 0) (pv 3)))))))), ?_⟩
    have same0 : GxR.Tabbed T1 H H := ⟨tg, fun _ _ => rfl⟩
    -- is_name of the part
    have nm : ∀ (Q1 : VK), (∀ H2, GxR.Tabbed T1 H H2 → Q1 (.bl (nmV v)) H2) → spName K T1 ([v] ++ []) H Q1 E0 := fun Q1 h1 => by
      obtain ⟨n, ty, m, st, _⟩ := pt.ty (K := K)
      by_cases z : n = "str"
      · obtain ⟨s, rfl⟩ := st.mp z
        cases pt with
        | str _ lz => exact ⟨_, rfl, tg, .inl ⟨s, rfl, small_sz lz, h1⟩⟩
      · have e : nmV v = false := by
          cases v with
          | str s => exact absurd (st.mpr ⟨s, rfl⟩) z
          | _ => rfl
        rw [e] at h1
        exact ⟨_, rfl, tg, .inr ⟨n, ty, by rw [kit_str m, decide_eq_false z], h1 H same0⟩⟩
    refine ⟨_, rfl, rfl, _, rfl, ite2 (fun e => ?_) (fun e => ?_)⟩
    · have e' : x = "name" := V.str.inj (of_decide_eq_true e)
      refine ⟨_, rfl, nm _ fun H2 tb => ?_⟩
      have z := q H2 tb
      unfold fitB at z
      rw [if_pos e'] at z
      exact z
    · have e1 : ¬ x = "name" := fun h => e (decide_eq_true (congrArg V.str h))
      refine ⟨_, rfl, rfl, _, rfl, ite2 (fun e => ?_) (fun e => ?_)⟩
      · have e' : x = "end" := V.str.inj (of_decide_eq_true e)
        have fe : fitB v x = (decide (v = .str "") || nmV v) := by
          unfold fitB
          rw [if_neg e1, if_pos e']
        rw [fe] at q
        refine ⟨_, rfl, _, rfl, pt, decide (v = .str ""), rfl, ?_⟩
        cases hd : decide (v = V.str "") with
        | true =>
          rw [hd] at q
          exact iteT (q H same0)
        | false =>
          rw [hd] at q
          exact iteF ⟨_, rfl, nm _ fun H2 tb => q H2 tb⟩
      · have e2 : ¬ x = "end" := fun h => e (decide_eq_true (congrArg V.str h))
        have x4 : x ∈ sorts4 := by
          simp only [sorts6, sorts4, List.mem_cons, List.not_mem_nil, or_false] at hx ⊢
          rcases hx with h | h | h | h | h | h
          · exact absurd h e1
          · exact absurd h e2
          · exact .inl h
          · exact .inr (.inl h)
          · exact .inr (.inr (.inl h))
          · exact .inr (.inr (.inr h))
        obtain ⟨aT, kd, sq⟩ := hB x x4
        have fe : fitB v x = inB x v := by
          unfold fitB
          rw [if_neg e1, if_neg e2]
        rw [fe] at q
        have q0 := q H same0
        refine ⟨_, rfl, aB, x, _, rfl, rfl, kd, aT, _, rfl, sq H, rfl, _, _, rfl, _, _, rfl, rfl, _, rfl, v, rfl, pt, ?_⟩
        cases v with
        | int i =>
          refine ⟨_, rfl, iteT ⟨_, rfl, _, rfl, (bnd x).1, i, rfl, rfl, _, rfl, ite2 (fun a1 => ?_) (fun a1 => ?_)⟩⟩
          · refine ⟨_, rfl, i, (bnd x).2, rfl, rfl, ?_⟩
            have z : inB x (.int i) = decide (i ≤ (bnd x).2) := by
              show (decide ((bnd x).1 ≤ i) && decide (i ≤ (bnd x).2)) = _
              rw [a1, Bool.true_and]
            rw [z] at q0
            exact q0
          · have z : inB x (.int i) = false := by
              show (decide ((bnd x).1 ≤ i) && decide (i ≤ (bnd x).2)) = _
              rw [Bool.eq_false_iff.mpr a1, Bool.false_and]
            rw [z] at q0
            exact q0
        | _ => exact ⟨_, rfl, iteF q0⟩
theorem ok_isEntryA {f cE T1 T2 aF fF fP : Addr} {dF dP : FuncData} {oc kV doc pm ct : Value} {od an : Option Addr} {osl : Array (Option Value)} {es : Array DictEntry} {nE : Nat}
    (lk : K.lookup f = some ⟨oc, od, .func (PySem.W.fnOf "is_entry" "is_entry" (defArgs sIsEntry) (defBody sIsEntry) (defScope sIsEntry) .none kV doc pm an (.ref cE) ct), osl⟩) (cdI : PySem.W.codeIn K (.ref cE) "is_entry" = true)
    (TB : GxR.TabB base mg cE T2) (ne : T1 ≠ T2) (FI : DefT P w K mg base "fits" 2 fF dF ["part", "sort"] (spFitsA T1)) (PO : DefT P w K mg base "places_of" 1 fP dP ["entry"] spPlaces)
    (mi : mg "isinstance" = none) (mt : mg "tuple" = none) (ml : mg "len" = none) (mst : mg "str" = none) (ma : mg "all" = none) (mz : mg "zip" = none) (ms : mg "set" = none) (mF : mg "FORMS" = some (.ref aF)) (D : KDict K w aF es nE)
    (hF : ∀ e : Ent, ∃ aS, KDct K w aF e.word (.ref aS) ∧ ∀ H, SqT K H aS (e.sorts.map V.str)) (hO : ∀ z : Str, z ∉ words7 → PySem.W.nsIn K aF z = some none) :
    FnOk P w K mg base CX0 4 f (PySem.W.fnOf "is_entry" "is_entry" (defArgs sIsEntry) (defBody sIsEntry) (defScope sIsEntry) .none kV doc pm an (.ref cE) ct) ["thing"] (spIsEntryA T1 T2) := by
  refine fn_of lk cdI scIs (fun vs H Q E h => ?_) (fun A outer s H vs Q E hr h => ?_)
  · obtain ⟨v, rfl, _⟩ := h
    rfl
  · obtain ⟨v, rfl, t1, t2, h⟩ := h
    have nd := scIs.nd
    have hr1 : Room 1 _ := hr.mono (by decide)
    refine ⟨_, pss_cons (ps_if (PW.pt (pw_or (pt_not (pt_val (pe_callB call_isi (by rfl) mi (by decide +kernel) (pa_cons (pv 0) (pa_cons (pe_bltn (v := .ty "tuple") (u := .type "tuple") (by rfl) mt (by decide +kernel) rfl) pa_nil)))))
          (pw_or1 (pt_cmpR op_eq (pe_callB call_len_seq (by rfl) ml PySem.boot_len (pa_cons (pv 0) pa_nil)) pe_int (nomark _))))) (pss_one (ps_ret pe_bl)) pss_nil)
      (pss_cons (ps_if (PW.pt (pw_or (pt_not (pt_val (pe_callB call_isi (by rfl) mi (by decide +kernel) (pa_cons (pe_ix ix_tup (pv 0) pe_int (fun _ _ => rfl)) (pa_cons (pe_bltn (v := .ty "str") (u := .type "str") (by rfl) mst (by decide +kernel) rfl) pa_nil)))))
          (pw_or1 (pt_cmpR (op_notIn_kd D) (pe_ix ix_tup (pv 0) pe_int (fun _ _ => rfl)) (pe_glob (v := .ref aF) rfl mF rfl) (by rfl))))) (pss_one (ps_ret pe_bl)) pss_nil)
      (pss_cons (ps_set (i := 1) nd rfl (Or.inl rfl) (pe_ix ix_kdict (pe_glob (v := .ref aF) rfl mF rfl) (pe_ix ix_tup (pv 0) pe_int (fun _ _ => rfl)) (fun _ _ => rfl)))
      (pss_cons (ps_if (pt_cmpR op_ne (pe_callB call_len_seq (by rfl) ml PySem.boot_len (pa_cons (pv 0) pa_nil)) (pe_op op_add (pe_callB call_len_seq (by rfl) ml PySem.boot_len (pa_cons (pv 1) pa_nil)) pe_int) (nomark _)) (pss_one (ps_ret pe_bl)) pss_nil)
      (pss_cons (ps_if (pt_not (pt_val (pe_allG (T := T2) (c := cE) (k := 2) (own := [("part", 3), ("sort", 4)]) (g := gTup K 2 (gCons (gName 3) (gCons (gName 4) gNil))) (tt := tYes) (te := tCall (spFitsA T1) [] E0 (tCons (tVar 3) (tCons (tVar 4) tNil)))
          hr (by rfl) ma rfl nd TB rfl ⟨blkOk_by (N := isN) (sc := defScope sIsEntry) (by decide +kernel), rfl, by decide +kernel, rfl⟩
          (RZ.pi_zipA (by rfl) mz (pa_cons (pe_slice sl_tup (pv 0) (po_some pe_int) po_none) (pa_cons (pv 1) pa_nil)))
          (fun _ _ _ _ _ _ => pg_tup (by rfl) (pgs_cons (pg_name (i := 3) nd rfl (Or.inl rfl)) (pgs_cons (pg_name (i := 4) nd rfl (Or.inl rfl)) pgs_nil)))
          (fun _ _ _ _ _ _ _ => pts_nil) (fun _ _ _ _ _ _ hr' => pe_call FI.ok hr' (by rfl) FI.g FI.kp FI.b .nil pass0 (pa_cons (pv 3) (pa_cons (pv 4) pa_nil)))))) (pss_one (ps_ret pe_bl)) pss_nil)
      (pss_cons (ps_set (i := 2) nd rfl (Or.inl rfl) (pe_call PO.ok hr1 (by rfl) PO.g PO.kp PO.b .nil pass0 (pa_cons (pv 0) pa_nil)))
      (pss_one (ps_ret (pe_cmpR op_eq (pe_lenSetX rfl (by rfl) ml (by rfl) ms (pv 2)) (pe_callB call_len_seq (by rfl) ml PySem.boot_len (pa_cons (pv 2) pa_nil)) (nomark _))))))))), ?_⟩
    have tb0 : TB2 T1 T2 H H := TB2.same t1 t2 fun _ _ e => e
    rcases h with ⟨th, nt, q⟩ | ⟨a, xs, rfl, ha, lx, hT, qT, qF⟩
    · obtain ⟨n, ty, m, _, tt⟩ := th.ty (K := K)
      have nn : n ≠ "tuple" := fun z => by
        obtain ⟨a, xs, e, h2⟩ := tt.mp z
        exact nt a xs e h2
      exact ⟨_, rfl, _, _, _, _, false, rfl, .ty "tuple", ty, kit_ty (by rw [kit_tup m, decide_eq_false nn]), _, rfl, iteT (q H tb0)⟩
    -- a tuple
    refine ⟨_, rfl, _, _, _, _, true, rfl, .ty "tuple", .base (.tup ha), kit_ty (by decide +kernel), _, rfl, iteF ?_⟩
    match xs, ha, lx, hT, qT, qF with
    | [], ha, lx, hT, qT, qF =>
      refine ⟨_, rfl, a, _, rfl, .inr (SqT.of ha), rfl, true, rfl, iteT (qF ?_ H tb0)⟩
      rintro ⟨e, _, h⟩
      exact nomatch h
    | x0 :: ps, ha, lx, hT, qT, qF =>
    refine ⟨_, rfl, a, _, rfl, .inr (SqT.of ha), rfl, false, congrArg V.bl (decide_eq_false fun z => ?_), iteF ?_⟩
    · have z' : (((x0 :: ps).length : Nat) : Int) = 0 := V.int.inj z
      rw [List.length_cons] at z'
      omega
    have at0x : atI (x0 :: ps) 0 = some x0 := atI_nat (j := 0) rfl
    obtain ⟨n0, ty0, m0, st0, _⟩ := (hT x0 List.mem_cons_self).ty (K := K)
    by_cases zs : n0 = "str"
    rotate_left
    · refine ⟨_, rfl, a, _, 0, _, rfl, rfl, SqT.of ha, at0x, _, _, _, _, false, rfl, .ty "str", ty0, kit_ty (by rw [kit_str m0, decide_eq_false zs]), _, rfl, iteT (qF ?_ H tb0)⟩
      rintro ⟨e, _, h⟩
      exact zs (st0.mpr ⟨e.word, (List.cons.inj h).1⟩)
    obtain ⟨z, rfl⟩ := st0.mp zs
    refine ⟨_, rfl, a, _, 0, _, rfl, rfl, SqT.of ha, at0x, _, _, _, _, true, rfl, .ty "str", ty0, kit_ty (by rw [kit_str m0, decide_eq_true zs]), _, rfl, iteF ?_⟩
    by_cases zw : z ∈ words7
    rotate_left
    · refine ⟨_, rfl, a, _, 0, _, rfl, rfl, SqT.of ha, at0x, z, none, rfl, rfl, hO z zw, _, rfl, iteT (qF ?_ H tb0)⟩
      rintro ⟨e, _, h⟩
      have : z = e.word := V.str.inj (List.cons.inj h).1
      exact zw (this ▸ e.word_in)
    obtain ⟨f0, rfl⟩ := word_of zw
    obtain ⟨aS, kd, sq⟩ := hF f0
    obtain ⟨es', n', u, hl, hlit, hns, ru⟩ := id kd
    refine ⟨_, rfl, a, _, 0, _, rfl, rfl, SqT.of ha, at0x, f0.word, some u, rfl, rfl, hns, _, rfl, iteF ?_⟩
    refine ⟨_, rfl, a, _, 0, _, rfl, rfl, SqT.of ha, at0x, aF, f0.word, _, rfl, rfl, kd, ?_⟩
    by_cases ll : ps.length = f0.sorts.length
    rotate_left
    · refine ⟨_, rfl, a, _, rfl, .inr (SqT.of ha), _, rfl, aS, _, rfl, .inr (sq H), _, 1, rfl, rfl, rfl, true, ?_, iteT (qF ?_ H tb0)⟩
      · refine congrArg V.bl ?_
        have l1 : ¬ ((((V.str f0.word) :: ps).length : Nat) : Int) = ((f0.sorts.map V.str).length : Int) + 1 := by
          rw [List.length_cons, List.length_map]
          omega
        rw [decide_eq_false fun q => l1 (V.int.inj q)]
        rfl
      · rintro ⟨e, _, h⟩
        have w0 : e.word = f0.word := V.str.inj (List.cons.inj h).1.symm
        have := congrArg List.length h
        rw [vals_len, sorts_word w0, List.length_cons] at this
        omega
    refine ⟨_, rfl, a, _, rfl, .inr (SqT.of ha), _, rfl, aS, _, rfl, .inr (sq H), _, 1, rfl, rfl, rfl, false, ?_, iteF ?_⟩
    · refine congrArg V.bl ?_
      have l1 : ((((V.str f0.word) :: ps).length : Nat) : Int) = ((f0.sorts.map V.str).length : Int) + 1 := by
        rw [List.length_cons, List.length_map, ll]
        rfl
      rw [l1, decide_eq_true rfl]
      rfl
    -- all fit
    have cut : cutV ((V.str f0.word) :: ps) (some 1) none = ps := by
      have h : cutV ((V.str f0.word) :: ps) (some ((1 : Nat) : Int)) none = ps := by
        unfold cutV
        rw [HT.sIx_nat, HT.sIx_none, Nat.min_eq_left (by rw [List.length_cons]; omega)]
        show ps.take (ps.length + 1 - 1) = ps
        rw [Nat.add_sub_cancel]
        exact List.take_length
      exact h
    refine ⟨_, rfl, 1, rfl, a, _, rfl, SqT.of ha, ?_, fun pp npp => ?_⟩
    · rintro ⟨z, _⟩
      rw [show HT.sIx ((V.str f0.word) :: ps).length 0 (some 1) = min 1 ((V.str f0.word) :: ps).length from HT.sIx_nat _ _ 1, List.length_cons] at z
      omega
    rw [cut]
    have sp := @same_new _ _ (.tup ps) npp
    have hpp := @upd_same H pp (.tup ps)
    generalize upd H pp (.tup ps) = H1 at sp hpp ⊢
    refine ⟨_, rfl, pp, aS, ps, f0.sorts.map V.str, rfl, .inr ⟨SqT.of hpp, sq _, tabg_same sp t2, fun H2 tb2 => ?_⟩⟩
    have b0 : TB2 T1 T2 H H2 := (TB2.same t1 t2 sp).tr (.two ne (tabg_same sp t1) tb2)
    have b1 : TB2 T1 T2 H1 H2 := .two ne (tabg_same sp t1) tb2
    have hp2 : H2 pp = some (.tup ps) := b1.keep (tabg_same sp t1) (tabg_same sp t2) hpp (by intro ps z; cases z)
    refine ⟨fun i m H' => m = ps.length - i ∧ i ≤ ps.length ∧ H' pp = some (.tup ps) ∧ TB2 T1 T2 H H' ∧ ∀ (j : Nat) (v : V) (x : Str), j < i → ps[j]? = some v → f0.sorts[j]? = some x → fitB v x = true, ⟨_, rfl, Nat.zero_le _, hp2, b0, fun j v x hj => absurd hj (Nat.not_lt_zero _)⟩, ?_⟩
    rintro i m H3 ⟨rfl, hi, hp3, b3, hfit⟩
    by_cases lt : i < ps.length
    · refine .inr ⟨⟨ps, f0.sorts.map V.str, ps[i], .str (f0.sorts[i]'(by rw [← ll]; exact lt)), SqT.of hp3, sq _, List.getElem?_eq_getElem lt, ?_⟩, fun v H4 y => ?_⟩
      · rw [List.getElem?_map, List.getElem?_eq_getElem (by rw [← ll]; exact lt)]
        rfl
      · obtain ⟨TT, x', y', rfl, nT, rfl, f1, f2⟩ := y
        have g1 := f1 ps (SqT.of hp3)
        have g2 := f2 (f0.sorts.map V.str) (sq _)
        rw [List.getElem?_map] at g2
        obtain ⟨srt, hsrt, rfl⟩ := Option.map_eq_some_iff.mp g2
        have s4 := @same_new _ _ (.tup [x', V.str srt]) nT
        have b4 : TB2 T1 T2 H (upd H3 TT (.tup [x', V.str srt])) := b3.tr (.same b3.2.1 b3.2.2 s4)
        have hx' : Thg (upd H3 TT (.tup [x', V.str srt])) x' := (hT x' (List.mem_cons_of_mem _ (List.mem_of_getElem? g1))).on fun a' o' _ e' n' => b4.keep t1 t2 e' n'
        refine ⟨TT, _, rfl, SqT.of upd_same, rfl, _, _, rfl, _, _, rfl, rfl, rfl, yesT ?_⟩
        refine ⟨_, rfl, _, rfl, x', srt, rfl, hx', f0.sorts_in srt (List.mem_of_getElem? hsrt), b4.2.1, fun H5 tb5 => ?_⟩
        have b5 : TB2 T1 T2 H H5 := b4.tr (.one ne b4.2.2 tb5)
        have b45 : TB2 T1 T2 (upd H3 TT (.tup [x', V.str srt])) H5 := .one ne b4.2.2 tb5
        cases fit : fitB x' srt with
        | true =>
          refine ⟨true, rfl, iteT ⟨_, by omega, rfl, lt, b45.keep b4.2.1 b4.2.2 (s4 _ _ hp3) (by intro ps z; cases z), b5, fun j v x hj hv hx => ?_⟩⟩
          by_cases ej : j = i
          · subst ej
            rw [g1] at hv
            rw [hsrt] at hx
            rw [← Option.some.inj hv, ← Option.some.inj hx]
            exact fit
          · exact hfit j v x (by omega) hv hx
        | false =>
          refine ⟨false, rfl, iteF ⟨false, rfl, iteT (qF ?_ H5 b5)⟩⟩
          rintro ⟨e, fine, h⟩
          have w0 : e.word = f0.word := V.str.inj (List.cons.inj h).1.symm
          have hps : ps = e.parts := (List.cons.inj h).2
          rw [hps] at g1
          have := (fine.fit i x' srt g1 (by rw [sorts_word w0]; exact hsrt)).2
          rw [fit] at this
          exact nomatch this
    · have ei : i = ps.length := by omega
      subst ei
      obtain ⟨e, we, rfl⟩ := ent_of ll fun j v x hv hx => hfit j v x (List.getElem?_eq_some_iff.mp hv).1 hv hx
      have ev : e.vals = (V.str f0.word) :: e.parts := by
        rw [← we]
        rfl
      refine .inl ⟨⟨e.parts, f0.sorts.map V.str, SqT.of hp3, sq _, .inl (Nat.le_refl _)⟩, ?_⟩
      refine ⟨true, rfl, iteF ?_⟩
      -- unlike places
      rw [← ev] at ha qT qF
      have ha3 : H3 a = some (.tup e.vals) := b3.keep t1 t2 ha (by intro ps z; cases z)
      refine ⟨_, rfl, a, e, rfl, ha3, fun tp H4 s4 ht => ?_⟩
      have b4 := b3.tr (.same b3.2.1 b3.2.2 s4)
      refine ⟨_, rfl, tp, e.places, rfl, SqT.of ht, Nat.le_trans (places_le e) (by decide), _, rfl, tp, _, rfl, .inr (SqT.of ht), rfl, ?_⟩
      by_cases ndp : e.places.Nodup
      · rw [once_nodup ndp, List.length_map, decide_eq_true rfl]
        refine qT ⟨e, ⟨fun j v x hv hx => ?_, ndp⟩, rfl⟩ H4 b4
        have hx2 : f0.sorts[j]? = some x := by rw [← sorts_word we]; exact hx
        have ft := hfit j v x (List.getElem?_eq_some_iff.mp hv).1 hv hx2
        exact ⟨fit_part (hT v (List.mem_cons_of_mem _ (List.mem_of_getElem? hv))) ft (f0.sorts_in x (List.mem_of_getElem? hx2)), ft⟩
      · rw [List.length_map, decide_eq_false fun q => once_len_nd ndp (by have := V.int.inj q; omega)]
        refine qF ?_ H4 b4
        rintro ⟨e', fine, h⟩
        rw [vals_inj h] at ndp
        exact ndp fine.apart
end
/-- of entries the old promise holds -/
theorem isE_old {T1 T2 : Addr} {vs : List V} {H : Hp} {Q : VK} {E : XK} (h : spIsEntry T1 T2 vs H Q E) : spIsEntryA T1 T2 vs H Q E := by
  obtain ⟨a, e, rfl, ha, fine, t1, t2, q⟩ := h
  refine ⟨_, rfl, t1, t2, .inr ⟨a, e.vals, rfl, ha, ?_, fun x hx => ?_, fun _ => q, fun n => absurd ⟨e, fine, rfl⟩ n⟩⟩
  · cases e <;> exact Nat.le_of_ble_eq_true rfl
  · rcases List.mem_cons.mp hx with rfl | hx
    · exact .str _ ((by decide +kernel : ∀ w ∈ words7, w.length ≤ 1000) _ e.word_in)
    · obtain ⟨i, hi⟩ := List.mem_iff_getElem?.mp hx
      have lt := (List.getElem?_eq_some_iff.mp hi).1
      exact .of_part (fine.fit i x _ hi (List.getElem?_eq_getElem (by rw [← e.len_parts]; exact lt))).1
/-! ### names are texts -/
theorem name_ok {y : Str} (h : nameB y = true) : PyData.strOk y = true := by
  have all : y.cps.toList.all signB = true := by
    unfold nameB at h
    rw [Bool.and_eq_true] at h
    exact h.2
  have low : ∀ c ∈ abc.cps.toList, c < 0x110000 := by decide +kernel
  unfold PyData.strOk
  rw [← Array.all_toList, List.all_eq_true]
  intro c hc
  exact decide_eq_true (low c (of_decide_eq_true (List.all_eq_true.mp all c hc)))
/-! ### entries as data are told by themselves -/
def flatE : PyData → Bool
  | .int _ => true
  | .str _ => true
  | _ => false
theorem dV_flat {vs : List V} (h : ∀ v ∈ vs, (∃ i, v = .int i) ∨ ∃ s, v = .str s) : (vs.map dV).all flatE = true := by
  rw [List.all_eq_true]
  intro d hd
  obtain ⟨v, hv, rfl⟩ := List.mem_map.mp hd
  rcases h v hv with ⟨i, rfl⟩ | ⟨s, rfl⟩ <;> rfl
theorem vals_flat (e : Ent) : (e.vals.map dV).all flatE = true := by
  cases e <;> rfl
theorem dV_inj : ∀ (xs ys : List V), (xs.map dV).all flatE = true → (∀ v ∈ xs, (∃ i, v = .int i) ∨ ∃ s, v = .str s) → (∀ v ∈ ys, (∃ i, v = .int i) ∨ ∃ s, v = .str s) → xs.map dV = ys.map dV → xs = ys
  | [], [], _, _, _, _ => rfl
  | [], y :: ys, _, _, _, h => nomatch h
  | x :: xs, [], _, _, _, h => nomatch h
  | x :: xs, y :: ys, hf, hx, hy, h => by
    rw [List.map_cons, List.all_cons, Bool.and_eq_true] at hf
    rw [List.map_cons, List.map_cons] at h
    injection h with e1 e2
    have ih := dV_inj xs ys hf.2 (fun v hv => hx v (List.mem_cons_of_mem _ hv)) (fun v hv => hy v (List.mem_cons_of_mem _ hv)) e2
    have : x = y := by
      rcases hx x List.mem_cons_self with ⟨i, rfl⟩ | ⟨s, rfl⟩ <;> rcases hy y List.mem_cons_self with ⟨j, rfl⟩ | ⟨t, rfl⟩
      · exact congrArg _ (PyData.int.inj e1)
      · exact nomatch e1
      · exact nomatch e1
      · exact congrArg _ (PyData.str.inj e1)
    rw [this, ih]
theorem entD_inj {e f : Ent} (h : entD e = entD f) : e = f := by
  have h2 : e.vals.map dV = f.vals.map dV := PyData.tuple.inj h
  exact vals_inj (dV_inj _ _ (vals_flat e) (vals_sn e) (vals_sn f) h2)
theorem eqv_flat : ∀ xs ys : List PyData, xs.all flatE = true → ys.all flatE = true → (PyData.eqvAll xs ys = true ↔ xs = ys)
  | [], [], _, _ => ⟨fun _ => rfl, fun _ => rfl⟩
  | [], y :: ys, _, _ => ⟨fun h => by simp [PyData.eqvAll] at h, fun h => nomatch h⟩
  | x :: xs, [], _, _ => ⟨fun h => by simp [PyData.eqvAll] at h, fun h => nomatch h⟩
  | x :: xs, y :: ys, hx, hy => by
    rw [List.all_cons, Bool.and_eq_true] at hx hy
    have ih := eqv_flat xs ys hx.2 hy.2
    rw [PyData.eqvAll, Bool.and_eq_true, ih]
    have one : PyData.eqv x y = true ↔ x = y := by
      cases x with
      | int a =>
        cases y with
        | int b => exact ⟨fun h => by rw [show a = b from eq_of_beq h], fun h => by rw [h]; exact beq_self_eq_true b⟩
        | str b => exact ⟨fun h => (nomatch h), fun h => nomatch h⟩
        | _ => exact nomatch hy.1
      | str a =>
        cases y with
        | str b => exact ⟨fun h => by rw [show a = b from eq_of_beq h], fun h => by rw [h]; exact beq_self_eq_true b⟩
        | int b => exact ⟨fun h => (nomatch h), fun h => nomatch h⟩
        | _ => exact nomatch hy.1
      | _ => exact nomatch hx.1
    rw [one]
    exact ⟨fun ⟨a, b⟩ => by rw [a, b], fun h => by injection h with a b; exact ⟨a, b⟩⟩
theorem eqv_ents (e f : Ent) : PyData.eqv (entD e) (entD f) = true ↔ e = f := by
  have h : PyData.eqv (entD e) (entD f) = PyData.eqvAll (e.vals.map dV) (f.vals.map dV) := by rw [entD, entD, PyData.eqv]
  rw [h]
  exact ⟨fun q => entD_inj (congrArg PyData.tuple ((eqv_flat _ _ (vals_flat e) (vals_flat f)).mp q)), fun z => by rw [z]; exact (eqv_flat _ _ (vals_flat f) (vals_flat f)).mpr rfl⟩

/-! ### defs that may raise -/
structure DefX (P : Program) (w : World) (K : PySem.W.Frag) (mg : Str → Option Value) (base : Heap) (x : Str) (k : Nat) (f : Addr) (fd : FuncData) (ps : List Str) (sp : Sp) : Prop where
  ok : FnOk P w K mg base (L2.CX P w) k f fd ps sp
  g : mg x = some (.ref f)
  kp : PySem.W.keepIn K (.ref f) = true
  b : Binds K fd ps []
/-- an own class of errors over ValueError -/
structure Err (K : PySem.W.Frag) (mg : Str → Option Value) (x : Str) (C : Addr) : Prop where
  gC : mg x = some (.ref C)
  ex : PySem.W.excIn K C [.type "ValueError", .type "Exception", .type "BaseException", .type "object"] "ValueError.__new__" = true
  kp : PySem.W.keepIn K (.ref C) = true
  sb : PySem.W.subIn K (.ref C) (.type "BaseException") = some true
  ty : PySem.W.typeIn K (.ref C) = some (.type "type")
/-! ### what is no entry, entered -/
theorem FnOk.or {P : Program} {w : World} {K : PySem.W.Frag} {mg : Str → Option Value} {base : Heap} {CX : CXT} {k : Nat} {f : Addr} {fd : FuncData} {ps : List Str} {s1 s2 : Sp} (F : FnOk P w K mg base CX k f fd ps s1) (G : FnOk P w K mg base CX k f fd ps s2) :
    FnOk P w K mg base CX k f fd ps (fun vs H Q E => s1 vs H Q E ∨ s2 vs H Q E) :=
  ⟨fun vs H Q E h => h.elim (F.len vs H Q E) (G.len vs H Q E), fun A outer s H args us vs Q E hr he hb hv hs => hs.elim (F.run A outer s H args us vs Q E hr he hb hv) (G.run A outer s H args us vs Q E hr he hb hv)⟩
/-- no entry of these places and goods -/
def NoE (H : Hp) (P G : List Str) (v : V) : Prop := (Thg H v ∧ ∀ a xs, v = .ref a → H a ≠ some (.tup xs)) ∨
  ∃ (a : Addr) (xs : List V), v = .ref a ∧ H a = some (.tup xs) ∧ xs.length ≤ 1000 ∧ (∀ x ∈ xs, Thg H x) ∧ ¬ ∃ e : Ent, e.Fine ∧ ofB e P G = true ∧ xs = e.vals
theorem NoE.on {H H' : Hp} {P G : List Str} {v : V} (k : ∀ a o, H a = some o → (∀ ps, o ≠ .tbl ps) → H' a = some o) (h : NoE H P G v) : NoE H' P G v := by
  rcases h with ⟨t, n⟩ | ⟨a, xs, rfl, ha, lx, hT, no⟩
  · refine .inl ⟨t.on fun a o _ => k a o, fun a xs e h2 => ?_⟩
    subst e
    cases t with
    | lst h => rw [k _ _ h (fun ps z => nomatch z)] at h2; exact nomatch h2
    | tup h => exact n _ _ rfl h
    | dct h => rw [k _ _ h (fun ps z => nomatch z)] at h2; exact nomatch h2
  · exact .inr ⟨a, xs, rfl, k _ _ ha (fun ps z => nomatch z), lx, fun x hx => (hT x hx).on fun a o _ => k a o, no⟩
def spNoEntryOf (Ts : List Addr) : Sp := fun vs H Q _ => ∃ (v : V) (pl gl : Addr) (P G : List Str), vs = [v, .ref pl, .ref gl] ∧ NoE H P G v ∧ H pl = some (.tup (P.map V.str)) ∧ H gl = some (.tup (G.map V.str)) ∧ TabsG Ts H ∧ ∀ H', TB1 Ts H H' → Q (.bl false) H'
def spNoE1 (Ts : List Addr) : Sp := fun vs H Q _ => ∃ (v p1 p2 : V), vs = [v, p1, p2] ∧ TabsG Ts H ∧
  ((Thg H v ∧ ∀ a xs, v = .ref a → H a ≠ some (.tup xs)) ∨ ∃ (a : Addr) (xs : List V), v = .ref a ∧ H a = some (.tup xs) ∧ xs.length ≤ 1000 ∧ (∀ x ∈ xs, Thg H x) ∧ ¬ IsE xs) ∧ ∀ H', TB1 Ts H H' → Q (.bl false) H'
theorem noE_split {Ts : List Addr} {vs : List V} {H : Hp} {Q : VK} {E : XK} (h : spNoEntryOf Ts vs H Q E) : spIsEntryOf Ts vs H Q E ∨ spNoE1 Ts vs H Q E := by
  obtain ⟨v, pl, gl, P, G, rfl, no, hp, hg, tg, q⟩ := h
  rcases no with h | ⟨a, xs, rfl, ha, lx, hT, no⟩
  · exact .inr ⟨_, _, _, rfl, tg, .inl h, q⟩
  · by_cases i : IsE xs
    · obtain ⟨e, fi, rfl⟩ := i
      have ob : ofB e P G = false := Bool.eq_false_iff.mpr fun z => no ⟨e, fi, z, rfl⟩
      exact .inl ⟨a, pl, gl, e, P, G, rfl, ha, fi, hp, hg, tg, fun H' t => by rw [ob]; exact q H' t⟩
    · exact .inr ⟨_, _, _, rfl, tg, .inr ⟨a, xs, rfl, ha, lx, hT, i⟩, q⟩
section
variable {P : Program} {w : World} {K : PySem.W.Frag} {mg : Str → Option Value} {base : Heap}
theorem ok_noEntry1 {f cR T1 T2 T4 fI fG fP : Addr} {Ts : List Addr} {dI dG dP : FuncData} {oc kV doc pm ct : Value} {od an : Option Addr} {osl : Array (Option Value)}
    (lk : K.lookup f = some ⟨oc, od, .func (PySem.W.fnOf "is_entry_of" "is_entry_of" (defArgs sIsEntryOf) (defBody sIsEntryOf) (defScope sIsEntryOf) .none kV doc pm an (.ref cR) ct), osl⟩) (cdI : PySem.W.codeIn K (.ref cR) "is_entry_of" = true)
    (TB : GxR.TabB base mg cR T4) (i1 : T1 ∈ Ts) (i2 : T2 ∈ Ts) (i4 : T4 ∈ Ts) (IE : DefT P w K mg base "is_entry" 4 fI dI ["thing"] (spIsEntryA T1 T2)) (GO : DefT P w K mg base "good_of" 1 fG dG ["entry"] spGood) (PO : DefT P w K mg base "places_of" 1 fP dP ["entry"] spPlaces)
    (mal : mg "all" = none) :
    FnOk P w K mg base CX0 5 f (PySem.W.fnOf "is_entry_of" "is_entry_of" (defArgs sIsEntryOf) (defBody sIsEntryOf) (defScope sIsEntryOf) .none kV doc pm an (.ref cR) ct) ["thing", "places", "goods"] (spNoE1 Ts) := by
  refine fn_of lk cdI sc_sIsEntryOf (fun vs H Q E h => ?_) (fun A outer s H vs Q E hr h => ?_)
  · obtain ⟨v, p1, p2, rfl, _⟩ := h
    rfl
  · obtain ⟨v, p1, p2, rfl, tg, no, q⟩ := h
    have nd := sc_sIsEntryOf.nd
    have hr1 : Room 1 _ := hr.mono (by decide)
    refine ⟨_, pss_cons (ps_if (pt_not (pt_val (pe_call IE.ok hr (by rfl) IE.g IE.kp IE.b .nil pass0 (pa_cons (pv 0) pa_nil)))) (pss_one (ps_ret pe_bl)) pss_nil)
      (pss_cons (ps_set (i := 3) nd rfl (Or.inl rfl) (pe_call GO.ok hr1 (by rfl) GO.g GO.kp GO.b .nil pass0 (pa_cons (pv 0) pa_nil)))
      (pss_cons (ps_if (PW.pt (pw_and (pt_cmpR op_notN (pv 3) pe_non (by rfl)) (pw_and1 (pt_cmpR op_notIn_seq (pv 3) (pv 2) (by rfl))))) (pss_one (ps_ret pe_bl)) pss_nil)
      (pss_one (ps_ret (pe_allG (T := T4) (c := cR) (k := 1) (own := [("place", 4)]) (g := gName 4) (tt := tYes) (te := tOp (rIn K false) (tVar 4) (tVar 1))
          (hr.mono (by decide)) (by rfl) mal rfl nd TB rfl ⟨blkOk_by (N := sIsEntryOfN) (sc := defScope sIsEntryOf) (by decide +kernel), rfl, by decide +kernel, rfl⟩
          (pi_tup (pe_call PO.ok hr1 (by rfl) PO.g PO.kp PO.b .nil pass0 (pa_cons (pv 0) pa_nil))) (fun _ _ _ _ _ _ => pg_name (i := 4) nd rfl (Or.inl rfl)) (fun _ _ _ _ _ _ _ => pts_nil) (fun _ _ _ _ _ _ _ => pe_cmpR op_in_seq (pv 4) (pv 1) (by rfl))))))), ?_⟩
    have fin : ∀ H1, TB2 T1 T2 H H1 → Q (.bl false) H1 := fun H1 b => q H1 (TB1.of2 tg i1 i2 b)
    rcases no with ⟨th, nt⟩ | ⟨a, xs, rfl, ha, lx, hT, no⟩
    · exact ⟨_, rfl, _, rfl, tg T1 i1, tg T2 i2, .inl ⟨th, nt, fun H1 b => ⟨false, rfl, iteT (fin H1 b)⟩⟩⟩
    · exact ⟨_, rfl, _, rfl, tg T1 i1, tg T2 i2, .inr ⟨a, xs, rfl, ha, lx, hT, fun y => absurd y no, fun _ H1 b => ⟨false, rfl, iteT (fin H1 b)⟩⟩⟩
end
/-! ### what is an entry, part by part -/
def fitsA : List V → List Str → Bool
  | v :: vs, x :: xs => fitB v x && fitsA vs xs
  | _, _ => true
theorem fitsA_of : ∀ (ps : List V) (ss : List Str), (∀ (i : Nat) (v : V) (x : Str), ps[i]? = some v → ss[i]? = some x → fitB v x = true) → fitsA ps ss = true
  | [], _, _ => by unfold fitsA; rfl
  | _ :: _, [], _ => by unfold fitsA; rfl
  | v :: vs, x :: xs, h => by
    show (fitB v x && fitsA vs xs) = true
    rw [h 0 v x rfl rfl, fitsA_of vs xs fun i v x h1 h2 => h (i + 1) v x h1 h2]
    rfl
theorem of_fitsA : ∀ (ps : List V) (ss : List Str), fitsA ps ss = true → ∀ (i : Nat) (v : V) (x : Str), ps[i]? = some v → ss[i]? = some x → fitB v x = true
  | [], _, _, _, _, _, h1, _ => by rw [List.getElem?_nil] at h1; exact nomatch h1
  | _ :: _, [], _, _, _, _, _, h2 => by rw [List.getElem?_nil] at h2; exact nomatch h2
  | v :: vs, x :: xs, h, 0, _, _, h1, h2 => by
    cases h1
    cases h2
    exact (Bool.and_eq_true_iff.mp (show (fitB v x && fitsA vs xs) = true from h)).1
  | v :: vs, x :: xs, h, i + 1, v', x', h1, h2 => of_fitsA vs xs (Bool.and_eq_true_iff.mp (show (fitB v x && fitsA vs xs) = true from h)).2 i v' x' h1 h2
theorem isE_len {f : Ent} {ps : List V} (h : IsE (.str f.word :: ps)) : ps.length = f.sorts.length := by
  obtain ⟨e, _, q⟩ := h
  have w0 : e.word = f.word := V.str.inj (List.cons.inj q).1.symm
  rw [(List.cons.inj q).2, ← sorts_word w0]
  exact e.len_parts
theorem isE_fits {f : Ent} {ps : List V} (h : IsE (.str f.word :: ps)) : fitsA ps f.sorts = true := by
  obtain ⟨e, fi, q⟩ := h
  have w0 : e.word = f.word := V.str.inj (List.cons.inj q).1.symm
  rw [(List.cons.inj q).2, ← sorts_word w0]
  exact fitsA_of _ _ fun i v x h1 h2 => (fi.fit i v x h1 h2).2
theorem isE_mk {H : Hp} {f : Ent} {ps : List V} (hT : ∀ v ∈ ps, Thg H v) (l : ps.length = f.sorts.length) (h : fitsA ps f.sorts = true) (ap : ∀ e : Ent, e.word = f.word → e.parts = ps → e.places.Nodup) : IsE (.str f.word :: ps) := by
  have ft := of_fitsA _ _ h
  obtain ⟨e, we, rfl⟩ := ent_of l ft
  refine ⟨e, ⟨fun j v x hv hx => ?_, ap e we rfl⟩, ?_⟩
  · have hx2 : f.sorts[j]? = some x := by rw [← sorts_word we]; exact hx
    have q := ft j v x hv hx2
    exact ⟨fit_part (hT v (List.mem_of_getElem? hv)) q (f.sorts_in x (List.mem_of_getElem? hx2)), q⟩
  · rw [← we]
    rfl
theorem fit_n {v : V} : fitB v "name" = nmV v := if_pos rfl
theorem fit_e {v : V} : fitB v "end" = (decide (v = .str "") || nmV v) := by
  unfold fitB
  rw [if_neg ken, if_pos rfl]
/-- a number between -/
def whB (lo hi : Int) : V → Bool
  | .int i => decide (lo ≤ i) && decide (i ≤ hi)
  | _ => false
theorem fit_mo {v : V} : fitB v "moment" = whB 0 9999 v := by
  unfold fitB
  rw [if_neg kmn, if_neg kme]
  cases v <;> simp [inB, whB, bnd]
theorem fit_ma {v : V} : fitB v "many" = whB 1 1000000000 v := by
  unfold fitB
  rw [if_neg kyn, if_neg kye]
  cases v <;> simp [inB, whB, bnd, kym]
theorem fit_co {v : V} : fitB v "counted" = whB 0 1000000000 v := by
  unfold fitB
  rw [if_neg kcn, if_neg kce]
  cases v <;> simp [inB, whB, bnd, kcm, kcy]
theorem fit_pr {v : V} : fitB v "price" = whB 0 1000000000 v := by
  unfold fitB
  rw [if_neg kpn, if_neg kpe]
  cases v <;> simp [inB, whB, bnd, kpm, kpy]
theorem isE_word {x0 : V} {ps : List V} (h : IsE (x0 :: ps)) : ∃ f : Ent, x0 = .str f.word := by
  obtain ⟨e, _, q⟩ := h
  exact ⟨e, (List.cons.inj q).1⟩
theorem isE_heads {x0 p0 p1 p2 p3 : V} {rest : List V} (h : IsE (x0 :: p0 :: p1 :: p2 :: p3 :: rest)) : nmV p0 = true ∧ whB 0 9999 p1 = true ∧ nmV p2 = true ∧ nmV p3 = true := by
  obtain ⟨f, rfl⟩ := isE_word h
  have ft := of_fitsA _ _ (isE_fits h)
  have s0 : f.sorts[0]? = some ("name" : Str) := by cases f <;> rfl
  have s1 : f.sorts[1]? = some ("moment" : Str) := by cases f <;> rfl
  have s2 : f.sorts[2]? = some ("name" : Str) := by cases f <;> rfl
  have s3 : f.sorts[3]? = some ("name" : Str) := by cases f <;> rfl
  exact ⟨by rw [← fit_n]; exact ft 0 p0 _ rfl s0, by rw [← fit_mo]; exact ft 1 p1 _ rfl s1, by rw [← fit_n]; exact ft 2 p2 _ rfl s2, by rw [← fit_n]; exact ft 3 p3 _ rfl s3⟩
theorem isE_five {xs : List V} (h : IsE xs) : 5 ≤ xs.length := by
  obtain ⟨e, _, rfl⟩ := h
  cases e <;> exact Nat.le_of_ble_eq_true rfl
theorem nm_str {v : V} (h : nmV v = true) : ∃ z, v = .str z ∧ nameB z = true := by
  cases v with
  | str z => exact ⟨z, rfl, h⟩
  | _ => exact nomatch h
/-- the ends of a move or of a some -/
def endsB (w y4 : Str) (v : V) : Bool := if w = "some" ∧ v = .str "" then true else nmV v && !decide (v = .str y4)
section
variable {H : Hp} {p0 p1 p2 p3 : V} {rest : List V} (h0 : nmV p0 = true) (h1 : whB 0 9999 p1 = true) (h2 : nmV p2 = true) (h3 : nmV p3 = true) (hT : ∀ v ∈ p0 :: p1 :: p2 :: p3 :: rest, Thg H v)
include h0 h1 h2 h3 hT
theorem isE_swap : IsE (.str "swap" :: p0 :: p1 :: p2 :: p3 :: rest) ↔ rest = [] ∧ p2 ≠ p3 := by
  constructor
  · intro h
    have l := isE_len (f := .swap "" 0 "" "") h
    have r : rest = [] := List.eq_nil_of_length_eq_zero (by simp only [List.length_cons, Ent.sorts, List.length_nil] at l; omega)
    subst r
    refine ⟨rfl, fun z => ?_⟩
    obtain ⟨e, fi, q⟩ := h
    subst z
    have w0 : e.word = "swap" := V.str.inj (List.cons.inj q).1.symm
    cases e with
    | swap n m o t =>
      have q2 := (List.cons.inj q).2
      simp only [Ent.vals, Ent.rest, Ent.name, Ent.moment, List.cons.injEq] at q2
      have : o = t := V.str.inj (q2.2.2.1.symm.trans q2.2.2.2.1)
      subst this
      exact (List.nodup_cons.mp fi.apart).1 (List.mem_singleton.mpr rfl)
    | _ => exact absurd w0 (wno (by decide +kernel))
  · rintro ⟨rfl, ne⟩
    refine isE_mk (f := .swap "" 0 "" "") hT rfl ?_ fun e we ep => ?_
    · show (fitB p0 "name" && (fitB p1 "moment" && (fitB p2 "name" && (fitB p3 "name" && true)))) = true
      rw [fit_n, fit_mo, fit_n, fit_n, h0, h1, h2, h3]
      rfl
    · cases e with
      | swap n m o t =>
        simp only [Ent.parts, Ent.rest, List.cons.injEq] at ep
        refine List.nodup_cons.mpr ⟨fun z => ne ?_, nd1 t⟩
        rw [← ep.2.2.1, ← ep.2.2.2.1, List.mem_singleton.mp z]
      | _ => exact absurd we (wno (by decide +kernel))
theorem isE_look : IsE (.str "look" :: p0 :: p1 :: p2 :: p3 :: rest) ↔ rest = [] := by
  constructor
  · intro h
    have l := isE_len (f := .look "" 0 "" "") h
    exact List.eq_nil_of_length_eq_zero (by simp only [List.length_cons, Ent.sorts, List.length_nil] at l; omega)
  · rintro rfl
    refine isE_mk (f := .look "" 0 "" "") hT rfl ?_ fun e we ep => ?_
    · show (fitB p0 "name" && (fitB p1 "moment" && (fitB p2 "name" && (fitB p3 "name" && true)))) = true
      rw [fit_n, fit_mo, fit_n, fit_n, h0, h1, h2, h3]
      rfl
    · cases e with
      | look n m g p => exact nd1 p
      | _ => exact absurd we (wno (by decide +kernel))
theorem isE_come : IsE (.str "come" :: p0 :: p1 :: p2 :: p3 :: rest) ↔ ∃ x y, rest = [x, y] ∧ whB 1 1000000000 x = true ∧ whB 0 1000000000 y = true := by
  constructor
  · intro h
    have l := isE_len (f := .come "" 0 "" "" 0 0) h
    match rest, l with
    | [x, y], _ =>
      have q := isE_fits (f := .come "" 0 "" "" 0 0) h
      have q' : (fitB p0 "name" && (fitB p1 "moment" && (fitB p2 "name" && (fitB p3 "name" && (fitB x "many" && (fitB y "price" && true)))))) = true := q
      rw [fit_n, fit_mo, fit_n, fit_n, h0, h1, h2, h3, fit_ma, fit_pr] at q'
      simp only [Bool.true_and, Bool.and_true, Bool.and_eq_true] at q'
      exact ⟨x, y, rfl, q'⟩
  · rintro ⟨x, y, rfl, hx, hy⟩
    refine isE_mk (f := .come "" 0 "" "" 0 0) hT rfl ?_ fun e we ep => ?_
    · show (fitB p0 "name" && (fitB p1 "moment" && (fitB p2 "name" && (fitB p3 "name" && (fitB x "many" && (fitB y "price" && true)))))) = true
      rw [fit_n, fit_mo, fit_n, fit_n, h0, h1, h2, h3, fit_ma, fit_pr, hx, hy]
      rfl
    · cases e with
      | come n m g p k r => exact nd1 p
      | _ => exact absurd we (wno (by decide +kernel))
theorem isE_go : IsE (.str "go" :: p0 :: p1 :: p2 :: p3 :: rest) ↔ ∃ x, rest = [x] ∧ whB 1 1000000000 x = true := by
  constructor
  · intro h
    have l := isE_len (f := .go "" 0 "" "" 0) h
    match rest, l with
    | [x], _ =>
      have q := isE_fits (f := .go "" 0 "" "" 0) h
      have q' : (fitB p0 "name" && (fitB p1 "moment" && (fitB p2 "name" && (fitB p3 "name" && (fitB x "many" && true))))) = true := q
      rw [fit_n, fit_mo, fit_n, fit_n, h0, h1, h2, h3, fit_ma] at q'
      simp only [Bool.true_and, Bool.and_true] at q'
      exact ⟨x, rfl, q'⟩
  · rintro ⟨x, rfl, hx⟩
    refine isE_mk (f := .go "" 0 "" "" 0) hT rfl ?_ fun e we ep => ?_
    · show (fitB p0 "name" && (fitB p1 "moment" && (fitB p2 "name" && (fitB p3 "name" && (fitB x "many" && true))))) = true
      rw [fit_n, fit_mo, fit_n, fit_n, h0, h1, h2, h3, fit_ma, hx]
      rfl
    · cases e with
      | go n m g p k => exact nd1 p
      | _ => exact absurd we (wno (by decide +kernel))
theorem isE_count : IsE (.str "count" :: p0 :: p1 :: p2 :: p3 :: rest) ↔ ∃ x y, rest = [x, y] ∧ whB 0 1000000000 x = true ∧ nmV y = true := by
  constructor
  · intro h
    have l := isE_len (f := .count "" 0 "" "" 0 "") h
    match rest, l with
    | [x, y], _ =>
      have q := isE_fits (f := .count "" 0 "" "" 0 "") h
      have q' : (fitB p0 "name" && (fitB p1 "moment" && (fitB p2 "name" && (fitB p3 "name" && (fitB x "counted" && (fitB y "name" && true)))))) = true := q
      rw [fit_n, fit_mo, fit_n, fit_n, h0, h1, h2, h3, fit_co, fit_n] at q'
      simp only [Bool.true_and, Bool.and_true, Bool.and_eq_true] at q'
      exact ⟨x, y, rfl, q'⟩
  · rintro ⟨x, y, rfl, hx, hy⟩
    refine isE_mk (f := .count "" 0 "" "" 0 "") hT rfl ?_ fun e we ep => ?_
    · show (fitB p0 "name" && (fitB p1 "moment" && (fitB p2 "name" && (fitB p3 "name" && (fitB x "counted" && (fitB y "name" && true)))))) = true
      rw [fit_n, fit_mo, fit_n, fit_n, h0, h1, h2, h3, fit_co, fit_n, hx, hy]
      rfl
    · cases e with
      | count n m g p k r => exact nd1 p
      | _ => exact absurd we (wno (by decide +kernel))
theorem isE_move {y3 : Str} (hp : p3 = .str y3) : IsE (.str "move" :: p0 :: p1 :: p2 :: p3 :: rest) ↔ ∃ x y, rest = [x, y] ∧ endsB "move" y3 x = true ∧ whB 1 1000000000 y = true := by
  have eb : ∀ x, endsB "move" y3 x = (nmV x && !decide (x = .str y3)) := fun x => if_neg fun z => absurd z.1 (wno (by decide +kernel))
  subst hp
  constructor
  · intro h
    have l := isE_len (f := .move "" 0 "" "" "" 0) h
    match rest, l with
    | [x, y], _ =>
      have q := isE_fits (f := .move "" 0 "" "" "" 0) h
      have q' : (fitB p0 "name" && (fitB p1 "moment" && (fitB p2 "name" && (fitB (.str y3) "name" && (fitB x "name" && (fitB y "many" && true)))))) = true := q
      rw [fit_n, fit_mo, fit_n, fit_n, fit_n, h0, h1, h2, h3, fit_ma] at q'
      simp only [Bool.true_and, Bool.and_true, Bool.and_eq_true] at q'
      refine ⟨x, y, rfl, ?_, q'.2⟩
      rw [eb, q'.1]
      refine (Bool.true_and _).trans ?_
      rw [Bool.not_eq_true']
      refine decide_eq_false fun z => ?_
      subst z
      obtain ⟨e, fi, q⟩ := h
      have w0 : e.word = "move" := V.str.inj (List.cons.inj q).1.symm
      cases e with
      | move n m g o t k =>
        have q2 := (List.cons.inj q).2
        simp only [Ent.vals, Ent.rest, Ent.name, Ent.moment, List.cons.injEq] at q2
        have : o = t := V.str.inj (q2.2.2.2.1.symm.trans q2.2.2.2.2.1)
        subst this
        exact (List.nodup_cons.mp fi.apart).1 (List.mem_singleton.mpr rfl)
      | _ => exact absurd w0 (wno (by decide +kernel))
  · rintro ⟨x, y, rfl, hx, hy⟩
    rw [eb] at hx
    obtain ⟨hx1, hx2⟩ := Bool.and_eq_true_iff.mp hx
    refine isE_mk (f := .move "" 0 "" "" "" 0) hT rfl ?_ fun e we ep => ?_
    · show (fitB p0 "name" && (fitB p1 "moment" && (fitB p2 "name" && (fitB (.str y3) "name" && (fitB x "name" && (fitB y "many" && true)))))) = true
      rw [fit_n, fit_mo, fit_n, fit_n, fit_n, h0, h1, h2, h3, fit_ma, hx1, hy]
      rfl
    · cases e with
      | move n m g o t k =>
        simp only [Ent.parts, Ent.rest, List.cons.injEq] at ep
        refine List.nodup_cons.mpr ⟨fun z => ?_, nd1 t⟩
        rw [Bool.not_eq_true'] at hx2
        refine of_decide_eq_false hx2 ?_
        rw [← ep.2.2.2.2.1, ← ep.2.2.2.1, List.mem_singleton.mp z]
      | _ => exact absurd we (wno (by decide +kernel))
theorem isE_some {y3 : Str} (hp : p3 = .str y3) : IsE (.str "some" :: p0 :: p1 :: p2 :: p3 :: rest) ↔ ∃ x, rest = [x] ∧ endsB "some" y3 x = true := by
  have ne3 : y3 ≠ "" := name_ne (by rw [hp] at h3; exact h3)
  subst hp
  constructor
  · intro h
    have l := isE_len (f := .some_ "" 0 "" "" "") h
    match rest, l with
    | [x], _ =>
      have q := isE_fits (f := .some_ "" 0 "" "" "") h
      have q' : (fitB p0 "name" && (fitB p1 "moment" && (fitB p2 "name" && (fitB (.str y3) "name" && (fitB x "end" && true))))) = true := q
      rw [fit_n, fit_mo, fit_n, fit_n, h0, h1, h2, h3, fit_e] at q'
      simp only [Bool.true_and, Bool.and_true] at q'
      refine ⟨x, rfl, ?_⟩
      unfold endsB
      by_cases z : x = .str ""
      · rw [if_pos ⟨rfl, z⟩]
      · rw [if_neg fun y => z y.2]
        rw [decide_eq_false z, Bool.false_or] at q'
        rw [q']
        refine (Bool.true_and _).trans ?_
        rw [Bool.not_eq_true']
        refine decide_eq_false fun z2 => ?_
        subst z2
        obtain ⟨e, fi, q⟩ := h
        have w0 : e.word = "some" := V.str.inj (List.cons.inj q).1.symm
        cases e with
        | some_ n m g o t =>
          have q2 := (List.cons.inj q).2
          simp only [Ent.vals, Ent.rest, Ent.name, Ent.moment, List.cons.injEq] at q2
          have e1 : y3 = o := V.str.inj q2.2.2.2.1
          have e2 : y3 = t := V.str.inj q2.2.2.2.2.1
          have := fi.apart
          rw [show Ent.places (.some_ n m g o t) = [o, t] from if_neg (by rw [← e2]; exact ne3), ← e1, ← e2] at this
          exact (List.nodup_cons.mp this).1 (List.mem_singleton.mpr rfl)
        | _ => exact absurd w0 (wno (by decide +kernel))
  · rintro ⟨x, rfl, hx⟩
    unfold endsB at hx
    have fx : fitB x "end" = true := by
      rw [fit_e]
      by_cases z : x = .str ""
      · rw [decide_eq_true z]
        rfl
      · rw [if_neg fun y => z y.2] at hx
        rw [(Bool.and_eq_true_iff.mp hx).1, Bool.or_true]
    refine isE_mk (f := .some_ "" 0 "" "" "") hT rfl ?_ fun e we ep => ?_
    · show (fitB p0 "name" && (fitB p1 "moment" && (fitB p2 "name" && (fitB (.str y3) "name" && (fitB x "end" && true))))) = true
      rw [fit_n, fit_mo, fit_n, fit_n, h0, h1, h2, h3, fx]
      rfl
    · cases e with
      | some_ n m g o t =>
        simp only [Ent.parts, Ent.rest, List.cons.injEq] at ep
        show (if t = "" then [o] else [o, t]).Nodup
        by_cases z : t = ""
        · rw [if_pos z]
          exact nd1 o
        · rw [if_neg z]
          have xz : x ≠ .str "" := fun q => z (V.str.inj (ep.2.2.2.2.1.trans q))
          rw [if_neg fun y => xz y.2] at hx
          have hx2 := (Bool.and_eq_true_iff.mp hx).2
          rw [Bool.not_eq_true'] at hx2
          refine List.nodup_cons.mpr ⟨fun y => of_decide_eq_false hx2 ?_, nd1 t⟩
          rw [← ep.2.2.2.2.1, ← ep.2.2.2.1, List.mem_singleton.mp y]
      | _ => exact absurd we (wno (by decide +kernel))
end
/-! ### repr of any data, with lists, tuples and dicts one within the other -/
def keyD : Key → PyData
  | .inl i => .int i
  | .inr x => .str x
mutual
inductive Dq (K : PySem.W.Frag) (H : Hp) : V → PyData → Prop where
  | non : Dq K H .non .none
  | bl (b : Bool) : Dq K H (.bl b) (.bool b)
  | int (i : Int) : Dq K H (.int i) (.int i)
  | str (x : Str) : Dq K H (.str x) (.str x)
  | lst {a : Addr} {xs : List V} {ds : List PyData} (h : SqL K H a xs) (t : DqAll K H xs ds) : Dq K H (.ref a) (.list ds)
  | tup {a : Addr} {xs : List V} {ds : List PyData} (h : SqT K H a xs) (t : DqAll K H xs ds) : Dq K H (.ref a) (.tuple ds)
  | dct {a : Addr} {kvs : List (Key × V)} {D : List (PyData × PyData)} (h : H a = some (.dK kvs)) (t : DqAll K H (kvs.map (·.2)) (D.map (·.2))) (ke : D.map (·.1) = kvs.map fun p => keyD p.1) : Dq K H (.ref a) (.dict D)
  | dtt {a : Addr} {kvs : List (List Key × V)} {D : List (PyData × PyData)} (h : H a = some (.dT kvs)) (t : DqAll K H (kvs.map (·.2)) (D.map (·.2))) (ke : D.map (·.1) = kvs.map fun p => .tuple (p.1.map keyD)) : Dq K H (.ref a) (.dict D)
inductive DqAll (K : PySem.W.Frag) (H : Hp) : List V → List PyData → Prop where
  | nil : DqAll K H [] []
  | cons {v : V} {vs : List V} {d : PyData} {ds : List PyData} (h : Dq K H v d) (t : DqAll K H vs ds) : DqAll K H (v :: vs) (d :: ds)
end
section
variable {P : Program} {w : World}
theorem key_reads {h : Heap} {k : Key} {u : Value} (e : keyIs k u = true) : Reads h u (keyD k) [] := by
  rcases keyIs_shape e with ⟨i, t, rfl, rfl⟩ | ⟨x, t, rfl, rfl⟩
  · exact .int i t
  · exact .str x t
theorem rel_reads {h : Heap} {k : Key} {u : Value} (e : RelV (kV k) u) : Reads h u (keyD k) [] := by
  cases k with
  | inl i =>
    obtain ⟨t, rfl⟩ := e
    exact .int i t
  | inr x =>
    obtain ⟨t, rfl⟩ := e
    exact .str x t
theorem kv_reads {h : Heap} : ∀ {kvs : List (Key × V)} {vs : List (Key × Value)} {es : List DictEntry}, KV kvs vs → Pairs (mixKind P w) es vs → ReadsAll h (es.map (·.key)) (kvs.map fun p => keyD p.1) [] ∧ Vals (kvs.map (·.2)) (es.map (·.val))
  | _, _, _, .nil, p => by
    cases p
    exact ⟨.nil, .nil⟩
  | _, _, _, .cons ⟨e1, e2⟩ t, p => by
    cases p with
    | cons k v r =>
      obtain ⟨i1, i2⟩ := kv_reads t r
      refine ⟨?_, ?_⟩
      · refine ReadsAll.cons (as := []) (bs := []) (key_reads ?_) i1
        rw [e1]
        exact k
      · refine .cons ?_ i2
        show RelV _ (DictEntry.val _)
        rw [v]
        exact e2
theorem tup_reads {h : Heap} : ∀ {ks : List Key} {us : List Value}, Vals (ks.map kV) us → ReadsAll h us (ks.map keyD) []
  | [], _, r => by
    cases r
    exact .nil
  | k :: ks, _, r => by
    cases r with
    | cons r1 r2 => exact ReadsAll.cons (as := []) (bs := []) (rel_reads r1) (tup_reads r2)
theorem kt_reads {H : Hp} {h : Heap} (hok : HOk P w H h) : ∀ {kvs : List (List Key × V)} {xs : List (List Key × Addr × Value)},
    Paired (fun (p : List Key × V) (q : List Key × Addr × Value) => p.1 = q.1 ∧ H q.2.1 = some (.tup (p.1.map kV)) ∧ RelV p.2 q.2.2) kvs xs →
    ReadsAll h ((xs.map (entryOfKey (tupleKind (mixKind P w)))).map (·.key)) (kvs.map fun p => .tuple (p.1.map keyD)) [] ∧ Vals (kvs.map (·.2)) ((xs.map (entryOfKey (tupleKind (mixKind P w)))).map (·.val))
  | _, _, .nil => ⟨.nil, .nil⟩
  | _, _, .cons ⟨e1, e2, e3⟩ t => by
    obtain ⟨i1, i2⟩ := kt_reads hok t
    refine ⟨?_, .cons e3 i2⟩
    obtain ⟨_, its, rv, o, ho, hc, n, hd⟩ := (show ObjOk P w H h _ (.tup _) from hok _ _ e2)
    exact ReadsAll.cons (as := []) (bs := []) (.tuple ho hc hd (tup_reads rv)) i1
end
section
variable {X : Cx} {pins : List (Addr × Obj)} {σ : L2.St} {H : Hp} {s : Shared}
/-- what a dict's object holds -/
theorem dk_obj (I : Inv X pins σ H s) {a : Addr} {kvs : List (Key × V)} (h : H a = some (.dK kvs)) : ∃ o es ep, s.heap.get? a = some o ∧ o.cls = .type "dict" ∧ o.data = .dict es ep ∧ (a == sysModules) = false ∧
    ReadsAll s.heap (es.toList.map (·.key)) (kvs.map fun p => keyD p.1) [] ∧ Vals (kvs.map (·.2)) (es.toList.map (·.val)) := by
  obtain ⟨_, ns, vs, kv, o, es, ep, h1, h2, h3, h4⟩ := dk_of I.hok h
  obtain ⟨r1, r2⟩ := kv_reads (h := s.heap) kv h4.2.1
  exact ⟨o, es, ep, h1, h2.1, h3, ns, r1, r2⟩
theorem dt_obj (I : Inv X pins σ H s) {a : Addr} {kvs : List (List Key × V)} (h : H a = some (.dT kvs)) : ∃ o es ep, s.heap.get? a = some o ∧ o.cls = .type "dict" ∧ o.data = .dict es ep ∧ (a == sysModules) = false ∧
    ReadsAll s.heap (es.toList.map (·.key)) (kvs.map fun p => PyData.tuple (p.1.map keyD)) [] ∧ Vals (kvs.map (·.2)) (es.toList.map (·.val)) := by
  obtain ⟨_, ns, xs, pr, o, es, ep, h1, h2, h3, h4, _⟩ := (show ObjOk X.prog X.w H s.heap a (.dT kvs) from I.hok a _ h)
  obtain ⟨r1, r2⟩ := kt_reads I.hok pr
  rw [← h4] at r1 r2
  exact ⟨o, es, ep, h1, h2.1, h3, ns, r1, r2⟩
mutual
theorem Dq.reads (I : Inv X pins σ H s) : ∀ {v : V} {d : PyData}, Dq X.K H v d → ∀ u, RelV v u → ∃ as, Reads s.heap u d as
  | _, _, .non, _, r => by
    cases r
    exact ⟨_, .none⟩
  | _, _, .bl b, _, r => by
    cases r
    exact ⟨_, .bool b⟩
  | _, _, .int i, _, r => by
    obtain ⟨t, rfl⟩ := r
    exact ⟨_, .int i t⟩
  | _, _, .str x, _, r => by
    obtain ⟨t, rfl⟩ := r
    exact ⟨_, .str x t⟩
  | _, _, .lst h t, _, r => by
    cases r
    obtain ⟨its, rv, ⟨o, n, ho, hc, _, hd⟩, _⟩ := I.list h
    obtain ⟨as, q⟩ := DqAll.reads I t its rv
    exact ⟨_, .list ho hc hd q⟩
  | _, _, .tup h t, _, r => by
    cases r
    obtain ⟨its, rv, ⟨o, ho, hc, n, hd⟩, _⟩ := I.tuple h
    obtain ⟨as, q⟩ := DqAll.reads I t its rv
    exact ⟨_, .tuple ho hc hd q⟩
  | _, _, .dct h t ke, _, r => by
    cases r
    obtain ⟨o, es, ep, h1, h2, h3, _, r1, r2⟩ := dk_obj I h
    obtain ⟨as, q⟩ := DqAll.reads I t _ r2
    rw [← ke] at r1
    exact ⟨_, .dict h1 h2 h3 r1 q⟩
  | _, _, .dtt h t ke, _, r => by
    cases r
    obtain ⟨o, es, ep, h1, h2, h3, _, r1, r2⟩ := dt_obj I h
    obtain ⟨as, q⟩ := DqAll.reads I t _ r2
    rw [← ke] at r1
    exact ⟨_, .dict h1 h2 h3 r1 q⟩
theorem DqAll.reads (I : Inv X pins σ H s) : ∀ {vs : List V} {ds : List PyData}, DqAll X.K H vs ds → ∀ us, Vals vs us → ∃ as, ReadsAll s.heap us ds as
  | _, _, .nil, _, r => by
    cases r
    exact ⟨_, .nil⟩
  | _, _, .cons h t, _, r => by
    cases r with
    | cons r1 r2 =>
      obtain ⟨as, q1⟩ := Dq.reads I h _ r1
      obtain ⟨bs, q2⟩ := DqAll.reads I t _ r2
      exact ⟨_, .cons q1 q2⟩
end
mutual
theorem Dq.rep (I : Inv X pins σ H s) : ∀ {v : V} {d : PyData}, Dq X.K H v d → ∀ u, RelV v u → d.showable = true → d.shown.length ≤ sizeLine → ∃ bs, ReadAtMost s.heap d.depth bs ∧ ReprK X.prog X.w bs s.heap d.depth u d.shown
  | _, _, .non, _, r, _, _ => by
    cases r
    exact ⟨[], (fun _ h => nomatch h), by simp only [PyData.shown]; exact .of_is ReprIs.none _ _ _⟩
  | _, _, .bl b, _, r, _, _ => by
    cases r
    exact ⟨[], (fun _ h => nomatch h), by simp only [PyData.shown]; exact .of_is (ReprIs.bool b) _ _ _⟩
  | _, _, .int i, _, r, hs, _ => by
    obtain ⟨t, rfl⟩ := r
    exact ⟨[], (fun _ h => nomatch h), by simp only [PyData.shown]; exact .of_is (ReprIs.int t (by simpa [PyData.showable] using hs)) _ _ _⟩
  | _, _, .str x, _, r, _, hz => by
    obtain ⟨t, rfl⟩ := r
    exact ⟨[], (fun _ h => nomatch h), by simp only [PyData.shown]; exact .of_is (ReprIs.str x t (by simpa only [PyData.shown] using hz)) _ _ _⟩
  | _, _, .lst (ds := ds) h t, _, r, hs, hz => by
    cases r
    obtain ⟨its, rv, ⟨o, n, ho, hc, _, hd⟩, _⟩ := I.list h
    have hz' : (listText (PyData.shownAll ds)).length ≤ sizeLine := by simpa only [PyData.shown] using hz
    obtain ⟨as, q⟩ := DqAll.reads I t its rv
    obtain ⟨bs, hb, hk⟩ := DqAll.rep I t its rv (by simpa [PyData.showable] using hs) fun t ht => Nat.le_trans (listText_mem_le ht) hz'
    have r := Reads.list ho hc hd q
    have hna := not_mem_of_deeper r (by simp only [PyData.depth]; omega) hb
    refine ⟨_ :: bs, ReadAtMost.cons r (by simp only [PyData.depth]; omega) hb, ?_⟩
    simp only [PyData.depth, PyData.shown]
    cases its with
    | nil =>
      cases rv
      cases t
      simp only [PyData.shownAll, listText_nil]
      exact ReprK.listEmpty ho hc hd
    | cons x l => exact ReprK.list ho hc hd hna (by simpa using hk.length_eq) (fun i y e => hk.item i y (by simpa using e))
  | _, _, .tup (ds := ds) h t, _, r, hs, hz => by
    cases r
    obtain ⟨its, rv, ⟨o, ho, hc, n, hd⟩, _⟩ := I.tuple h
    have hz' : (tupleText (PyData.shownAll ds)).length ≤ sizeLine := by simpa only [PyData.shown] using hz
    obtain ⟨as, q⟩ := DqAll.reads I t its rv
    obtain ⟨bs, hb, hk⟩ := DqAll.rep I t its rv (by simpa [PyData.showable] using hs) fun t ht => Nat.le_trans (tupleText_mem_le ht) hz'
    have r := Reads.tuple ho hc hd q
    have hna := not_mem_of_deeper r (by simp only [PyData.depth]; omega) hb
    refine ⟨_ :: bs, ReadAtMost.cons r (by simp only [PyData.depth]; omega) hb, ?_⟩
    simp only [PyData.depth, PyData.shown]
    exact ReprK.tuple ho hc hd hna hk
  | _, _, .dct (D := D) h t ke, _, r, hs, hz => by
    cases r
    obtain ⟨o, es, ep, h1, h2, h3, ns, r1, r2⟩ := dk_obj I h
    rw [← ke] at r1
    have hz' : (dictText (PyData.shownKv D)).length ≤ sizeLine := by simpa only [PyData.shown] using hz
    obtain ⟨as, q⟩ := DqAll.reads I t _ r2
    obtain ⟨hs1, hs2⟩ := PyData.showableKv_split D (by simpa [PyData.showable] using hs)
    obtain ⟨b1, hb1, k1⟩ := ReprAllK.of_readsAll (prog := X.prog) (w := X.w) r1 hs1 (fun _ hm => nomatch hm) fun t ht => let ⟨p, hp, hl⟩ := PyData.shownKv_key_le D t ht; Nat.le_trans hl (Nat.le_trans (dictText_mem_le hp) hz')
    obtain ⟨b2, hb2, k2⟩ := DqAll.rep I t _ r2 hs2 fun t ht => let ⟨p, hp, hl⟩ := PyData.shownKv_val_le D t ht; Nat.le_trans hl (Nat.le_trans (dictText_mem_le hp) hz')
    have r := Reads.dict h1 h2 h3 r1 q
    have hb : ReadAtMost s.heap (PyData.depthKv D) (b1 ++ b2) := (hb1.mono (PyData.depthAll_keys_le D)).append (hb2.mono (PyData.depthAll_vals_le D))
    have hna := not_mem_of_deeper r (by simp only [PyData.depth]; omega) hb
    refine ⟨_ :: (b1 ++ b2), ReadAtMost.cons r (by simp only [PyData.depth]; omega) hb, ?_⟩
    simp only [PyData.depth, PyData.shown, PyData.shownKv_eq]
    exact ReprK.dict h1 h2 h3 ns hna (ReprEntriesK.of_two es.toList _ _
      (k1.more_le (fun b hb => List.mem_append_left _ hb) (PyData.depthAll_keys_le D)) (k2.more_le (fun b hb => List.mem_append_right _ hb) (PyData.depthAll_vals_le D)))
  | _, _, .dtt (D := D) h t ke, _, r, hs, hz => by
    cases r
    obtain ⟨o, es, ep, h1, h2, h3, ns, r1, r2⟩ := dt_obj I h
    rw [← ke] at r1
    have hz' : (dictText (PyData.shownKv D)).length ≤ sizeLine := by simpa only [PyData.shown] using hz
    obtain ⟨as, q⟩ := DqAll.reads I t _ r2
    obtain ⟨hs1, hs2⟩ := PyData.showableKv_split D (by simpa [PyData.showable] using hs)
    obtain ⟨b1, hb1, k1⟩ := ReprAllK.of_readsAll (prog := X.prog) (w := X.w) r1 hs1 (fun _ hm => nomatch hm) fun t ht => let ⟨p, hp, hl⟩ := PyData.shownKv_key_le D t ht; Nat.le_trans hl (Nat.le_trans (dictText_mem_le hp) hz')
    obtain ⟨b2, hb2, k2⟩ := DqAll.rep I t _ r2 hs2 fun t ht => let ⟨p, hp, hl⟩ := PyData.shownKv_val_le D t ht; Nat.le_trans hl (Nat.le_trans (dictText_mem_le hp) hz')
    have r := Reads.dict h1 h2 h3 r1 q
    have hb : ReadAtMost s.heap (PyData.depthKv D) (b1 ++ b2) := (hb1.mono (PyData.depthAll_keys_le D)).append (hb2.mono (PyData.depthAll_vals_le D))
    have hna := not_mem_of_deeper r (by simp only [PyData.depth]; omega) hb
    refine ⟨_ :: (b1 ++ b2), ReadAtMost.cons r (by simp only [PyData.depth]; omega) hb, ?_⟩
    simp only [PyData.depth, PyData.shown, PyData.shownKv_eq]
    exact ReprK.dict h1 h2 h3 ns hna (ReprEntriesK.of_two es.toList _ _
      (k1.more_le (fun b hb => List.mem_append_left _ hb) (PyData.depthAll_keys_le D)) (k2.more_le (fun b hb => List.mem_append_right _ hb) (PyData.depthAll_vals_le D)))
theorem DqAll.rep (I : Inv X pins σ H s) : ∀ {vs : List V} {ds : List PyData}, DqAll X.K H vs ds → ∀ us, Vals vs us → PyData.showableAll ds = true → (∀ t ∈ PyData.shownAll ds, t.length ≤ sizeLine) →
    ∃ bs, ReadAtMost s.heap (PyData.depthAll ds) bs ∧ ReprAllK X.prog X.w bs s.heap (PyData.depthAll ds) us (PyData.shownAll ds)
  | _, _, .nil, _, r, _, _ => by
    cases r
    exact ⟨[], (fun _ h => nomatch h), by simp only [PyData.shownAll]; exact .nil⟩
  | _, _, .cons (d := d) (ds := ds) h t, _, r, hs, hz => by
    cases r with
    | cons r1 r2 =>
      have hs' : d.showable = true ∧ PyData.showableAll ds = true := by simpa [PyData.showableAll] using hs
      obtain ⟨b1, hb1, k1⟩ := Dq.rep I h _ r1 hs'.1 (hz _ (by simp only [PyData.shownAll]; exact List.mem_cons_self ..))
      obtain ⟨b2, hb2, k2⟩ := DqAll.rep I t _ r2 hs'.2 fun t ht => hz t (by simp only [PyData.shownAll]; exact List.mem_cons_of_mem _ ht)
      refine ⟨b1 ++ b2, ?_, ?_⟩
      · intro b hm
        simp only [PyData.depthAll]
        rcases List.mem_append.mp hm with hm | hm
        · obtain ⟨d', as', r', hd'⟩ := hb1 b hm
          exact ⟨d', as', r', Nat.le_trans hd' (Nat.le_max_left _ _)⟩
        · obtain ⟨d', as', r', hd'⟩ := hb2 b hm
          exact ⟨d', as', r', Nat.le_trans hd' (Nat.le_max_right _ _)⟩
      · simp only [PyData.depthAll, PyData.shownAll]
        exact .cons ((k1.more fun b hb => List.mem_append_left _ hb).level_le (Nat.le_max_left _ _)) (k2.more_le (fun b hb => List.mem_append_right _ hb) (Nat.le_max_right _ _))
end
end
def rShowQ (K : PySem.W.Frag) : List V → Hp → VK → Prop := fun vs H Q => ∃ (a : Addr) (d : PyData), vs = [.ref a] ∧ Dq K H (.ref a) d ∧ d.showable = true ∧ d.depth ≤ 60 ∧ d.shown.length ≤ sizeLine ∧ Q (.str d.shown) H
theorem cr_reprQ {X : Cx} (hG : X.A.guards = some []) (hu : X.A.units + 64 < cLine) : CallR X (.builtin "repr") (rShowQ X.K) := by
  rintro pins s σ H vs us Q I r ⟨a, d, rfl, dq, sh, dp, sz, q⟩
  rw [Vals.ref1 r]
  have hQ : ∀ (h' : Heap) (u : Tok) (tk : _), (∀ b o, s.heap.get? b = some o → h'.get? b = some o) → EP X pins σ Q (.str d.shown u) { s with heap := h', toks := tk } := fun h' u tk hk => ⟨.str d.shown, H, I.kept hk, ⟨_, rfl⟩, q⟩
  cases dq with
  | @lst _ xs ds h t =>
    obtain ⟨its, rv, ⟨o, n, ho, hc, _, hd⟩, _⟩ := I.list h
    have hz' : (listText (PyData.shownAll ds)).length ≤ sizeLine := by simpa only [PyData.shown] using sz
    obtain ⟨as, q1⟩ := DqAll.reads I t its rv
    obtain ⟨bs, hb, hk⟩ := DqAll.rep I t its rv (by simpa [PyData.showable] using sh) fun t ht => Nat.le_trans (listText_mem_le ht) hz'
    have r := Reads.list ho hc hd q1
    have hna := not_mem_of_deeper r (by simp only [PyData.depth]; omega) hb
    simp only [PyData.depth] at dp
    simp only [PyData.shown] at hQ
    refine call_repr_slot (by omega) ⟨o, ho, hc⟩ F.slot_list_repr.toG ?_
    cases its with
    | nil =>
      cases rv
      cases t
      simp only [PyData.shownAll, listText_nil] at hQ
      exact call_list_repr_empty ⟨o, ho, hc⟩ ho hd ⟨_, _, rfl, hQ s.heap _ _ fun _ _ e => e⟩
    | cons x l => exact call_list_reprK ho hc hd hna (by simpa using hk.length_eq) (fun i y e => hk.item i y (by simpa using e)) hG (fun b _ => Clear.nil b) (by show X.A.units + 1 + _ < cLine; omega) (fun _ _ e => e) (fun h' u tk hk => ⟨_, _, rfl, hQ h' u tk hk⟩) hz'
  | @tup _ xs ds h t =>
    obtain ⟨its, rv, ⟨o, ho, hc, n, hd⟩, _⟩ := I.tuple h
    have hz' : (tupleText (PyData.shownAll ds)).length ≤ sizeLine := by simpa only [PyData.shown] using sz
    obtain ⟨as, q1⟩ := DqAll.reads I t its rv
    obtain ⟨bs, hb, hk⟩ := DqAll.rep I t its rv (by simpa [PyData.showable] using sh) fun t ht => Nat.le_trans (tupleText_mem_le ht) hz'
    have r := Reads.tuple ho hc hd q1
    have hna := not_mem_of_deeper r (by simp only [PyData.depth]; omega) hb
    simp only [PyData.depth] at dp
    simp only [PyData.shown] at hQ
    refine call_repr_slot (by omega) ⟨o, ho, hc⟩ F.slot_tuple_repr ?_
    exact call_tuple_reprK ho hc hd hna hk hG (fun b _ => Clear.nil b) (by show X.A.units + 1 + _ < cLine; omega) (fun _ _ e => e) (fun h' u tk hk => ⟨_, _, rfl, hQ h' u tk hk⟩) hz'
  | @dct _ kvs D h t ke =>
    obtain ⟨o, es, ep, h1, h2, h3, ns, r1, r2⟩ := dk_obj I h
    rw [← ke] at r1
    have hz' : (dictText (PyData.shownKv D)).length ≤ sizeLine := by simpa only [PyData.shown] using sz
    obtain ⟨as, q1⟩ := DqAll.reads I t _ r2
    obtain ⟨hs1, hs2⟩ := PyData.showableKv_split D (by simpa [PyData.showable] using sh)
    obtain ⟨b1, hb1, k1⟩ := ReprAllK.of_readsAll (prog := X.prog) (w := X.w) r1 hs1 (fun _ hm => nomatch hm) fun t ht => let ⟨p, hp, hl⟩ := PyData.shownKv_key_le D t ht; Nat.le_trans hl (Nat.le_trans (dictText_mem_le hp) hz')
    obtain ⟨b2, hb2, k2⟩ := DqAll.rep I t _ r2 hs2 fun t ht => let ⟨p, hp, hl⟩ := PyData.shownKv_val_le D t ht; Nat.le_trans hl (Nat.le_trans (dictText_mem_le hp) hz')
    have r := Reads.dict h1 h2 h3 r1 q1
    have hb : ReadAtMost s.heap (PyData.depthKv D) (b1 ++ b2) := (hb1.mono (PyData.depthAll_keys_le D)).append (hb2.mono (PyData.depthAll_vals_le D))
    have hna := not_mem_of_deeper r (by simp only [PyData.depth]; omega) hb
    simp only [PyData.depth] at dp
    simp only [PyData.shown, PyData.shownKv_eq] at hQ
    refine call_repr_slot (by omega) ⟨o, h1, h2⟩ F.slot_dict_repr ?_
    exact call_dict_reprK h1 h2 h3 ns hna (ReprEntriesK.of_two es.toList _ _
      (k1.more_le (fun b hb => List.mem_append_left _ hb) (PyData.depthAll_keys_le D)) (k2.more_le (fun b hb => List.mem_append_right _ hb) (PyData.depthAll_vals_le D))) hG (fun b _ => Clear.nil b) (by show X.A.units + 1 + _ < cLine; omega) (fun _ _ e => e) (fun h' u tk hk => ⟨_, _, rfl, hQ h' u tk hk⟩) (by rw [← PyData.shownKv_eq]; exact hz')
  | @dtt _ kvs D h t ke =>
    obtain ⟨o, es, ep, h1, h2, h3, ns, r1, r2⟩ := dt_obj I h
    rw [← ke] at r1
    have hz' : (dictText (PyData.shownKv D)).length ≤ sizeLine := by simpa only [PyData.shown] using sz
    obtain ⟨as, q1⟩ := DqAll.reads I t _ r2
    obtain ⟨hs1, hs2⟩ := PyData.showableKv_split D (by simpa [PyData.showable] using sh)
    obtain ⟨b1, hb1, k1⟩ := ReprAllK.of_readsAll (prog := X.prog) (w := X.w) r1 hs1 (fun _ hm => nomatch hm) fun t ht => let ⟨p, hp, hl⟩ := PyData.shownKv_key_le D t ht; Nat.le_trans hl (Nat.le_trans (dictText_mem_le hp) hz')
    obtain ⟨b2, hb2, k2⟩ := DqAll.rep I t _ r2 hs2 fun t ht => let ⟨p, hp, hl⟩ := PyData.shownKv_val_le D t ht; Nat.le_trans hl (Nat.le_trans (dictText_mem_le hp) hz')
    have r := Reads.dict h1 h2 h3 r1 q1
    have hb : ReadAtMost s.heap (PyData.depthKv D) (b1 ++ b2) := (hb1.mono (PyData.depthAll_keys_le D)).append (hb2.mono (PyData.depthAll_vals_le D))
    have hna := not_mem_of_deeper r (by simp only [PyData.depth]; omega) hb
    simp only [PyData.depth] at dp
    simp only [PyData.shown, PyData.shownKv_eq] at hQ
    refine call_repr_slot (by omega) ⟨o, h1, h2⟩ F.slot_dict_repr ?_
    exact call_dict_reprK h1 h2 h3 ns hna (ReprEntriesK.of_two es.toList _ _
      (k1.more_le (fun b hb => List.mem_append_left _ hb) (PyData.depthAll_keys_le D)) (k2.more_le (fun b hb => List.mem_append_right _ hb) (PyData.depthAll_vals_le D))) hG (fun b _ => Clear.nil b) (by show X.A.units + 1 + _ < cLine; omega) (fun _ _ e => e) (fun h' u tk hk => ⟨_, _, rfl, hQ h' u tk hk⟩) (by rw [← PyData.shownKv_eq]; exact hz')
/-! ### shown data, as the heap grows; how long they are -/
theorem SqL.keep {K : PySem.W.Frag} {H H' : Hp} {a : Addr} {xs : List V} (k : ∀ a o, H a = some o → (∀ ps, o ≠ .tbl ps) → H' a = some o) (h : SqL K H a xs) : SqL K H' a xs := by
  rcases h with (h | ⟨o, h⟩) | h
  · exact .inl (.inl (k _ _ h fun ps z => nomatch z))
  · exact .inl (.inr ⟨o, k _ _ h fun ps z => nomatch z⟩)
  · exact .inr h
theorem SqT.keep {K : PySem.W.Frag} {H H' : Hp} {a : Addr} {xs : List V} (k : ∀ a o, H a = some o → (∀ ps, o ≠ .tbl ps) → H' a = some o) (h : SqT K H a xs) : SqT K H' a xs := by
  rcases h with (h | ⟨o, h⟩) | h
  · exact .inl (.inl (k _ _ h fun ps z => nomatch z))
  · exact .inl (.inr ⟨o, k _ _ h fun ps z => nomatch z⟩)
  · exact .inr h
section
variable {K : PySem.W.Frag} {H H' : Hp}
mutual
theorem Dq.on (k : ∀ a o, H a = some o → (∀ ps, o ≠ .tbl ps) → H' a = some o) : ∀ {v : V} {d : PyData}, Dq K H v d → Dq K H' v d
  | _, _, .non => .non
  | _, _, .bl b => .bl b
  | _, _, .int i => .int i
  | _, _, .str x => .str x
  | _, _, .lst h t => .lst (SqL.keep k h) (DqAll.on k t)
  | _, _, .tup h t => .tup (SqT.keep k h) (DqAll.on k t)
  | _, _, .dct h t ke => .dct (k _ _ h fun ps z => nomatch z) (DqAll.on k t) ke
  | _, _, .dtt h t ke => .dtt (k _ _ h fun ps z => nomatch z) (DqAll.on k t) ke
theorem DqAll.on (k : ∀ a o, H a = some o → (∀ ps, o ≠ .tbl ps) → H' a = some o) : ∀ {vs : List V} {ds : List PyData}, DqAll K H vs ds → DqAll K H' vs ds
  | _, _, .nil => .nil
  | _, _, .cons h t => .cons (Dq.on k h) (DqAll.on k t)
end
end
theorem toString_neg5 (i : Int) (h : i < 0) : (toString i).length ≤ (toString (-i)).length + 1 := by
  obtain ⟨n, rfl⟩ : ∃ n : Nat, i = -((n + 1 : Nat) : Int) := ⟨(-i).toNat - 1, by omega⟩
  rw [Int.neg_neg]
  show ("-" ++ toString (n + 1)).length ≤ (toString (n + 1)).length + 1
  rw [String.length_append]
  have : ("-" : String).length = 1 := rfl
  omega
theorem int_shown5 {i : Int} (h : i.natAbs < 10 ^ 60) : (PyData.shown (.int i)).length ≤ 70 ∧ i.natAbs.log2 < 1920 := by
  have hb : ((i.natAbs : Nat) : Int) < 10 ^ 60 := by
    have e : (((10 : Nat) ^ 60 : Nat) : Int) = (10 : Int) ^ 60 := by decide +kernel
    rw [← e]
    exact Int.ofNat_lt.mpr h
  refine ⟨?_, ?_⟩
  · by_cases z : 0 ≤ i
    · exact Nat.le_trans (toString_length_le z (k := 60) (by decide) (by rw [← Int.natAbs_of_nonneg z]; exact hb)) (by decide)
    · show (Str.ofString (toString i)).length ≤ 70
      have n1 : ((i.natAbs : Nat) : Int) = -i := by omega
      have h := toString_length_le (v := -i) (by omega) (k := 60) (by decide) (by rw [← n1]; exact hb)
      rw [PySem.ofString_length] at h ⊢
      have := toString_neg5 i (by omega)
      omega
  · by_cases z : i.natAbs = 0
    · rw [z]
      decide
    · exact Nat.lt_trans ((Nat.log2_lt z).mpr (Nat.lt_trans h (show (10 : Nat) ^ 60 < 2 ^ 200 by decide +kernel))) (by decide)
/-- a thing whose text isn't long: at most n, k deep -/
def ShQ (K : PySem.W.Frag) (H : Hp) (v : V) (n k : Nat) : Prop := ∃ d, Dq K H v d ∧ d.showable = true ∧ d.leavesShort 70 = true ∧ d.bulk ≤ n ∧ d.depth ≤ k
def ShQs (K : PySem.W.Frag) (H : Hp) (vs : List V) (n k : Nat) : Prop := ∃ ds, DqAll K H vs ds ∧ PyData.showableAll ds = true ∧ PyData.leavesShortAll 70 ds = true ∧ PyData.bulkAll ds ≤ vs.length * (n + 1) ∧ PyData.depthAll ds ≤ k
section
variable {K : PySem.W.Frag} {H H' : Hp} {n k : Nat}
theorem ShQ.on {v : V} (kp : ∀ a o, H a = some o → (∀ ps, o ≠ .tbl ps) → H' a = some o) (h : ShQ K H v n k) : ShQ K H' v n k := by
  obtain ⟨d, q, r⟩ := h
  exact ⟨d, q.on kp, r⟩
theorem ShQ.mono {v : V} {n' k' : Nat} (h : ShQ K H v n k) (hn : n ≤ n') (hk : k ≤ k') : ShQ K H v n' k' := by
  obtain ⟨d, q, a, b, c, e⟩ := h
  exact ⟨d, q, a, b, Nat.le_trans c hn, Nat.le_trans e hk⟩
theorem shq_non : ShQ K H .non n k := ⟨_, .non, rfl, rfl, Nat.zero_le _, Nat.zero_le _⟩
theorem shq_bl (b : Bool) : ShQ K H (.bl b) n k := ⟨_, .bl b, rfl, rfl, Nat.zero_le _, Nat.zero_le _⟩
theorem shq_int {i : Int} (h : i.natAbs < 10 ^ 60) : ShQ K H (.int i) n k := ⟨_, .int i, decide_eq_true (int_shown5 h).2, decide_eq_true (int_shown5 h).1, Nat.zero_le _, Nat.zero_le _⟩
theorem shq_str {z : Str} (h : z.length ≤ n) (ok : PyData.strOk z = true) : ShQ K H (.str z) n k := by
  refine ⟨_, .str z, rfl, ?_, h, Nat.zero_le _⟩
  have ok' : z.cps.all (fun c => decide (c < 0x110000)) = true := ok
  rw [← Array.all_toList, List.all_eq_true] at ok'
  simp only [PyData.leavesShort, List.all_eq_true, decide_eq_true_eq]
  intro c hc
  have := of_decide_eq_true (ok' c hc)
  have e : (16 : Nat) ^ 8 = 4294967296 := by decide
  omega
theorem shqs_of : ∀ {vs : List V}, (∀ v ∈ vs, ShQ K H v n k) → ShQs K H vs n k
  | [], _ => ⟨[], .nil, rfl, rfl, by simp [PyData.bulkAll], Nat.zero_le _⟩
  | v :: vs, h => by
    obtain ⟨d, q, a, b, c, e⟩ := h v List.mem_cons_self
    obtain ⟨ds, q2, a2, b2, c2, e2⟩ := shqs_of fun x hx => h x (List.mem_cons_of_mem _ hx)
    refine ⟨d :: ds, .cons q q2, by simp [PyData.showableAll, a, a2], by simp [PyData.leavesShortAll, b, b2], ?_, ?_⟩
    · simp only [PyData.bulkAll, List.length_cons, Nat.succ_mul]
      omega
    · simp only [PyData.depthAll]
      exact Nat.max_le.mpr ⟨e, e2⟩
theorem shq_lst {a : Addr} {xs : List V} {m : Nat} (h : SqL K H a xs) (t : ∀ v ∈ xs, ShQ K H v n k) (l : xs.length * (n + 1) ≤ m) : ShQ K H (.ref a) m (k + 1) := by
  obtain ⟨ds, q, a1, b, c, e⟩ := shqs_of t
  exact ⟨_, .lst h q, by simpa only [PyData.showable] using a1, by simpa only [PyData.leavesShort] using b, by simp only [PyData.bulk]; omega, by simp only [PyData.depth]; omega⟩
theorem shq_tup {a : Addr} {xs : List V} {m : Nat} (h : SqT K H a xs) (t : ∀ v ∈ xs, ShQ K H v n k) (l : xs.length * (n + 1) ≤ m) : ShQ K H (.ref a) m (k + 1) := by
  obtain ⟨ds, q, a1, b, c, e⟩ := shqs_of t
  exact ⟨_, .tup h q, by simpa only [PyData.showable] using a1, by simpa only [PyData.leavesShort] using b, by simp only [PyData.bulk]; omega, by simp only [PyData.depth]; omega⟩
theorem shq_d0 {a : Addr} (h : H a = some (.dK [])) : ShQ K H (.ref a) n (k + 1) := ⟨_, .dct (D := []) h .nil rfl, rfl, rfl, Nat.zero_le _, by simp [PyData.depth, PyData.depthKv]⟩
theorem shq_d1 {a : Addr} {x : Str} {i : Int} (h : H a = some (.dK [(Sum.inr x, .int i)])) (hx : x.length ≤ 60) (ok : PyData.strOk x = true) (hi : i.natAbs < 10 ^ 60) (hn : 70 ≤ n) : ShQ K H (.ref a) n (k + 1) := by
  obtain ⟨d, q, a1, b, c, e⟩ := shq_str (K := K) (H := H) (n := 60) (k := 0) hx ok
  cases q
  have i1 := int_shown5 hi
  refine ⟨_, .dct (D := [(.str x, .int i)]) h (.cons (.int i) .nil) rfl, ?_, ?_, ?_, ?_⟩
  · simp [PyData.showable, PyData.showableKv, i1.2]
  · simp only [PyData.leavesShort, PyData.leavesShortKv, Bool.and_true] at b ⊢
    rw [Bool.and_eq_true]
    exact ⟨b, decide_eq_true i1.1⟩
  · simp only [PyData.bulk, PyData.bulkKv] at c ⊢
    omega
  · simp [PyData.depth, PyData.depthKv]
theorem ShQ.facts {v : V} (h : ShQ K H v n k) (hn : n ≤ 230000) : ∃ d, Dq K H v d ∧ d.showable = true ∧ d.depth ≤ k ∧ d.shown.length ≤ sizeLine := by
  obtain ⟨d, q, a, b, c, e⟩ := h
  refine ⟨d, q, a, e, ?_⟩
  have s := PyData.shown_le_bulk 70 (by decide) d b
  rw [sizeLine_eq]
  omega
end
/-! ### try .. except X as n, what is caught being kept -/
namespace Kept
def ExV (cls : Value) (d : Option Addr) (a : Addr) : HO := .ext fun h => ∃ (o : Obj) (fv : Array Value), h.get? a = some o ∧ Zc cls d o ∧ o.data = .fields fv
def wKeep (K : PySem.W.Frag) (c : Value) (i n : Nat) (ts : Addr → Value → Option Addr → TS) (D : Ends) : WX := fun cls d τ G => PySem.W.exmOne K cls c = some true ∧
  ∀ a, τ.length = n → G a = none → ts a cls d { nx := fun τ' G' => D.nx (τ'.set i none) (upd G' a (ExV cls d a)), rt := D.rt, bk := fun τ' G' => D.bk (τ'.set i none) G', ct := fun τ' G' => D.ct (τ'.set i none) G' } (τ.set i (some (.ref a))) G
section
variable {X : Cx}
theorem exv_ok {P : Program} {w : World} {G : Hp} {h : Heap} {a : Addr} {cls : Value} {d : Option Addr} {o : Obj} {fv : Array Value} (e : h.get? a = some o) (z : Zc cls d o) (dd : o.data = .fields fv) : ObjOk P w G h a (ExV cls d a) :=
  ⟨⟨o, fv, e, z, dd⟩, ⟨o, e⟩, fun _ _ ⟨u, v, q, r⟩ k => ⟨u, v, k u q, r⟩⟩
/-- an object that is there, and wasn't when the def began, is told of -/
theorem told_of {pins : List (Addr × Obj)} {τ : L2.St} {G : Hp} {z : Shared} {a : Addr} {cls : Value} {d : Option Addr} {o : Obj} {fv : Array Value} (I : Inv X pins τ G z) (ga : z.heap.get? a = some o) (zc : Zc cls d o) (dd : o.data = .fields fv)
    (na : G a = none) (nl : a ≠ X.env.locals) (old : ∀ u, X.s_0.heap.get? a = some u → a ∈ X.ex) (np : ∀ p ∈ X.pn ++ pins, p.1 ≠ a) : Inv X pins τ (upd G a (ExV cls d a)) z := by
  have other : ∀ {b : Addr} {u : HO}, G b = some u → (upd G a (ExV cls d a)) b = some u := fun e => (upd_ne (ne_of_none e na)).trans e
  refine ⟨I.ok, I.os, I.bare, ⟨I.base.keep, I.base.slot, fun b u e n hx => ?_, I.base.there, fun b xs e => other (I.base.tups b xs e), fun b u v e => other (I.base.frzs b u v e), fun b ps e => ?_⟩, I.loc, I.cell, (upd_ne (Ne.symm nl)).trans I.free, fun y c e => ?_, fun p hp => ?_, I.hok.laidN (fun _ _ e => e) na (exv_ok ga zc dd), I.len⟩
  · by_cases q : b = a
    · subst q
      exact absurd (old u e) hx
    · exact (upd_ne q).trans (I.base.free b u e n hx)
  · obtain ⟨more, q⟩ := I.base.tbls b ps e
    exact ⟨more, other q⟩
  · obtain ⟨v, hv⟩ := I.cell y c e
    have q : c ≠ a := fun q => by
      subst q
      obtain ⟨o', e', rest⟩ := hv
      rw [ga] at e'
      cases e'
      rw [dd] at rest
      cases rest
    exact (upd_ne q).trans (I.freeC y c e)
  · obtain ⟨p1, p2, p3⟩ := I.pin p hp
    exact ⟨p1, (upd_ne (np p hp)).trans p2, p3⟩
end
section
variable {X : Cx} {x n : Str} {c : Value} {i : Nat} {body rest : List Stmt} {b1 : Stmt} {q1 q2 q3 : Pos} {tb : WX → TS} {ts : Addr → Value → Option Addr → TS}
theorem ps_try_keep (st : X.stack = X.env :: X.outer) (fr : X.env.frame = some X.env.locals) (ndN : X.N.Nodup) (iy : X.N[i]? = some n) (kl : X.env.kindOf n = some .local) (nm : Names X x c)
    (Hb : ∀ (W : WX) (pn : List (Addr × Obj)) (xe : Value → Shared → Prop), Takes (X.tr pn xe) W → PassesOwn (model X.prog X.w) X.A X.env xe → PSs (X.tr pn xe) body (tb W))
    (Hs : ∀ (a : Addr) (ob : Obj) (cls : Value) (d : Option Addr) (pn : List (Addr × Obj)), Zc cls d ob → (∃ fv, ob.data = .fields fv) → PSs (X.suite a ((a, ob) :: pn)) (b1 :: rest) (ts a cls d)) :
    PS X (.Try body [.ExceptHandler (some (.Name x q1)) (some n) (b1 :: rest) q2] [] [] q3) (fun D τ G => tb (wKeep X.K c i X.N.length ts D) D τ G) := by
  constructor
  intro pins z τ G D I h
  have oX := I.ok
  have frs2 : X.A.frames = some (X.env :: X.outer) := by
    rw [oX.frames, st]
  refine wpAny_Try_except (wpAny_mono ((Hb (wKeep X.K c i X.N.length ts D) (X.pn ++ pins) (fun ev z1 => wpAny (model X.prog X.w) X.A (noteFrame ev X.env) (fun _ z2 => wpAny (model X.prog X.w) X.A (setFlight ev none) (fun _ z3 =>
    wpAny (model X.prog X.w) X.A (handleBy ev X.env [.ExceptHandler (some (.Name x q1)) (some n) (b1 :: rest) q2]) (SP X pins D) X.xe z3) X.xe z2) X.xe z1) (fun ev z' fly => ?_) PassesOwn.looking).run [] z τ G D (I.toTry _) h) (fun fl z1 hsp => ?_) (fun _ _ he => he))
  · obtain ⟨a, B, zI, pins', τ', G', cls, d, rfl, J', ground, up, sky, na, os, ag, match_, yes⟩ := fly
    have J : Inv X pins τ' G' zI := J'.ofTry oX
    show wpAny (model X.prog X.w) X.A (noteFrame (.ref a) X.env) _ _ z'
    refine Sky.land Zc.steady frs2 fr (show Sky B (X.env :: X.outer) a (Zc cls d) X.env.locals z'.heap by rw [← st]; exact sky) fun h3 f3 up3 => ?_
    have J3 : Inv X pins τ' G' { z' with heap := h3 } := J.landed ground f3.1 (up.trans up3) os ag
    obtain ⟨o3, fv3, e3, zc3, dd3⟩ := f3.there
    have nofr : a ∉ frs (X.env :: X.outer) := fun hm => by
      obtain ⟨_, o', e', hnf⟩ := f3.2.2.1.mem hm
      rw [e3] at e'
      cases e'
      exact hnf _ dd3
    have nl : a ≠ X.env.locals := fun q => nofr (List.mem_filterMap.mpr ⟨X.env, List.mem_cons_self, fr.trans (congrArg some q.symm)⟩)
    have nf : a ∉ X.fs := fun hm => by
      obtain ⟨ev, hev, q⟩ := List.mem_filterMap.mp hm
      exact nofr (List.mem_filterMap.mpr ⟨ev, List.mem_cons_of_mem _ hev, q⟩)
    have new : zI.heap.get? a = none := by
      cases q : zI.heap.get? a with
      | none => rfl
      | some u =>
        have := ground a u q (by rw [st]; exact nofr)
        rw [f3.2.1] at this
        cases this
    have old : ∀ u, X.s_0.heap.get? a = some u → a ∈ X.ex := fun u e => by
      by_cases hx : a ∈ X.ex
      · exact hx
      · obtain ⟨o', e'⟩ := J.base.there a u e hx
        rw [new] at e'
        cases e'
    have np : ∀ p ∈ X.pn ++ pins, p.1 ≠ a := fun p hp q => by
      have := (J.pin p hp).1
      rw [q, new] at this
      cases this
    have S3 := J3.suite e3 dd3 na nl nf
    refine wpAny_handleBy_cons (codeAny_handlers_test ?_) (by intro q; cases q)
    have ty : PySem.W.Looks (model X.prog X.w) h3 (typeOf (.ref a)) cls := fun A' Q' E' z4 k q => wpAny_typeOf_ref (k _ _ e3) (by rw [zc3.1]; exact q)
    have hit := PySem.W.exm_one (M := model X.prog X.w) (J3.kIn) ty match_
    have load : ∀ {Q' : Value → Shared → Prop} {E' : Value → Shared → Prop}, Q' c { z' with heap := h3 } → wpAny (model X.prog X.w) (X.A.mark (some (.ref a))) (eval (.Name x q1) X.env) Q' E' { z' with heap := h3 } := fun {Q' E'} q => by
      obtain ⟨gl, dbg, hm | ⟨hm, hv, hnn⟩⟩ := nm
      · exact ld_glob (X := X.suite a ((a, o3) :: (X.pn ++ pins))) S3 gl hm q dbg
      · exact ld_blt (X := X.suite a ((a, o3) :: (X.pn ++ pins))) S3 gl hm hv q hnn dbg
    refine load (hit.here (codeAny_handlers_suite_as (HandSPX.lands_againZ f3 fun h4 f4 up4 => ?_)))
    have J4 : Inv X pins τ' G' { z' with heap := h4 } := J.landed ground f4.1 ((up.trans up3).trans up4) os ag
    obtain ⟨o4, fv4, e4, zc4, dd4⟩ := f4.there
    refine store_ok (X := X.suite a ((a, o4) :: (X.pn ++ pins))) (v := .ref a) (J4.suite e4 dd4 na nl nf) ndN iy (.inl kl) rfl (fun z5 S5 => ?_) (.inr kl)
    refine wpAny_mono ((Hs a o4 cls d (X.pn ++ pins) zc4 ⟨_, dd4⟩).run [] z5 _ G' _ S5 (yes a J'.len na)) (fun fl z6 hsp => ?_) (fun _ _ q => False.elim q)
    have fin : ∀ {τ6 : L2.St} {G6 : Hp} {Q' : Shared → Prop}, Inv X pins τ6 G6 z6 → (∀ z7, Inv X pins (τ6.set i none) G6 z7 → Q' z7) →
        wpAny (model X.prog X.w) X.A (do bindName X.env n .none; unbindBehindTheSuite X.env n q2) (fun _ z7 => Q' z7) X.xe z6 := fun {τ6 G6 Q'} I6 hq => gone_ok I6 ndN iy kl hq
    cases fl with
    | next =>
      obtain ⟨τ6, G6, S6, w6⟩ := hsp
      have p6 := S6.pin (a, o4) (List.mem_append_left _ List.mem_cons_self)
      exact fin (told_of (S6.unsuite oX) p6.1 zc4 dd4 p6.2.1 nl old np) fun z7 J7 => ⟨_, _, J7, w6⟩
    | brk =>
      obtain ⟨τ6, G6, S6, w6⟩ := hsp
      exact fin (S6.unsuite oX) fun z7 J7 => ⟨_, _, J7, w6⟩
    | cont =>
      obtain ⟨τ6, G6, S6, w6⟩ := hsp
      exact fin (S6.unsuite oX) fun z7 J7 => ⟨_, _, J7, w6⟩
    | ret u =>
      obtain ⟨v6, τ6, G6, S6, r6, w6⟩ := hsp
      exact fin (S6.unsuite oX) fun z7 J7 => ⟨_, _, _, J7, r6, w6⟩
  · cases fl with
    | next =>
      obtain ⟨τ1, G1, J1, w1⟩ := hsp
      exact wpAny_execs_nil ⟨τ1, G1, J1.ofTry oX, w1⟩
    | brk =>
      obtain ⟨τ1, G1, J1, w1⟩ := hsp
      exact ⟨τ1, G1, J1.ofTry oX, w1⟩
    | cont =>
      obtain ⟨τ1, G1, J1, w1⟩ := hsp
      exact ⟨τ1, G1, J1.ofTry oX, w1⟩
    | ret u =>
      obtain ⟨v1, τ1, G1, J1, r1, w1⟩ := hsp
      exact ⟨v1, τ1, G1, J1.ofTry oX, r1, w1⟩
end
/-! isinstance of what was kept -/
def rIsX (K : PySem.W.Frag) : List V → Hp → VK → Prop := fun xs G W => ∃ (a D : Addr) (k : V) (kv : Value) (b : Bool), xs = [V.ref a, k] ∧ G a = some (ExV (.ref D) none a) ∧ ExcC K D ∧ (∀ u, RelV k u → u = kv) ∧ PySem.W.kitOne K (.ref D) kv = some b ∧ W (V.bl b) G
theorem inst_at {P : Program} {w : World} {G : Hp} {h : Heap} {a D : Addr} (ok : HOk P w G h) (e : G a = some (ExV (.ref D) none a)) : ∃ o, PySem.W.InstAt h a o D none := by
  obtain ⟨⟨o, fv, g, z, dd⟩, _⟩ := (show ObjOk P w G h a (ExV (.ref D) none a) from ok a _ e)
  obtain ⟨oc, od, dt, sl⟩ := o
  obtain ⟨z1, z2⟩ := z
  dsimp only at z1 z2 dd
  subst z1 z2 dd
  exact ⟨_, g, rfl, rfl, trivial⟩
theorem call_isX {X : Cx} : CallR X (.builtin "isinstance") (rIsX X.K) := by
  rintro pins z τ G xs us W I r ⟨a, D, k, kv, b, rfl, ea, C, hk, e, q⟩
  obtain ⟨u1, u2, rfl, r1, r2⟩ := vals2 r
  obtain rfl : u1 = Value.ref a := r1
  obtain rfl := hk _ r2
  obtain ⟨o, J⟩ := inst_at I.hok ea
  exact PySem.W.kia_one (PySem.W.handS_kitx_exc C.hg C.hk C.hs C.hd C.ha C.hn C.ht C.hm) I.kIn J e (fun q => nomatch q) fun tk => ⟨.bl b, G, I.tok tk, rfl, q⟩
def rIsXT (K : PySem.W.Frag) : List V → Hp → VK → Prop := fun xs G W => ∃ (a D tp : Addr) (cs : List V) (us : List Value) (b : Bool), xs = [V.ref a, V.ref tp] ∧ G a = some (ExV (.ref D) none a) ∧ ExcC K D ∧ G tp = some (.tup cs) ∧ Paired ClsV cs us ∧ PySem.W.kitAny K (.ref D) us = some b ∧ W (V.bl b) G
theorem call_isXT {X : Cx} : CallR X (.builtin "isinstance") (rIsXT X.K) := by
  rintro pins z τ G xs us W I r ⟨a, D, tp, cs, ws, b, rfl, ea, C, et, hk, e, q⟩
  obtain ⟨u1, u2, rfl, r1, r2⟩ := vals2 r
  obtain rfl : u1 = Value.ref a := r1
  obtain rfl : u2 = Value.ref tp := r2
  obtain ⟨o, J⟩ := inst_at I.hok ea
  obtain ⟨_, its, rv, ot, g1, g2, n, g3⟩ := (show ObjOk X.prog X.w G z.heap tp (.tup cs) from I.hok tp _ et)
  obtain rfl := ClsV.all hk rv
  obtain ⟨oc, od, dt, sl⟩ := ot
  dsimp only at g2 g3
  subst g2 g3
  exact PySem.W.kia_tup (PySem.W.handS_kitx_exc C.hg C.hk C.hs C.hd C.ha C.hn C.ht C.hm) I.kIn J g1 e (fun q => nomatch q) fun tk => ⟨.bl b, G, I.tok tk, rfl, q⟩
end Kept
/-! ### a lambda without parameters that captures names, handed to a def: all but its table stays -/
structure LamD (Pt : Addr) (q : Str) (H H' : Hp) : Prop where
  kp : ∀ b o, b ≠ Pt → H b = some o → H' b = some o
  free : ∀ b, H' b = none → H b = none
  tab : LamX.TabS H' Pt q
abbrev capO (X : Cx) (prm : Arguments) (bd : Expr) (sco : Scope) (pm : Value) (cc : Addr) (ctv : Value) : Obj :=
  PySem.W.kla_obj "<lambda>" (X.env.qual ++ "<lambda>") prm bd sco (cloFrom X.env.cells sco.names []) pm cc ctv
theorem cap_new {X : Cx} {pins : List (Addr × Obj)} {τ : L2.St} {G : Hp} {z : Shared} {cA Pt : Addr} {prm : Arguments} {bd : Expr} {sco : Scope} {at_ : Pos} {E W : Value → Shared → Prop} (I : Inv X pins τ G z) (TB : LamX.TabB X.base X.mg cA Pt) (hcode : X.env.code = .ref cA)
    (tab : LamX.TabS G Pt (X.env.qual ++ "<lambda>")) (hdef : defaultsOf prm X.env = ([], [])) (clo : closureFor sco X.env = pure (cloFrom X.env.cells sco.names []))
    (fin : ∀ (f cc : Addr) (pm ctv : Value) (G1 : Hp) (z1 : Shared), Inv X pins τ G1 z1 → LamD Pt (X.env.qual ++ "<lambda>") G G1 → z1.heap.get? f = some (capO X prm bd sco pm cc ctv) → G1 f = none → f ∉ frs X.stack → G1 cc = some (LamX.CodeO cc (X.env.qual ++ "<lambda>")) → W (.ref f) z1) :
    wpAny (model X.prog X.w) X.A (eval (.Lambda prm bd sco at_) X.env) W E z := by
  obtain ⟨ws, gP, tri, known⟩ := tab
  have atP : z.heap.get? Pt = some { cls := .none, data := .fields ws } := I.hok Pt _ gP
  have far : ∀ a, z.heap.objs.size ≤ a → a ∉ frs X.stack := fun a ha m => (List.mem_cons.mp (I.stkSub a m)).elim (fun e => absurd I.lt (by rw [← e]; exact Nat.not_lt.mpr ha)) (I.nofs ha)
  refine PySem.W.kla_eval hdef ?_
  rcases hc : codeAmong at_ ws.toList with _ | cv
  · refine PySem.W.kla_makeFunction (mg := X.mg) (c := cA) (P := Pt) (ps := ws) clo I.ok.glob (I.mod.glob.keeps I.bk) hcode (TB.code.keeps I.bk) atP tri hc TB.gP (TB.bm.keeps I.bk) ?_
    rintro cc ctv hn tk ext ge lt ⟨c2, oc, us, t, e2, hoc, hdat, hus⟩ htb
    obtain rfl : cc = c2 := Value.ref.inj e2
    have up : z.heap.objs.size ≤ hn.objs.size := Nat.le_trans ge (Nat.le_of_lt lt)
    have nC : G cc = none := I.hok.fresh ge
    have nPc : Pt ≠ cc := ne_of_none gP nC
    have J := LamX.inv_table (t' := tk) (more := #[rawInt at_.line, rawInt at_.col, .ref cc]) (h' := hn.push (capO X prm bd sco ((X.mg "__name__").getD .none) cc ctv)) I gP (fun b o ne e => Heap.get?_push_of_some _ (ext b o ne e)) (Heap.get?_push_of_some _ htb) ge ⟨oc, us, t, Heap.get?_push_of_some _ hoc, hdat, hus⟩
    have keep : ∀ b o, b ≠ Pt → G b = some o → (upd (upd G Pt (.tbl (ws ++ #[rawInt at_.line, rawInt at_.col, .ref cc]))) cc (LamX.CodeO cc (X.env.qual ++ "<lambda>"))) b = some o := fun b o ne e => by
      rw [upd_ne (ne_of_none e nC), upd_ne ne]
      exact e
    have lst : (ws ++ #[rawInt at_.line, rawInt at_.col, .ref cc]).toList = ws.toList ++ [rawInt at_.line, rawInt at_.col, .ref cc] := by simp
    refine fin hn.objs.size cc ((X.mg "__name__").getD .none) ctv _ _ J ⟨keep, fun b e => ?_, _, by rw [upd_ne nPc, upd_same], by rw [lst]; exact PySem.TriplesOk_snoc _ _ _ _ tri, fun p2 cv' e => ?_⟩ (Heap.get?_push_size _ rfl) ?_ (far _ up) upd_same
    · by_cases y1 : b = cc
      · rw [y1]
        exact nC
      · by_cases y2 : b = Pt
        · rw [upd_ne y1, y2, upd_same] at e
          cases e
        · rw [upd_ne y1, upd_ne y2] at e
          exact e
    · rw [lst] at e
      rcases LamX.among_app _ tri e with y | y
      · obtain ⟨c0, z1, z2⟩ := known p2 cv' y
        exact ⟨c0, z1, keep _ _ (fun y => LamX.codeO_ne ws (Option.some.inj (z2.symm.trans (by rw [y]; exact gP)))) z2⟩
      · exact ⟨cc, y, upd_same⟩
    · rw [upd_ne (Nat.ne_of_gt lt), upd_ne (Nat.ne_of_gt (Nat.lt_of_lt_of_le (Heap.lt_size atP) up))]
      exact I.hok.fresh up
  · obtain ⟨cc, rfl, hco⟩ := known at_ cv hc
    refine PySem.W.kla_makeFunctionHit (mg := X.mg) (c := cA) (P := Pt) (ps := ws) clo I.ok.glob (I.mod.glob.keeps I.bk) hcode (TB.code.keeps I.bk) atP tri hc (TB.bm.keeps I.bk) ?_
    rintro ctv hn tk ext up
    have J : Inv X pins τ G { z with heap := hn.push (capO X prm bd sco ((X.mg "__name__").getD .none) cc ctv), toks := tk } := I.kept fun b o e => Heap.get?_push_of_some _ (ext b o e)
    exact fin hn.objs.size cc ((X.mg "__name__").getD .none) ctv G _ J ⟨fun _ _ _ e => e, fun _ e => e, ws, gP, tri, known⟩ (Heap.get?_push_size _ rfl) (I.hok.fresh up) (far _ up) hco
def tCap (Pt : Addr) (q : Str) (TT : (XK → Hp → VK → Prop) → Hp → VK → Prop) (t : XK → TE) : TE := fun τ G W => LamX.TabS G Pt q ∧ ∀ G1, LamD Pt q G G1 → TT (fun E G2 W2 => t E τ G2 W2) G1 W
/-- x(lambda: bd) -/
theorem pe_capcall {X : Cx} {TT : (XK → Hp → VK → Prop) → Hp → VK → Prop} {x a : Str} {g cA Pt : Addr} {k : Nat} {pg : Arguments} {bg : List Stmt} {sg : Scope} {dV kV doc pm cdv ct oc : Value} {an od : Option Addr} {osl : Array (Option Value)} {Ng : List Str}
    {prm : Arguments} {bd : Expr} {sco : Scope} {t : XK → TE} {p1 p2 pos : Pos} (hg : Gl X x) (hm : X.mg x = some (.ref g)) (hk : PySem.W.keepIn X.K (.ref g) = true)
    (lk : X.K.lookup g = some ⟨oc, od, .func (PySem.W.fnOf x x pg bg sg dV kV doc pm an cdv ct), osl⟩) (hcg : PySem.W.codeIn X.K cdv x = true) (hb : Binds X.K (PySem.W.fnOf x x pg bg sg dV kV doc pm an cdv ct) [a] []) (Sg : FnScope Ng [a] sg) (hNg : Ng[0]? = some a) (hva : Vis sg a)
    (give : LamX.GivesTo X Ng x sg g cdv bg a (X.env.qual ++ "<lambda>") TT) (TB : LamX.TabB X.base X.mg cA Pt) (hcode : X.env.code = .ref cA) (hr : Room (k + 2) X.A) (L : LamX.LamS X.env.scope sco) (hdef : defaultsOf prm X.env = ([], []))
    (hbind : ∀ (q : Str) (cl : List (Str × Addr)) (pm cv ctv : Value), bindArgs (PySem.W.kla_fn "<lambda>" q prm bd sco cl pm cv ctv) ⟨[], []⟩ = pure [])
    (hbody : ∀ (A : Around) (outer : List Env) (z : Shared) (G : Hp) (E : XK) (f cc : Addr), Room k (A.deeper (LamX.lamEnv X sco z.heap.objs.size f cc)) → PE (LamX.lamCx X A outer z G E sco f cc) bd (t E))
    (d1 : (x == ("__debug__" : Str)) = false := by decide) (d2 : (a == ("__debug__" : Str)) = false := by decide) (d3 : (a == ("__classdict__" : Str)) = false := by decide) :
    PE X (.Call (.Name x p1) [.Lambda prm bd sco p2] [] pos) (tCap Pt (X.env.qual ++ "<lambda>") TT t) := by
  constructor
  rintro pins z τ G W I ⟨tab, h⟩
  refine wpAny_Call_Name_kw (ld_glob I hg hm ?_ d1)
  refine PySem.W.callWith_K (h₀ := X.base) I.ok.mod.kin hk ?_ (by rfl) (by rfl)
  show wpAny _ _ (spliced ((false, eval (.Lambda prm bd sco p2) X.env) :: backTo pos (starEach [] X.env))) _ _ z
  have hfree := LamX.LamS.has L I.ok
  refine Calls.spliced_cons (cap_new I TB hcode tab hdef (closure_ok hfree) fun f cc pm' ctv G1 z1 J D hf hfn hfr hco => ?_)
  refine Calls.spliced_nil ⟨J.kIn, ?_⟩
  have ran : codeAny (model X.prog X.w) X.A (.call (.ref g) ⟨[.ref f], []⟩) (CR C8.CX0 X.stack X.prog X.w G1 z1 W C8.E0) z1 :=
    LamX.run_ofS (N := Ng) (ps := [a]) (us := [.ref f]) (vs := [.ref f]) lk hcg Sg hr J.env0 (hb z1 [.ref f] J.kIn rfl) (.cons rfl .nil) rfl fun hr' => by
      obtain ⟨t', w1, w2⟩ := give f cc z1 G1 W (fun E G2 W2 => t E τ G2 W2) (fun WW pn xe E p3 p4 tk hW => LamX.pe_act (i := 0) J L hf hfn hfr (hbind _ _ _ _ _) tk hW hr' (fun A outer z G hr2 => hbody A outer z G E f cc hr2) hNg hva d2 d3) hco (h G1 D)
      exact ⟨t', w1.nox, w2⟩
  refine wpAny_call (codeAny_mono ran fun r z2 hq => ?_)
  cases r with
  | error e => exact (show False from hq).elim
  | ok fl =>
    cases fl with
    | ret u => exact J.after hq
    | next | brk | cont => exact False.elim hq
/-! ### parts of tuples, tuples one behind the other -/
theorem cut_head {xs : List V} {k : Nat} : cutV xs none (some (k : Int)) = xs.take k := by
  unfold cutV
  rw [HT.sIx_nat]
  show (xs.drop 0).take (min k xs.length - 0) = _
  rw [List.drop_zero, Nat.sub_zero, ← List.take_eq_take_min]
theorem cut_tail {xs : List V} {k : Nat} : cutV xs (some (k : Int)) none = xs.drop k := by
  unfold cutV
  rw [HT.sIx_nat, HT.sIx_none]
  by_cases h : k ≤ xs.length
  · rw [Nat.min_eq_left h, List.take_of_length_le (by rw [List.length_drop]; exact Nat.le_refl _)]
  · rw [Nat.min_eq_right (by omega), List.drop_of_length_le (by omega), List.drop_of_length_le (by omega), List.take_nil]
/-- a part of a tuple, made or the same -/
def rSlS : V → Option Int → Option Int → Hp → VK → Prop := fun x lo hi H Q => ∃ (a : Addr) (xs : List V), x = .ref a ∧ H a = some (.tup xs) ∧ ∀ (b : Addr) (H' : Hp), Same H H' → H' b = some (.tup (cutV xs lo hi)) → Q (.ref b) H'
theorem sl_S {X : Cx} : SlR X rSlS := by
  rintro pins s σ H x v vl vu lo hi sl Q I rx hs pl pu ⟨a, xs, rfl, ha, q⟩
  refine sl_tupA pins s σ H _ v vl vu _ _ sl Q I rx hs pl pu ⟨a, xs, rfl, SqT.of ha, fun z => q a H (fun _ _ e => e) ?_, fun _ p np => q p _ (same_new np) upd_same⟩
  rw [ha]
  unfold cutV
  rw [z.1, z.2, List.drop_zero, Nat.sub_zero, List.take_length]
/-- tuples one behind the other -/
theorem op_catS {X : Cx} : OpR X (binaryOp .Add) (fun x y H Q => ∃ (a b : Addr) (xs ys : List V), x = .ref a ∧ y = .ref b ∧ H a = some (.tup xs) ∧ H b = some (.tup ys) ∧ xs ≠ [] ∧ xs.length + ys.length ≤ sizeLine ∧
    ∀ (t : Addr) (H' : Hp), Same H H' → H' t = some (.tup (xs ++ ys)) → Q (.ref t) H') := by
  rintro pins s σ H x y v u Q I rx ry ⟨a, b, xs, ys, rfl, rfl, ha, hb, ne, hz, q⟩
  refine op_catT pins s σ H _ _ v u Q I rx ry ⟨a, b, xs, ys, rfl, rfl, SqT.of ha, SqT.of hb, ne, hz, fun z => q a H (fun _ _ e => e) ?_, fun _ p np => q p _ (same_new np) upd_same⟩
  rw [ha, z, List.append_nil]
theorem vals_len_e (e : Ent) : 5 ≤ e.vals.length ∧ e.vals.length ≤ 7 := by cases e <;> simp [Ent.vals, Ent.rest]
/-! ### a text and whatever thing, compared; the place of a tuple in a tuple -/
namespace EqT
/-- a thing: data, or a dict -/
def Tng (K : PySem.W.Frag) (G : Hp) (y : V) : Prop := (∃ d, Dp K G y d ∧ SeqAt.shaped d = true) ∨ ∃ a kvs, y = V.ref a ∧ G a = some (.dK kvs)
theorem eqv_txt {K : PySem.W.Frag} {G : Hp} {y : V} {d : PyData} {s : Str} (h : Dp K G y d) : PyData.eqv (.str s) d = decide (y = V.str s) := by
  cases h with
  | str x =>
    by_cases z : x = s
    · subst z
      rw [decide_eq_true rfl]
      show (x == x) = true
      simp
    · rw [decide_eq_false fun q => z (V.str.inj q)]
      show (s == x) = false
      exact beq_eq_false_iff_ne.mpr (Ne.symm z)
  | non => exact (decide_eq_false fun q => nomatch q).symm
  | bl b => exact (decide_eq_false fun q => nomatch q).symm
  | int i => exact (decide_eq_false fun q => nomatch q).symm
  | lst _ _ => exact (decide_eq_false fun q => nomatch q).symm
  | tup _ _ => exact (decide_eq_false fun q => nomatch q).symm
open PySem PySem.Spec in
theorem no_str (t : Str) (u : Tok) (l : Addr) (es : Array DictEntry) (n : Nat) (od : Option Addr) (sl : Array (Option Value)) :
    Meets (Builtin.«str.__eq__» ⟨[.str t u, .ref l], []⟩) (fun _ R z => z.heap.get? l = some ⟨.type "dict", od, .dict es n, sl⟩ ∧ R (.ok (.ret .notImplemented)) z) := by
  refine .of_wp fun prog w A R z h => ?_
  obtain ⟨hp, g, d, tk, os⟩ := z
  obtain ⟨hl, h⟩ := h
  wp_walk using wpAny_loadPart' hl, wpAny_load hl
  exact ⟨_, rfl, h⟩
theorem no_dict (t : Str) (u : Tok) (l : Addr) (es : Array DictEntry) (n : Nat) (od : Option Addr) (sl : Array (Option Value)) :
    Meets (Builtin.«dict.__eq__» ⟨[.ref l, .str t u], []⟩) (fun _ R z => z.heap.get? l = some ⟨.type "dict", od, .dict es n, sl⟩ ∧ R (.ok (.ret .notImplemented)) z) := by
  refine .of_wp fun prog w A R z h => ?_
  obtain ⟨hp, g, d, tk, os⟩ := z
  obtain ⟨hl, h⟩ := h
  have f1 := F.sub_str_dict
  wp_walk using wpAny_loadPart' hl, wpAny_load hl
  exact ⟨_, rfl, h⟩
theorem txt_dict {prog : Program} {w : World} {A : Around} {E : Value → Shared → Prop} {z : Shared} {Q : Value → Shared → Prop} {t : Str} {u : Tok} {l : Addr} {es : Array DictEntry} {n : Nat} {od : Option Addr} {sl : Array (Option Value)} (ho : z.heap.get? l = some ⟨.type "dict", od, .dict es n, sl⟩) (hu : A.units < cLine) (h : Q (.bool false) z) :
    wpAny (model prog w) A (compareOp .Eq (.str t u) (.ref l)) Q E z := by
  exact SeqAt.rc_eq_decline_or (k := false) (typeIs_str z t u) ⟨_, ho, rfl⟩ (by decide) F.sub_dict_str F.slot_str_eq F.slot_dict_eq_refl
    (fun _ hq => call_meets F.slot_str_eq (typeIs_str z t u) F.entry_str_eq (F.args_str_eq_2 _ _) (no_str t u l es n od sl) ⟨ho, hq⟩)
    (fun _ hq => call_meets F.slot_dict_eq_refl ⟨_, ho, rfl⟩ F.entry_dict_eq (F.args_dict_eq_2 _ _) (no_dict t u l es n od sl) ⟨ho, hq⟩)
    (fun _ hq => wpAny_of_eq (rfl : isSame (.str t u) (.ref l) = pure false) hq) (.inr hu) h
theorem op_eqT {X : Cx} (hu : X.A.units + 64 < cLine) : OpR X (compareOp .Eq) (fun x y G W => ∃ s, x = V.str s ∧ PyData.strOk s = true ∧ Tng X.K G y ∧ W (V.bl (decide (y = V.str s))) G) := by
  rintro pins z τ G x y v u W I rx ry ⟨s, rfl, so, th, q⟩
  obtain ⟨t, rfl⟩ : ∃ t, v = Value.str s t := rx
  rcases th with ⟨d, hd, sd⟩ | ⟨a, kvs, rfl, ha⟩
  · obtain ⟨as, r2⟩ := Dp.reads I d y u hd ry
    rw [← eqv_txt hd] at q
    exact SeqAt.compareEq_shaped (Reads.str s t) r2 (by simp [SeqAt.shaped, PyData.canLay0, PyData.depth, so]) sd hu ⟨.bl _, G, I, rfl, q⟩
  · obtain rfl : u = Value.ref a := ry
    obtain ⟨_, _, vs, _, o, es, ep, h1, h2, h3, _⟩ := (show ObjOk X.prog X.w G z.heap a (.dK kvs) from I.hok a _ ha)
    rw [decide_eq_false fun q => nomatch q] at q
    obtain ⟨oc, od, dt, sl⟩ := o
    have z1 := h2.1
    dsimp only at z1 h3
    subst z1 h3
    exact txt_dict h1 (by omega) ⟨.bl false, G, I, rfl, q⟩
/-- t.index(x), t and x data -/
def rIxD (K : PySem.W.Frag) : V → List V → Hp → VK → Prop := fun x xs G W => ∃ (a : Addr) (y : V) (d : PyData) (ds : List PyData) (j : Nat), x = V.ref a ∧ xs = [y] ∧ Dp K G (V.ref a) (.tuple ds) ∧ Dp K G y d ∧ SeqAt.shaped (.tuple ds) = true ∧ SeqAt.shaped d = true ∧
  (∃ e, ds[j]? = some e ∧ PyData.eqv e d = true) ∧ (∀ (m : Nat) (e : PyData), m < j → ds[m]? = some e → PyData.eqv e d = false) ∧ W (V.int (j : Nat)) G
theorem mt_ixD {X : Cx} (hu : X.A.units + 65 < cLine) : MtR X "tuple.index" (rIxD X.K) := by
  rintro pins z τ G x xs v us W I rx rxs ⟨a, y, d, ds, j, rfl, rfl, dt, dy, st, sy, ⟨e, he, hit⟩, miss, q⟩
  cases rx
  cases rxs with
  | cons ry rt =>
    rename_i uy ut
    cases rt
    obtain ⟨bs, r1⟩ := Dp.reads I d y uy dy ry
    have lay : PyData.canLayAll0 ds = true := SeqAt.canLay_of_shaped st
    have rm : X.A.units + 1 + min (PyData.depthAll ds) d.depth < cLine := room_in_shaped sy hu
    cases dt with
    | tup hs ha =>
      obtain ⟨its, rv, ⟨⟨oc, od, dt, sl⟩, ho, hc, n, hd⟩, hz⟩ := I.tuple hs
      simp only at hc hd
      subst hc hd
      obtain ⟨as, ra⟩ := Dp.readsAll I ds _ its ha rv
      have ln : its.length = ds.length := SeqAt.ReadsAll.length ds its as ra
      have mp : its.map (SeqAt.readOf z.heap) = ds := SeqAt.readsAll_map ds its as lay ra
      have lt : j < its.toArray.size := by
        have := (List.getElem?_eq_some_iff.mp he).1
        simp only [List.size_toArray]
        omega
      have rd : ∀ (m : Nat) (hm : m < its.toArray.size) (e' : PyData), ds[m]? = some e' → SeqAt.readOf z.heap its.toArray[m] = e' := by
        intro m hm e' h'
        have hml : m < its.length := by simpa using hm
        rw [← mp, List.getElem?_map, List.getElem?_eq_getElem hml] at h'
        have := Option.some.inj (show some (SeqAt.readOf z.heap its[m]) = some e' from h')
        simpa using this
      refine call_meets PySem.F.slot_tuple_index ⟨_, ho, rfl⟩ PySem.F.entry_tuple_index (PySem.F.args_tuple_index_2 _ _)
        (TI.tuple_indexAt a its.toArray n od sl uy (fun u => PyData.eqv (SeqAt.readOf z.heap u) d) j lt ?_ ?_) ⟨ho, SeqAt.items_eqAt (vs := its.toArray) (show ReadsAll z.heap its.toArray.toList ds as from ra) r1 lay (SeqAt.canLay_of_shaped sy) rm, ⟨.int (j : Nat), G, I.tok _, ⟨_, rfl⟩, q⟩⟩
      · show PyData.eqv (SeqAt.readOf z.heap its.toArray[j]) d = true
        rw [rd j lt e he]
        exact hit
      · intro m hm hmj
        have hmd : m < ds.length := by
          have := (List.getElem?_eq_some_iff.mp he).1
          omega
        show PyData.eqv (SeqAt.readOf z.heap its.toArray[m]) d = false
        rw [rd m hm _ (List.getElem?_eq_getElem hmd)]
        exact miss m _ hmj (List.getElem?_eq_getElem hmd)
end EqT
/-! ### entries of what isn't there -/
def PartS (v : V) : Prop := (∃ z : Str, v = .str z ∧ z.length ≤ 60 ∧ PyData.strOk z = true) ∨ ∃ i : Int, v = .int i ∧ i.natAbs < 10 ^ 12
/-- an entry that is none of these places and goods -/
def Stray (H : Hp) (a : Addr) (P G : List Str) : Prop := ∃ e : Ent, H a = some (.tup e.vals) ∧ (∀ P' G' : List Str, (∀ y, y ∈ P' ↔ y ∈ P) → (∀ y, y ∈ G' ↔ y ∈ G) → ofB e P' G' = false) ∧ ∀ v ∈ e.vals, PartS v
def spStray : Sp := fun vs H Q _ => ∃ (p c lp lg ls : Addr) (n : Nat) (nm far kind : Str) (P G : List Str), vs = [.ref p, .str nm, .ref lp, .ref lg, .ref ls] ∧ PenAt H p c n ∧ n ≤ 90000 ∧ StrsAt H lp P ∧ StrsAt H lg G ∧ H ls = some (.tup [.str far, .str kind]) ∧
  P ≠ [] ∧ G ≠ [] ∧ P.length ≤ 31 ∧ G.length ≤ 31 ∧ far ∉ P ∧ kind ∉ G ∧ nameB nm = true ∧ nameB far = true ∧ nameB kind = true ∧ (∀ y ∈ P, nameB y = true) ∧ (∀ y ∈ G, nameB y = true) ∧
  ∀ (a : Addr) (H' : Hp), Stray H' a P G → PenAt H' p c (n + 3) → But p H H' → Q (.ref a) H'
/-! ### what a pen keeps -/
theorem pen_keep {H H' : Hp} {p c a : Addr} {n : Nat} (pen : PenAt H p c n) (bt : But p H H') {xs : List V} (h : H a = some (.tup xs)) : H' a = some (.tup xs) := bt _ _ h fun w => by
  obtain ⟨kvs, ns, a, l, e, _⟩ := pen.ex
  rw [w, e] at h
  exact nomatch h
theorem pen_keepL {H H' : Hp} {p c a : Addr} {n : Nat} (pen : PenAt H p c n) (bt : But p H H') {xs : List V} (h : H a = some (.lst xs)) : H' a = some (.lst xs) := bt _ _ h fun w => by
  obtain ⟨kvs, ns, a, l, e, _⟩ := pen.ex
  rw [w, e] at h
  exact nomatch h
theorem new_keep {H H1 H2 : Hp} {p c a : Addr} {n : Nat} (pen : PenAt H p c n) (s : Same H H1) (bt : But p H1 H2) (h0 : H a = none) {o : HO} (h : H1 a = some o) : H2 a = some o := bt _ _ h fun w => pen.there (w ▸ h0)
/-! ### an entry with a bool in a number's place -/
theorem op_catW {X : Cx} : OpR X (binaryOp .Add) (fun x y H Q => ∃ (a b : Addr) (xs ys : List V), x = .ref a ∧ y = .ref b ∧ H a = some (.tup xs) ∧ H b = some (.tup ys) ∧ xs.length + ys.length ≤ 30 ∧
    ∀ (t : Addr) (H' : Hp), Same H H' → H' t = some (.tup (xs ++ ys)) → Q (.ref t) H') := by
  rintro pins s σ H x y v u Q I rx ry ⟨a, b, xs, ys, rfl, rfl, ha, hb, hz, q⟩
  refine op_catA pins s σ H _ _ v u Q I rx ry ⟨a, b, xs, ys, rfl, rfl, SqT.of ha, SqT.of hb, Nat.le_of_lt (small1000 (by omega)), fun z => q b H (fun _ _ e => e) ?_, fun _ z => q a H (fun _ _ e => e) ?_, fun _ _ p np => q p _ (same_new np) upd_same⟩
  · rw [hb, z]
    rfl
  · rw [ha, z, List.append_nil]
def dB : V → PyData
  | .str z => .str z
  | .int i => .int i
  | .bl b => .bool b
  | _ => .none
def PartB (v : V) : Prop := PartS v ∨ ∃ b, v = .bl b
theorem lay_B : ∀ {us : List V}, (∀ u ∈ us, PartB u) → PyData.canLayAll0 (us.map dB) = true
  | [], _ => rfl
  | u :: us, h => by
    have ih := lay_B fun x hx => h x (List.mem_cons_of_mem _ hx)
    rw [List.map_cons, PyData.canLayAll0, ih]
    rcases h u List.mem_cons_self with h | ⟨b, rfl⟩
    · rcases h with ⟨z, rfl, _, ok⟩ | ⟨i, rfl, _⟩
      · show ((PyData.str z).canLay0 && true) = true
        rw [PyData.canLay0, ok]
        rfl
      · show ((PyData.int i).canLay0 && true) = true
        simp [PyData.canLay0]
    · show ((PyData.bool b).canLay0 && true) = true
      simp [PyData.canLay0]
theorem deep_B : ∀ {us : List V}, (∀ u ∈ us, PartB u) → PyData.depthAll (us.map dB) = 0
  | [], _ => rfl
  | u :: us, h => by
    have ih := deep_B fun x hx => h x (List.mem_cons_of_mem _ hx)
    rw [List.map_cons, PyData.depthAll, ih]
    rcases h u List.mem_cons_self with h | ⟨b, rfl⟩
    · rcases h with ⟨z, rfl, _, ok⟩ | ⟨i, rfl, _⟩ <;> simp [dB, PyData.depth]
    · simp [dB, PyData.depth]
theorem dp_B {K : PySem.W.Frag} {H : Hp} : ∀ {us : List V}, (∀ u ∈ us, PartB u) → DpAll K H us (us.map dB)
  | [], _ => .nil
  | u :: us, h => by
    refine .cons ?_ (dp_B fun x hx => h x (List.mem_cons_of_mem _ hx))
    rcases h u List.mem_cons_self with h | ⟨b, rfl⟩
    · rcases h with ⟨z, rfl, _, ok⟩ | ⟨i, rfl, _⟩
      · exact .str z
      · exact .int i
    · exact .bl b
/-- a tuple that holds a bool, texts and numbers -/
def TwinAt (H : Hp) (a : Addr) (us : List V) : Prop := H a = some (.tup us) ∧ us.length ≤ 20 ∧ (∀ u ∈ us, PartB u) ∧ ∃ b, V.bl b ∈ us
def TwL (H : Hp) (as : List (Addr × List V)) : Prop := ∀ x ∈ as, TwinAt H x.1 x.2
theorem TwL.dp {K : PySem.W.Frag} {H : Hp} : ∀ {as : List (Addr × List V)}, TwL H as → DpAll K H (as.map fun x => V.ref x.1) (as.map fun x => .tuple (x.2.map dB)) ∧ PyData.canLayAll0 (as.map fun x => PyData.tuple (x.2.map dB)) = true ∧ PyData.depthAll (as.map fun x => PyData.tuple (x.2.map dB)) ≤ 1
  | [], _ => ⟨.nil, rfl, Nat.zero_le _⟩
  | x :: as, h => by
    obtain ⟨h1, _, h2, _⟩ := h x List.mem_cons_self
    obtain ⟨i1, i2, i3⟩ := TwL.dp (K := K) fun y hy => h y (List.mem_cons_of_mem _ hy)
    refine ⟨.cons (.tup (SqT.of h1) (dp_B h2)) i1, ?_, ?_⟩
    · rw [List.map_cons, PyData.canLayAll0, i2, PyData.canLay0, lay_B h2]
      rfl
    · rw [List.map_cons, PyData.depthAll, PyData.depth, deep_B h2]
      exact Nat.max_le.mpr ⟨by decide, i3⟩
theorem eqv_nilL (ds : List PyData) : PyData.eqv (.list ds) (.list []) = decide (ds = []) := by
  cases ds with
  | nil => simp [PyData.eqv, PyData.eqvAll]
  | cons y r => simp [PyData.eqv, PyData.eqvAll]
def spTwin : Sp := fun vs H Q _ => ∃ (p c l : Addr) (n : Nat) (ps : List (Addr × Ent)), vs = [.ref p, .ref l] ∧ PenAt H p c n ∧ n ≤ 90000 ∧ H l = some (.tup (ps.map fun x => V.ref x.1)) ∧ (∀ x ∈ ps, H x.1 = some (.tup x.2.vals) ∧ ∀ v ∈ x.2.vals, PartS v) ∧ ps.length ≤ 31 ∧
  ∀ (v : V) (H' : Hp), (v = .non ∨ ∃ a us, v = .ref a ∧ TwinAt H' a us) → PenAt H' p c (n + 1) → But p H H' → Q v H'
section
variable {P : Program} {w : World} {K : PySem.W.Frag} {mg : Str → Option Value} {base : Heap}
abbrev sTwinN : List Str := ["_law_pen_here", "_law_entries", "_law_some", "_law_entry_here", "_law_at"]
theorem sc_sTwin : FnScope sTwinN ["_law_pen_here", "_law_entries"] (defScope sTwin) := ⟨rfl, rfl, rfl, by decide +kernel, rfl, by decide +kernel, by decide +kernel⟩
set_option maxHeartbeats 4000000 in
theorem ok_twin {f fT : Addr} {fd dT : FuncData} (F : Fun K "_law_twin" "_law_twin" sTwin f fd) (T : TakeT P w K mg base fT dT) (ml : mg "len" = none) (mr : mg "range" = none) (mis : mg "isinstance" = none) (mT_int : mg "int" = none) : FnOk P w K mg base CX0 2 f fd ["_law_pen_here", "_law_entries"] spTwin := by
  refine F.ok sc_sTwin (fun vs H Q E h => ?_) (fun cdv A outer s H vs Q E hr h => ?_)
  · obtain ⟨p, c, l, n, ps, rfl, _⟩ := h
    rfl
  · obtain ⟨p, c, l, n, ps, rfl, pen, hn, hl, hE, l31, q⟩ := h
    have hr1 : Room 1 _ := hr.mono (by decide)
    have nd := sc_sTwin.nd
    refine ⟨_, pss_cons (ps_set (i := 2) nd rfl (Or.inl rfl) (pe_lst pa_nil))
      (pss_cons (ps_for PassesOwn.never rfl (pi_tup (pv 1)) (pg_name (i := 3) nd rfl (Or.inl rfl))
        (pss_one (ps_for PassesOwn.never rfl (pi_range2 rfl mr (pa_cons pe_int (pa_cons (pe_callB call_len_seq (by rfl) ml PySem.boot_len (pa_cons (pv 3) pa_nil)) pa_nil))) (pg_name (i := 4) nd rfl (Or.inl rfl))
          (pss_one (ps_if (PW.pt (pw_and (pt_val (pe_callB call_isi (by rfl) mis (by decide +kernel) (pa_cons (pe_ix ix_tup (pv 3) (pv 4) (fun _ _ => rfl)) (pa_cons (pe_bltn (v := .ty "int") (u := .type "int") (by rfl) mT_int (by decide +kernel) rfl) pa_nil)))) (pw_and1 (pt_cmpR op_in_seq (pe_ix ix_tup (pv 3) (pv 4) (fun _ _ => rfl)) (pe_tup (pa_cons pe_int (pa_cons pe_int pa_nil))) (by rfl))))) (pss_one (ps_expr (pe_bm PySem.F.plainAttrs_list PySem.F.slot_list_append PySem.F.type_list_append mt_append (pv 2) (pa_cons (pe_op op_catW (pe_op op_catW (pe_slice sl_S (pv 3) po_none (po_some (pv 4))) (pe_tup (pa_cons (pe_cmpR op_eq (pe_ix ix_tup (pv 3) (pv 4) (fun _ _ => rfl)) pe_int (nomark _)) pa_nil))) (pe_slice sl_S (pv 3) (po_some (pe_op op_add (pv 4) pe_int)) po_none)) pa_nil)))) pss_nil)))))
      (pss_cons (ps_if (pt_cmpR (op_eqD hr.units) (pv 2) (pe_lst pa_nil) (nomark _)) (pss_one (ps_ret pe_non)) pss_nil)
      (pss_one (ps_ret (pe_ix ix_list (pv 2) (pe_call T.ok hr (by rfl) T.g T.kp T.b .nil pass0 (pa_cons (pv 0) (pa_cons (pe_callB call_len_seq (by rfl) ml PySem.boot_len (pa_cons (pv 2) pa_nil)) pa_nil))) (fun _ _ => rfl)))))), ?_⟩
    refine ⟨Nat.zero_le _, fun D nD => ?_⟩
    have sD := @same_new _ _ (.lst []) nD
    have eD := @upd_same H D (.lst [])
    generalize upd H D (.lst []) = H1 at sD eD ⊢
    refine ⟨_, rfl, l, rfl, ⟨_, SqT.of (sD _ _ hl)⟩, for_tup (K := K) (a := l) (xs := ps.map fun x => V.ref x.1) (fun i σ H' => ∃ y3 y4 as, σ = [some (.ref p), some (.ref l), some (.ref D), y3, y4] ∧ Same H H' ∧ H' D = some (.lst (List.map (fun x : Addr × List V => V.ref x.1) as)) ∧ TwL H' as ∧ as.length ≤ i * 7) ⟨_, _, [], rfl, sD, eD, (fun x hx => nomatch hx), Nat.zero_le _⟩ (fun i σ H' _ h => ?_) ?_ ?_⟩
    · obtain ⟨_, _, _, _, s, _⟩ := h
      exact SqT.of (s _ _ hl)
    · rintro i x σ H2 hx ⟨y3, y4, as, rfl, s2, hD2, tw2, la⟩
      rw [List.getElem?_map] at hx
      obtain ⟨e, hy, rfl⟩ := Option.map_eq_some_iff.mp hx
      have me := List.mem_of_getElem? hy
      obtain ⟨he, pe⟩ := hE e me
      have l7 := vals_len_e e.2
      have lx : i < 31 := by
        have := (List.getElem?_eq_some_iff.mp hy).1
        omega
      have sq : ∀ {G : Hp}, Same H G → SqT K G e.1 e.2.vals := fun s => SqT.of (s _ _ he)
      have vl : ((e.2.vals.length : Int) - 2).toNat ≤ 5 := by omega
      refine ⟨_, rfl, e.1, _, rfl, .inr (sq s2), 2, (e.2.vals.length : Int), rfl, ⟨by decide, by decide, by omega, by omega⟩, for_range (lo := 2) (n := ((e.2.vals.length : Int) - 2).toNat) (fun j σ H' => ∃ y4 as, σ = [some (.ref p), some (.ref l), some (.ref D), some (.ref e.1), y4] ∧ Same H H' ∧ H' D = some (.lst (List.map (fun x : Addr × List V => V.ref x.1) as)) ∧ TwL H' as ∧ as.length ≤ i * 7 + j) ⟨_, as, rfl, s2, hD2, tw2, la⟩ ?_ ?_⟩
      · rintro j σ H3 hj ⟨z4, bs, rfl, s3, hD3, tw3, lb⟩
        have lk : 2 + j < e.2.vals.length := by omega
        have hk : e.2.vals[2 + j]? = some (e.2.vals[2 + j]) := List.getElem?_eq_getElem lk
        have at2 : atI e.2.vals (2 + (j : Int)) = some (e.2.vals[2 + j]) := by
          have := atI_nat (j := 2 + j) hk
          rw [show ((2 + j : Nat) : Int) = 2 + (j : Int) by omega] at this
          exact this
        have pk := pe _ (List.mem_of_getElem? hk)
        generalize e.2.vals[2 + j] = v at hk at2 pk
        rcases pk with ⟨z, rfl, _, _⟩ | ⟨x, rfl, hx⟩
        · exact ⟨_, rfl, _, rfl, e.1, _, 2 + (j : Int), _, rfl, rfl, sq s3, at2, _, _, _, _, false, rfl, .ty "int", .base (.str z), kit_ty (by decide +kernel), _, rfl, iteF ⟨_, bs, rfl, s3, hD3, tw3, by omega⟩⟩
        refine ⟨_, rfl, _, rfl, e.1, _, 2 + (j : Int), _, rfl, rfl, sq s3, at2, _, _, _, _, true, rfl, .ty "int", .base (.int x), kit_ty (by decide +kernel), _, rfl, iteT ?_⟩
        refine ⟨_, rfl, _, rfl, e.1, _, 2 + (j : Int), _, rfl, rfl, sq s3, at2, (by show 2 ≤ sizeLine; decide), fun tq ntq => ?_⟩
        have s4 := @same_new _ _ (.tup [V.int 0, .int 1]) ntq
        have e4 := @upd_same H3 tq (.tup [V.int 0, .int 1])
        generalize upd H3 tq (.tup [V.int 0, .int 1]) = H4 at s4 e4 ⊢
        have s34 := s3.trans s4
        have tw4 : TwL H4 bs := fun x hx => ⟨s4 _ _ (tw3 x hx).1, (tw3 x hx).2⟩
        refine ⟨tq, _, rfl, .inr (SqT.of e4), rfl, rfl, _, rfl, ite2 (fun _ => ?_) (fun _ => ?_)⟩
        rotate_left
        · exact ⟨_, bs, rfl, s34, s4 _ _ hD3, tw4, by omega⟩
        refine ⟨_, rfl, .inl ⟨rfl, _, SqL.of (s4 _ _ hD3)⟩, ?_⟩
        refine ⟨_, rfl, _, rfl, 2 + (j : Int), rfl, e.1, _, rfl, s34 _ _ he, fun t5 H5 s5 h5 => ?_⟩
        have s35 := s34.trans s5
        refine ⟨_, rfl, _, rfl, e.1, _, 2 + (j : Int), _, rfl, rfl, sq s35, at2, rfl, (by show 1 ≤ sizeLine; decide), fun t6 nt6 => ?_⟩
        have s6 := @same_new _ _ (.tup [V.bl (decide (V.int x = V.int 1))]) nt6
        have h6 := @upd_same H5 t6 (.tup [V.bl (decide (V.int x = V.int 1))])
        generalize upd H5 t6 (.tup [V.bl (decide (V.int x = V.int 1))]) = H6 at s6 h6 ⊢
        have cl : ∀ {lo hi}, (cutV e.2.vals lo hi).length ≤ 7 := fun {lo hi} => Nat.le_trans (cutV_length _ _ _) l7.2
        refine ⟨t5, t6, _, _, rfl, rfl, s6 _ _ h5, h6, (by have := @cl none (some (2 + (j : Int))); simp only [List.length_cons, List.length_nil]; omega), fun t7 H7 s7 h7 => ?_⟩
        refine ⟨_, rfl, _, rfl, 2 + (j : Int), 1, rfl, rfl, _, rfl, e.1, _, rfl, s7 _ _ (s6 _ _ (s35 _ _ he)), fun t8 H8 s8 h8 => ?_⟩
        refine ⟨t7, t8, _, _, rfl, rfl, s8 _ _ h7, h8, (by have := @cl none (some (2 + (j : Int))); have := @cl (some (2 + (j : Int) + 1)) none; rw [List.length_append]; simp only [List.length_cons, List.length_nil]; omega), fun t9 H9 s9 h9 => ?_⟩
        have s49 := s5.trans (s6.trans (s7.trans (s8.trans s9)))
        have hD9 := s49 _ _ (s4 _ _ hD3)
        have s39 := s34.trans s49
        have ne9 : t9 ≠ D := ne_of h9 hD9 (fun z => nomatch z)
        have sF : Same H (upd H9 D (.lst ((List.map (fun x : Addr × List V => V.ref x.1) bs) ++ [V.ref t9]))) := fun b o eb => by
          rw [upd_ne (fun w => by rw [w, nD] at eb; exact nomatch eb)]
          exact s39 _ _ eb
        refine ⟨D, _, _, rfl, rfl, hD9, (by rw [List.length_map]; exact small1000 (by omega)), ⟨_, bs ++ [(t9, cutV e.2.vals none (some (2 + (j : Int))) ++ [V.bl (decide (V.int x = V.int 1))] ++ cutV e.2.vals (some (2 + (j : Int) + 1)) none)], rfl, sF, ?_, fun x hx => ?_, by rw [List.length_append]; simp only [List.length_cons, List.length_nil]; omega⟩⟩
        · rw [upd_same, List.map_append]
          rfl
        · rcases List.mem_append.mp hx with hx | hx
          · have hx9 := s49 _ _ (tw4 x hx).1
            exact ⟨(upd_ne (ne_of hx9 hD9 (fun z => nomatch z))).trans hx9, (tw4 x hx).2⟩
          · rw [List.mem_singleton.mp hx]
            have cm : ∀ {lo hi}, ∀ u ∈ cutV e.2.vals lo hi, PartB u := fun {lo hi} u hu => .inl (pe u (List.mem_of_mem_drop (List.mem_of_mem_take hu)))
            refine ⟨(upd_ne ne9).trans h9, ?_, fun u hu => ?_, ⟨_, List.mem_append_left _ (List.mem_append_right _ (List.mem_singleton.mpr rfl))⟩⟩
            · have := @cl none (some (2 + (j : Int)))
              have := @cl (some (2 + (j : Int) + 1)) none
              rw [List.length_append, List.length_append]
              simp only [List.length_cons, List.length_nil]
              omega
            · rcases List.mem_append.mp hu with hu | hu
              · rcases List.mem_append.mp hu with hu | hu
                · exact cm u hu
                · rw [List.mem_singleton.mp hu]
                  exact .inr ⟨_, rfl⟩
              · exact cm u hu
      · rintro σ H3 ⟨z4, bs, rfl, s3, hD3, tw3, lb⟩
        exact ⟨_, _, bs, rfl, s3, hD3, tw3, by omega⟩
    · rintro σ H2 ⟨y3, y4, as, rfl, s2, hD2, tw2, la⟩
      have la' : as.length ≤ 217 := by
        rw [List.length_map] at la
        omega
      refine ⟨_, rfl, Nat.zero_le _, fun u3 nu3 => ?_⟩
      have s3 := @same_new _ _ (.lst []) nu3
      have e3 := @upd_same H2 u3 (.lst [])
      generalize upd H2 u3 (.lst []) = H3 at s3 e3 ⊢
      have s23 := s2.trans s3
      have hD3 := s3 _ _ hD2
      have tw3 : TwL H3 as := fun x hx => ⟨s3 _ _ (tw2 x hx).1, (tw2 x hx).2⟩
      obtain ⟨d1, d2, d3⟩ := tw3.dp (K := K)
      refine ⟨_, _, .lst (SqL.of hD3) d1, .lst (SqL.of e3) .nil, ?_, by decide +kernel, ?_⟩
      · unfold SeqAt.shaped
        rw [PyData.canLay0, d2, Bool.true_and]
        refine decide_eq_true ?_
        rw [PyData.depth]
        exact Nat.le_trans (Nat.succ_le_succ d3) (by decide)
      rw [eqv_nilL]
      refine ⟨_, rfl, ite2 (fun _ => ?_) (fun ne => ?_)⟩
      · exact q .non H3 (.inl rfl) ((pen.same s23).mono (by omega)) (.of s23)
      · have na : as ≠ [] := fun z => ne (by rw [z]; exact decide_eq_true rfl)
        have l1 : 1 ≤ as.length := by cases as with | nil => exact absurd rfl na | cons a b => simp
        have pn := pen.same s23
        refine ⟨_, rfl, _, rfl, _, rfl, D, _, rfl, .inl (SqL.of hD3), p, c, n, _, rfl, pn, by omega, (by rw [List.length_map]; omega), (by rw [List.length_map]; omega), fun r H4 a4 b4 pen4 bt4 => ?_⟩
        obtain ⟨v, hv, mv⟩ := at_ex (xs := List.map (fun x : Addr × List V => V.ref x.1) as) a4 b4
        refine ⟨D, _, r, v, rfl, rfl, SqL.of (pen_keepL pn bt4 hD3), hv, ?_⟩
        obtain ⟨x, hx, rfl⟩ := List.mem_map.mp mv
        exact q _ H4 (.inr ⟨x.1, x.2, rfl, pen_keep pn bt4 (tw3 x hx).1, (tw3 x hx).2⟩) pen4 ((But.of s23).tr bt4)
end
/-! ### entries that are none, in a list of entries -/
theorem lay_V : ∀ {us : List V}, (∀ u ∈ us, PartS u) → PyData.canLayAll0 (us.map dV) = true ∧ PyData.depthAll (us.map dV) = 0
  | [], _ => ⟨rfl, rfl⟩
  | u :: us, h => by
    obtain ⟨i1, i2⟩ := lay_V fun x hx => h x (List.mem_cons_of_mem _ hx)
    rw [List.map_cons, PyData.canLayAll0, i1, PyData.depthAll, i2]
    rcases h u List.mem_cons_self with ⟨z, rfl, _, ok⟩ | ⟨i, rfl, _⟩
    · exact ⟨by show ((PyData.str z).canLay0 && true) = true
                rw [PyData.canLay0, ok]
                rfl, by show max (PyData.str z).depth 0 = 0
                        simp [PyData.depth]⟩
    · exact ⟨by show ((PyData.int i).canLay0 && true) = true
                simp [PyData.canLay0], by show max (PyData.int i).depth 0 = 0
                                          simp [PyData.depth]⟩
theorem shaped_ent {e : Ent} (h : ∀ v ∈ e.vals, PartS v) : SeqAt.shaped (entD e) = true := by
  obtain ⟨i1, i2⟩ := lay_V h
  unfold SeqAt.shaped entD
  rw [PyData.canLay0, i1, Bool.true_and, PyData.depth, i2]
  decide
theorem part_thg {H : Hp} {K : PySem.W.Frag} {v : V} (h : PartS v) : Thg H v ∧ ShQ K H v 100 1 := by
  rcases h with ⟨z, rfl, h, ok⟩ | ⟨i, rfl, h⟩
  · exact ⟨.str z (by omega), shq_str (by omega) ok⟩
  · exact ⟨.int i, shq_int (Nat.lt_trans h (by decide))⟩
/-- no entry at all: for any places and goods -/
def NoAny (H : Hp) (v : V) : Prop := ∀ P G : List Str, NoE H P G v
theorem no_sc {H : Hp} {v : V} (t : Thg H v) (n : ∀ a, v ≠ .ref a) : NoAny H v := fun P G => .inl ⟨t, fun a xs e => absurd e (n a)⟩
theorem no_lst {H : Hp} {a : Addr} {xs : List V} (h : H a = some (.lst xs)) : NoAny H (.ref a) := fun P G => .inl ⟨.lst h, fun a' xs' e z => by rw [← V.ref.inj e, h] at z; exact nomatch z⟩
theorem no_dct {H : Hp} {a : Addr} {kvs : List (Key × V)} (h : H a = some (.dK kvs)) : NoAny H (.ref a) := fun P G => .inl ⟨.dct h, fun a' xs' e z => by rw [← V.ref.inj e, h] at z; exact nomatch z⟩
theorem no_tup {H : Hp} {a : Addr} {xs : List V} (h : H a = some (.tup xs)) (l : xs.length ≤ 1000) (t : ∀ x ∈ xs, Thg H x) (n : ¬ IsE xs) : NoAny H (.ref a) := fun P G => .inr ⟨a, xs, rfl, h, l, t, fun ⟨e, fi, _, q⟩ => n ⟨e, fi, q⟩⟩
theorem isE_cut {e : Ent} {ps : List V} (l : ps.length ≠ e.sorts.length) : ¬ IsE (.str e.word :: ps) := fun h => l (isE_len h)
/-- the entry at another moment -/
def setM5 : Ent → Int → Ent
  | .come n _ g p k r, m => .come n m g p k r
  | .go n _ g p k, m => .go n m g p k
  | .move n _ g o t k, m => .move n m g o t k
  | .some_ n _ g o t, m => .some_ n m g o t
  | .swap n _ o t, m => .swap n m o t
  | .count n _ g p k h, m => .count n m g p k h
  | .look n _ g p, m => .look n m g p
theorem setM5_facts (e : Ent) (m : Int) : (setM5 e m).vals = e.vals.take 2 ++ [.int m] ++ e.vals.drop 3 ∧ (setM5 e m).name = e.name ∧ (setM5 e m).moment = m ∧ (setM5 e m).places = e.places ∧ (setM5 e m).goodV = e.goodV ∧ (setM5 e m).sorts = e.sorts := by
  cases e <;> exact ⟨rfl, rfl, rfl, rfl, rfl, rfl⟩
theorem setM5_fine {e : Ent} {m : Int} (f : e.Fine) (h0 : 0 ≤ m) (h1 : m ≤ 9999) : (setM5 e m).Fine := by
  obtain ⟨_, _, _, hp, _, hs⟩ := setM5_facts e m
  refine ⟨fun i v x hv hx => ?_, by rw [hp]; exact f.apart⟩
  rw [hs] at hx
  have s1 : e.sorts[1]? = some ("moment" : Str) := by cases e <;> rfl
  have m1 : (setM5 e m).parts[1]? = some (.int m) := by cases e <;> rfl
  by_cases i1 : i = 1
  · subst i1
    rw [m1] at hv
    rw [s1] at hx
    cases hv
    cases hx
    exact fit_moment h0 h1
  · refine f.fit i v x ?_ hx
    rw [← hv]
    match i, i1 with
    | 0, _ => cases e <;> rfl
    | i + 2, _ => cases e <;> rfl
/-! ### the parts of an entry that is one -/
theorem part_name {y : Str} (h : nameB y = true) : PartS (.str y) := .inl ⟨y, rfl, Nat.le_trans (name_len h).2 (by decide), name_ok h⟩
theorem wh_part {lo hi : Int} (h0 : 0 ≤ lo) (h1 : hi ≤ 1000000000) {v : V} (h : whB lo hi v = true) : PartS v := by
  cases v with
  | int i =>
    obtain ⟨a, b⟩ := Bool.and_eq_true_iff.mp (show (decide (lo ≤ i) && decide (i ≤ hi)) = true from h)
    have a := of_decide_eq_true a
    have b := of_decide_eq_true b
    exact .inr ⟨i, rfl, by have : i.natAbs ≤ 1000000000 := by omega
                           exact Nat.lt_of_le_of_lt this (by decide)⟩
  | _ => exact nomatch h
theorem fit_partS {v : V} {x : Str} (h : fitB v x = true) (hx : x ∈ sorts6) : PartS v := by
  simp only [sorts6, List.mem_cons, List.not_mem_nil, or_false] at hx
  rcases hx with rfl | rfl | rfl | rfl | rfl | rfl
  · rw [fit_n] at h
    obtain ⟨z, rfl, hz⟩ := nm_str h
    exact part_name hz
  · rw [fit_e] at h
    rcases Bool.or_eq_true_iff.mp h with h | h
    · rw [of_decide_eq_true h]
      exact .inl ⟨"", rfl, by decide +kernel, (by decide +kernel)⟩
    · obtain ⟨z, rfl, hz⟩ := nm_str h
      exact part_name hz
  · rw [fit_mo] at h
    exact wh_part (by decide) (by decide) h
  · rw [fit_ma] at h
    exact wh_part (by decide) (by decide) h
  · rw [fit_co] at h
    exact wh_part (by decide) (by decide) h
  · rw [fit_pr] at h
    exact wh_part (by decide) (by decide) h
theorem fine_parts {e : Ent} (f : e.Fine) : ∀ v ∈ e.vals, PartS v := by
  intro v hv
  rcases List.mem_cons.mp hv with rfl | hv
  · refine .inl ⟨_, rfl, ?_⟩
    have h : ∀ w ∈ words7, w.length ≤ 60 ∧ PyData.strOk w = true := by decide +kernel
    exact h _ e.word_in
  · obtain ⟨i, hi⟩ := List.mem_iff_getElem?.mp hv
    have lt := (List.getElem?_eq_some_iff.mp hi).1
    have l2 : i < e.sorts.length := by rw [← e.len_parts]; exact lt
    have hx := List.getElem?_eq_getElem l2
    exact fit_partS (f.fit i v _ hi hx).2 (e.sorts_in _ (List.mem_of_getElem? hx))
theorem fine_names {e : Ent} (f : e.Fine) : ∀ j : Nat, j = 1 ∨ j = 3 ∨ j = 4 → ∃ y, e.vals[j]? = some (.str y) ∧ nameB y = true := by
  obtain ⟨x0, p0, p1, p2, p3, rest, hv⟩ : ∃ x0 p0 p1 p2 p3 rest, e.vals = x0 :: p0 :: p1 :: p2 :: p3 :: rest := by cases e <;> exact ⟨_, _, _, _, _, _, rfl⟩
  have hE : IsE e.vals := ⟨e, f, rfl⟩
  rw [hv] at hE ⊢
  obtain ⟨h0, _, h2, h3⟩ := isE_heads hE
  intro j hj
  rcases hj with rfl | rfl | rfl
  · obtain ⟨z, rfl, hz⟩ := nm_str h0
    exact ⟨z, rfl, hz⟩
  · obtain ⟨z, rfl, hz⟩ := nm_str h2
    exact ⟨z, rfl, hz⟩
  · obtain ⟨z, rfl, hz⟩ := nm_str h3
    exact ⟨z, rfl, hz⟩
/-! ### generators whose consumer keeps an object of its own -/
abbrev Pins := List (Addr × Obj)
def GTurnsL (J : It) (g : TG) (tt : TT) (te : TE) (vs : List Nat) (σ : L2.St) (W : Nat → Nat → List V → Hp → Prop) (Out : Nat → Nat → List V → V → Hp → Prop) (Fin : List V → Hp → Prop) : Prop :=
  ∀ i m ys H, W i m ys H → (J.stop i H ∧ Fin ys H) ∨ (J.go i H ∧ ∀ x H', J.yld i H x H' → g x (wipe σ vs) H' fun σ2 H2 => wipe σ2 vs = wipe σ vs ∧ tt σ2 H2 fun b H3 =>
    if b = true then te σ2 H3 fun y H4 => Out i m ys y H4 else ∃ m', m' < m ∧ W (i + 1) m' ys H3)
def gxYL (IG : Pins → Hp → Shared → Prop) (PX : List V → Pins → Prop) (tn : Nat → Heap → Prop) (fp : List Addr) (W : Nat → Nat → List V → Hp → Prop) (Out : Nat → Nat → List V → V → Hp → Prop) (gn : Nat) : Protocol := fun n s₀ v s kap =>
  ∃ i m ys y H px, (∀ p ∈ px, s₀.heap.get? p.1 = some p.2) ∧ RelV y v ∧ PX ys px ∧ IG px H s ∧ tn (i + 1) s.heap ∧ (∀ b ∈ fp, H b = none) ∧ Out i m ys y H ∧ gn < s.gens.size ∧ m ≤ n ∧
    ∀ m' px', m' < m → W (i + 1) m' (ys ++ [y]) H → PX (ys ++ [y]) px' → ∀ s'' : Shared, IG px' H s'' → tn (i + 1) s''.heap → gn < s''.gens.size → kap (.send .none) s''
def gxRL (IG : Pins → Hp → Shared → Prop) (PX : List V → Pins → Prop) (Fin : List V → Hp → Prop) : Nat → Shared → Shared → Prop := fun _ s₀ s1 => ∃ ys H px, (∀ p ∈ px, s₀.heap.get? p.1 = some p.2) ∧ PX ys px ∧ IG px H s1 ∧ Fin ys H
section
variable {X : Cx} {σ : L2.St} {Ag : Around} {tg elt iter : Expr} {ifs : List Expr} {scope : Scope} {gpos : Pos} {it a : Addr} {oG : Obj} {ce : Env} {fp : List Addr} {s3 : Shared} {H3 : Hp} {tn : Nat → Heap → Prop} {J : It} {vs : List Nat} {gn : Nat}
  {g : TG} {tt : TT} {te : TE} {W : Nat → Nat → List V → Hp → Prop} {Out : Nat → Nat → List V → V → Hp → Prop} {Fin : List V → Hp → Prop} {PX : List V → Pins → Prop}
theorem gx_statL {σ' : L2.St} {H' : Hp} {s' : Shared} {A' : Around} {px : Pins} (I' : Inv (gxc X A' s3 H3 ce fp) ((a, oG) :: px) σ' H' s') (na : a ∉ fp) (hpx : ∀ p ∈ px, p.1 ∉ fp) (hn : ∀ b ∈ fp, H' b = none) : ∀ b ∈ fp, FpOk (gxc X A' s3 H3 ce fp) ((a, oG) :: px) H' b := fun b hb => by
  refine ⟨hn b hb, (I'.ok.exf b hb).1, I'.ok.exfs b hb, .inl hb, fun x c e => (I'.ok.exf b hb).2 x c e, fun p hp z => ?_⟩
  have hp' : p ∈ (a, oG) :: px := by simpa using hp
  rcases List.mem_cons.mp hp' with e | e
  · subst e
    have z' : a = b := z
    exact na (z' ▸ hb)
  · exact hpx p e (z ▸ hb)
theorem gx_segL (T : Turn X.prog X.w X.K tg J fp it tn) (na : a ∉ fp) (hco : ce.scope.isCoroutine = false)
    (pg : PG (gxl X Ag elt tg iter ifs scope gpos it ce s3 H3 fp) tg g)
    (pt : PTs (gxl X Ag elt tg iter ifs scope gpos it ce s3 H3 fp) ifs tt)
    (pe : PE (gxl X Ag elt tg iter ifs scope gpos it ce s3 H3 fp) elt te)
    (turn : GTurnsL J g tt te vs σ W Out Fin) (IG : Pins → Hp → Shared → Prop) (Px : Pins → Prop) (hPx : ∀ px, Px px → ∀ p ∈ px, p.1 ∉ fp)
    (hIG : IG = fun px H s => Px px ∧ Inv (gxl X Ag elt tg iter ifs scope gpos it ce s3 H3 fp) ((a, oG) :: px) (wipe σ vs) H s) :
    ∀ (m n i : Nat) (ys : List V) (px : Pins) (H : Hp) (s s0 : Shared), m < n → (∀ p ∈ px, s0.heap.get? p.1 = some p.2) → PX ys px → IG px H s → tn i s.heap → (∀ b ∈ fp, H b = none) → W i m ys H → gn < s.gens.size →
      Seg (model X.prog X.w) Ag (fun n s0 r s1 => r = .ok .next ∧ gxRL IG PX Fin n s0 s1) (gxYL IG PX tn fp W Out gn) n s0
        (.compLoop (.GeneratorExp elt [⟨tg, iter, ifs, 0⟩] scope gpos) 0 (.ref it) .none ce)
        ((model X.prog X.w).den (.compLoop (.GeneratorExp elt [⟨tg, iter, ifs, 0⟩] scope gpos) 0 (.ref it) .none ce)) [] s := by
  intro m
  induction m using Nat.strongRecOn with
  | ind m ih =>
  intro n i ys px H s s0 hmn h00 hX I0 st n0 w0 hg
  have I1 : Px px ∧ Inv (gxl X Ag elt tg iter ifs scope gpos it ce s3 H3 fp) ((a, oG) :: px) (wipe σ vs) H s := by
    rw [hIG] at I0
    exact I0
  obtain ⟨hP, I⟩ := I1
  have hpx := hPx px hP
  show Seg _ Ag _ _ _ s0 _ ((compTurn (.GeneratorExp elt [⟨tg, iter, ifs, 0⟩] scope gpos) 0 (.ref it) .none ce).onRaise (leaving ce)) [] s
  rw [compTurn_gen, Sem.onRaise_eq_wrap]
  refine seg_bind_wrap (wpAny_standAt ?_)
  rcases turn i m ys H w0 with ⟨stop, fin⟩ | ⟨go, step⟩
  · refine seg_bind_wrap (thnF (T.done (gxl X Ag elt tg iter ifs scope gpos it ce s3 H3 fp) rfl rfl rfl rfl i ((a, oG) :: px) s _ H (fun _ _ => False) I (gx_statL I na hpx n0) st stop) fun r s6 ⟨hr, I6⟩ => ?_)
    subst hr
    exact seg_end (.ok .next) ⟨rfl, ys, H, px, h00, hX, by rw [hIG]; exact ⟨hP, I6⟩, fin⟩
  · refine seg_bind_wrap (GenW.wpAny_gsz hg (thnF (T.item (gxl X Ag elt tg iter ifs scope gpos it ce s3 H3 fp) rfl rfl rfl rfl i ((a, oG) :: px) s _ H (fun _ _ => False) I (gx_statL I na hpx n0) st go) fun r s6 ⟨u, hr, h6⟩ hg6 => ?_))
    subst hr
    refine seg_bind_wrap (GenW.wpAny_gsz hg6 (thnF h6 fun _ s7 ⟨x, H7, I7, r7, y7, st7, n7⟩ hg7 => ?_))
    have I7' := I7.pinned (gx_statL I7 na hpx n7) (T.obj _ _ st7)
    refine seg_bind_wrap (GenW.wpAny_gsz hg7 (thnF (pg.run _ s7 _ H7 x u _ I7' r7 (step x H7 y7)) fun _ s8 ⟨σ8, H8, I8, hw8, q8⟩ hg8 => ?_))
    refine seg_bind_wrap (GenW.wpAny_gsz hg8 (thnF (pt.run _ s8 σ8 H8 _ I8 q8) fun b s9 ⟨H9, I9, q9⟩ hg9 => ?_))
    have hl : (wipe σ vs).length = σ8.length := by rw [← hw8, wipe_length]
    have back : ∀ {s' : Shared} {H' : Hp}, Inv (gxl X Ag elt tg iter ifs scope gpos it ce s3 H3 fp) (((a, oG) :: px) ++ pinsAt fp s7.heap) σ8 H' s' →
        IG px H' s' ∧ tn (i + 1) s'.heap ∧ ∀ b ∈ fp, H' b = none := fun {s' H'} I' => by
      have pin' : ∀ b ∈ fp, ∀ o, s7.heap.get? b = some o → s'.heap.get? b = some o ∧ H' b = none := fun b hb o e =>
        let z := I'.pin (b, o) (List.mem_append_right _ (List.mem_append_right _ (mem_pinsAt hb e)))
        ⟨z.1, z.2.1⟩
      refine ⟨?_, T.keep _ _ _ st7 fun b hb o e => (pin' b hb o e).1, fun b hb => ?_⟩
      · rw [hIG]
        refine ⟨hP, I'.unpinned.weak hl fun j v e => ?_⟩
        rw [← hw8] at e
        exact (wipe_some e).1
      · obtain ⟨o, e, _⟩ := T.obj _ _ st7 b hb
        exact (pin' b hb o e).2
    cases b with
    | false =>
      simp only [Bool.false_eq_true, if_false] at q9 ⊢
      obtain ⟨m', hm, w'⟩ := q9
      obtain ⟨b1, b2, b3⟩ := back I9
      exact seg_again rfl (ih m' hm n (i + 1) ys px H9 s9 s0 (Nat.lt_trans hm hmn) h00 hX b1 b2 b3 w' hg9)
    | true =>
      simp only [if_true] at q9 ⊢
      have hy : ∀ v, yieldOut ce v = yieldValue v := fun v => by simp only [yieldOut, hco, Bool.false_eq_true, if_false]
      simp only [hy]
      rw [Sem.bind_eq_wrap', Sem.bind_eq_wrap', Sem.wrap_wrap, Sem.wrap_wrap]
      obtain ⟨n', rfl⟩ : ∃ n', n = n' + 1 := ⟨n - 1, by omega⟩
      refine seg_wrap (GenW.wpAny_gsz hg9 (thnF (pe.run _ s9 σ8 H9 _ I9 q9) fun z s10 ⟨yv, H10, I10, r10, out⟩ hg10 => ?_))
      obtain ⟨b1, b2, b3⟩ := back I10
      refine seg_at (seg_yield rfl rfl rfl ⟨i, m, ys, yv, H10, px, h00, r10, hX, b1, b2, b3, out, hg10, by omega, fun m' px' hm w' hX' s'' I'' st'' hg'' => ?_⟩)
      exact seg_again rfl (ih m' hm n' (i + 1) _ px' H10 s'' s'' (by omega) (fun p hp => by rw [hIG] at I''; exact (I''.2.pin p (by simp [hp])).1) hX' I'' st'' b3 w' hg'')
end
structure IGokL (X : Cx) (pins : List (Addr × Obj)) (σ : L2.St) (a : Addr) (gn : Nat) (tn : Nat → Heap → Prop) (IG : Pins → Hp → Shared → Prop) : Prop where
  bare : ∀ {px H s}, IG px H s → AllBare s.gens
  gens : ∀ {px H s g'}, IG px H s → AllBare g' → IG px H { s with gens := g' }
  kept : ∀ {px : Pins} {H : Hp} {s : Shared} {h' : Heap} {tk : Nat}, IG px H s → (∀ b o, s.heap.get? b = some o → h'.get? b = some o) → IG px H { s with heap := h', toks := tk }
  isgen : ∀ {px H s}, IG px H s → s.heap.IsGen a gn
  nolim : ∀ {px H s}, IG px H s → s.heap.NoLimit
  back : ∀ {px H s}, IG px H s → Inv X pins σ H s
  add : ∀ {H : Hp} {s : Shared} {h' : Heap} {tk : Nat} {S : Addr} {o : Obj}, IG [] H s → (∀ b u, s.heap.get? b = some u → h'.get? b = some u) → s.heap.objs.size ≤ S → h'.get? S = some o → (∀ v, o.data ≠ .cell v) → IG [(S, o)] H { s with heap := h', toks := tk }
  put : ∀ {H : Hp} {s : Shared} {h' : Heap} {tk : Nat} {S : Addr} {o o' : Obj}, IG [(S, o)] H s → (∀ b u, b ≠ S → s.heap.get? b = some u → h'.get? b = some u) → h'.get? S = some o' → (∀ v, o'.data ≠ .cell v) → IG [(S, o')] H { s with heap := h', toks := tk }
  own : ∀ {H s S o}, IG [(S, o)] H s → s.heap.get? S = some o
  tnk : ∀ {i h h'}, tn i h → (∀ b o, h.get? b = some o → h'.get? b = some o) → tn i h'
  tnp : ∀ {H s S o i h'}, IG [(S, o)] H s → tn i s.heap → (∀ b u, b ≠ S → s.heap.get? b = some u → h'.get? b = some u) → tn i h'
def GRunL (X : Cx) (Ac : Around) (IG : Pins → Hp → Shared → Prop) (PX : List V → Pins → Prop) (tn : Nat → Heap → Prop) (fp : List Addr) (W : Nat → Nat → List V → Hp → Prop) (Out : Nat → Nat → List V → V → Hp → Prop) (Fin : List V → Hp → Prop) (gn i m n : Nat) (ys : List V) (px : Pins) (H : Hp) (s : Shared) : Prop :=
  PX ys px ∧ IG px H s ∧ tn i s.heap ∧ (∀ b ∈ fp, H b = none) ∧ W i m ys H ∧ ∃ gs, s.gens[gn]? = some gs ∧ m < n ∧ ∀ (px' : Pins) (s'' : Shared), PX ys px' → IG px' H s'' → tn i s''.heap → gn < s''.gens.size →
    gs.Goes (model X.prog X.w) Ac.in1 (fun n s0 r s1 => r = .ok .next ∧ gxRL IG PX Fin n s0 s1) (gxYL IG PX tn fp W Out gn) n (.send .none) s''
def GStartL (X : Cx) (Ac : Around) (IG : Pins → Hp → Shared → Prop) (tn : Nat → Heap → Prop) (fp : List Addr) (W : Nat → Nat → List V → Hp → Prop) (Out : Nat → Nat → List V → V → Hp → Prop) (Fin : List V → Hp → Prop) (gn m : Nat) (H : Hp) (s : Shared) : Prop :=
  IG [] H s ∧ tn 0 s.heap ∧ (∀ b ∈ fp, H b = none) ∧ W 0 m [] H ∧ ∃ gs, s.gens[gn]? = some gs ∧ ∀ (PX : List V → Pins → Prop) (px' : Pins) (s'' : Shared), PX [] px' → IG px' H s'' → tn 0 s''.heap → gn < s''.gens.size →
    gs.Goes (model X.prog X.w) Ac.in1 (fun n s0 r s1 => r = .ok .next ∧ gxRL IG PX Fin n s0 s1) (gxYL IG PX tn fp W Out gn) (m + 1) (.send .none) s''
section
variable {X : Cx} {pins : List (Addr × Obj)} {σ : L2.St} {Ac : Around} {IG : Pins → Hp → Shared → Prop} {PX : List V → Pins → Prop} {tn : Nat → Heap → Prop} {fp : List Addr} {W : Nat → Nat → List V → Hp → Prop} {Out : Nat → Nat → List V → V → Hp → Prop} {Fin : List V → Hp → Prop} {a : Addr} {gn : Nat}
theorem gx_nextL {E : Value → Shared → Prop} {Q : Option Value → Shared → Prop} {i m n : Nat} {ys : List V} {px : Pins} {H : Hp} {s : Shared} (ig : IGokL X pins σ a gn tn IG) (hA : Ac.handled = none) (hd : Ac.depth < recursionLimit) (G : GRunL X Ac IG PX tn fp W Out Fin gn i m n ys px H s)
    (hout : ∀ v y H' s' i' m' ys' px', (∀ p ∈ px', s.heap.get? p.1 = some p.2) → RelV y v → Out i' m' ys' y H' → PX ys' px' → IG px' H' s' → tn (i' + 1) s'.heap →
      (∀ m'' px'' h' tk, m'' < m' → W (i' + 1) m'' (ys' ++ [y]) H' → PX (ys' ++ [y]) px'' → IG px'' H' { s' with heap := h', toks := tk } → tn (i' + 1) h' → GRunL X Ac IG PX tn fp W Out Fin gn (i' + 1) m'' (n - 1) (ys' ++ [y]) px'' H' { s' with heap := h', toks := tk }) → Q (some v) s')
    (hfin : ∀ ys' H' s' px', (∀ p ∈ px', s.heap.get? p.1 = some p.2) → Fin ys' H' → PX ys' px' → IG px' H' s' → Q none s') : wpAny (model X.prog X.w) Ac (pyNext (.ref a)) Q E s := by
  obtain ⟨g0, g1, g2, g3, g4, gs, g5, g6, g7⟩ := G
  have lt := (Array.getElem?_eq_some_iff.mp g5).1
  have run : IG px H (s.setGen gn .running) := ig.gens g1 (bare_set (ig.bare g1) rfl)
  refine wpAny_pyNext_genexpQ (P := gxRL IG PX Fin) hA (ig.nolim g1) hd (ig.isgen g1) g5 (g7 px _ g0 run g2 (by rw [GenW.setGen_size]; exact lt)) (fun v s1 gs' hb hv => ?_) fun s1 hp h' hk => ?_
  · obtain ⟨i', m', ys', y, H', px', h00, r, hX, I1, st1, nf, out, hg1, hmn, kap⟩ := hv
    have I2 : IG px' H' (s1.setGen gn gs') := ig.gens I1 (bare_set (ig.bare I1) hb)
    refine hout v y H' _ i' m' ys' px' h00 r out hX I2 st1 fun m'' px'' h' tk hm w' hX' I3 st3 => ⟨hX', I3, st3, nf, w', gs', ?_, by omega, fun pz s'' hXz J'' st'' hg'' => ?_⟩
    · show (s1.gens.setIfInBounds gn gs')[gn]? = some gs'
      rw [Array.getElem?_setIfInBounds_self_of_lt hg1]
    · have q := kap m'' pz hm w' hXz s'' J'' st'' hg''
      cases n with
      | zero => exact q.elim
      | succ n => exact q
  · obtain ⟨ys', H', px', h00, hX, I1, fin⟩ := hp
    exact hfin ys' H' _ px' h00 fin hX (ig.kept (tk := (s1.setGen gn .finished).toks) (ig.gens I1 (bare_set (ig.bare I1) rfl)) hk)
/-- from the start on, with what the consumer keeps -/
theorem GStartL.run {m : Nat} {H : Hp} {s : Shared} {px : Pins} {h' : Heap} {tk : Nat} (G : GStartL X Ac IG tn fp W Out Fin gn m H s) (hX : PX [] px) (I : IG px H { s with heap := h', toks := tk }) (st : tn 0 h') : GRunL X Ac IG PX tn fp W Out Fin gn 0 m (m + 1) [] px H { s with heap := h', toks := tk } := by
  obtain ⟨g1, g2, g3, g4, gs, g5, g7⟩ := G
  exact ⟨hX, I, st, g3, g4, gs, g5, Nat.lt_succ_self _, fun px' s'' hX' I' st' hg => g7 PX px' s'' hX' I' st' hg⟩
end
section
variable {X : Cx} {pins : List (Addr × Obj)} {σ : L2.St} {H : Hp} {s : Shared}
theorem gx_mkL {c T : Addr} {elt tg iter : Expr} {ifs : List Expr} {scope : Scope} {own : List (Str × Nat)} {gpos : Pos} {wi : TI} {g : TG} {tt : TT} {te : TE} {k : Nat} {Q' : Value → Shared → Prop} {Outf : (Nat → Nat → List V → Hp → Prop) → Nat → Nat → List V → V → Hp → Prop} {Fin : List V → Hp → Prop}
    (Ac : Around) (hA : Ac.handled = none) (hfr : Ac.frames = some X.stack) (hd : Ac.depth ≤ X.A.depth) (hu : Ac.units ≤ X.A.units + 8) (hr : Room (k + 1) X.A) (hc : X.calm = true) (hN : X.N.Nodup) (TB : GxR.TabB X.base X.mg c T) (hcode : X.env.code = .ref c) (ok : GOk X.N X.env.scope scope own) (hi : PI X tg iter wi)
    (hg : ∀ (A' : Around) (s3 : Shared) (H3 : Hp) (C : Addr) (code : Value) (fp : List Addr), PG (gxc X A' s3 H3 (genE X scope C code) fp) tg g)
    (ht : ∀ (A' : Around) (s3 : Shared) (H3 : Hp) (C : Addr) (code : Value) (fp : List Addr), Room k A' → PTs (gxc X A' s3 H3 (genE X scope C code) fp) ifs tt)
    (he : ∀ (A' : Around) (s3 : Shared) (H3 : Hp) (C : Addr) (code : Value) (fp : List Addr), Room k A' → PE (gxc X A' s3 H3 (genE X scope C code) fp) elt te)
    (hs : ∀ v, genFold iter X.env v = pure v) (I : Inv X pins σ H s)
    (h : wi σ H fun J H1 => GxR.TabG H1 T ∧ ∀ H2, GxR.Tabbed T H1 H2 → ∃ W, (∃ m, W 0 m [] H2) ∧ GTurnsL J g tt te (own.map (·.2)) σ W (Outf W) Fin)
    (hQ : ∀ (IG : Pins → Hp → Shared → Prop) (tn : Nat → Heap → Prop) (fp : List Addr) W (a : Addr) (gn m : Nat) (H2 : Hp) (s5 : Shared), IGokL X pins σ a gn tn IG →
      GStartL X Ac IG tn fp W (Outf W) Fin gn m H2 s5 → Q' (.ref a) s5) :
    wpAny (model X.prog X.w) X.A (eval (.GeneratorExp elt [⟨tg, iter, ifs, 0⟩] scope gpos) X.env) Q' X.xe s := by
  have free := gx_free I ok
  refine wpAny_GeneratorExp_make ok.co (closure_ok free) ok.cell ok.dot ok.blk.kind (Nat.lt_of_le_of_lt (by omega : X.A.depth ≤ X.A.depth + 3 * (k + 1) + 5) hr.dp) ?_ hs
  refine thn (hi.run pins s σ H _ I h) fun xv s1 h1 => thn h1 fun itv s2 h2 => ?_
  obtain ⟨it, fp, tn, J, H1, rfl, J1, TU, st2, f2, ⟨ps, hT, hok⟩, q⟩ := h2
  have gT : s2.heap.get? T = some (PySem.W.tabObj ps) := J1.hok T _ hT
  have cd : PySem.W.CodeHd s2.heap c T := TB.code.keeps J1.bk
  refine ⟨J1.nolimit, ?_⟩
  have lts : ∀ b ∈ fp, b < s2.heap.objs.size := fun b hb => by
    obtain ⟨o, e, _⟩ := TU.obj _ _ st2 b hb
    exact Heap.lt_size e
  have nfT : ∀ b ∈ fp, b ≠ T := fun b hb z => by
    have := (f2 b hb).1
    rw [z, hT] at this
    cases this
  -- behind the code object
  have on : ∀ (code : Value) (h3 : Heap) (tk : Nat) (more : Array Value), Heap.ExtBut T s2.heap h3 → s2.heap.objs.size ≤ h3.objs.size → h3.get? T = some (PySem.W.tabObj (ps ++ more)) → TriplesOk (ps ++ more).toList →
      wpAny (model X.prog X.w) X.A (builtinsFor X.env.globals X.env.builtins) (fun bi s4 =>
        ∀ h', h'.Ns s4.heap.objs.size (fun y => if y = ".0" then some (.ref it) else none) → Heap.SameBut s4.heap.objs.size (s4.heap.push { cls := .type "frame", data := .dict #[] }) h' →
          Q' (.ref h'.objs.size) { s4 with
            gens := s4.gens.push (.fresh (.compStart (.GeneratorExp elt [⟨tg, iter, ifs, 0⟩] scope gpos) 0 (.ref it) .none (genEnv scope (cloFrom X.env.cells scope.names []) s4.heap.objs.size code bi X.env))),
            toks := s4.toks + 1 + 1 + 1,
            heap := h'.push { cls := .type "generator", data := .fields #[.int s4.gens.size 0, .str "<genexpr>" (s4.toks + 1), .str (X.env.qual ++ "<genexpr>") (s4.toks + 1 + 1)] } }) X.xe { s2 with heap := h3, toks := tk } := by
    intro code h3 tk more ext ge3 gT3 ok3
    have J3 : Inv X pins σ (upd H1 T (.tbl (ps ++ more))) { s2 with heap := h3, toks := tk } := GxR.inv_tab (g' := s2.gens) (d' := s2.drawn) J1 hT ext gT3 J1.bare
    have tb : GxR.Tabbed T H1 (upd H1 T (.tbl (ps ++ more))) := ⟨⟨_, upd_same, ok3⟩, fun b nb => upd_ne nb⟩
    obtain ⟨W, ⟨m0, w0⟩, turn⟩ := q _ tb
    obtain ⟨bm, ob, e1, e2, _, e4, e5, e6, e7, e8⟩ := TB.bm
    refine wpAny_builtinsFor (m := X.mg) (by rw [J3.ok.glob]; exact J3.mod.glob.keeps J3.bk) e1 e2 (ext _ _ e4 (J1.bk _ _ e5)) e6 e7 e8 ?_
    intro h' hn hsb
    have f3 : ∀ b ∈ fp, FpOk X pins (upd H1 T (.tbl (ps ++ more))) b ∧ b < h3.objs.size := fun b hb => by
      refine ⟨⟨?_, (f2 b hb).2⟩, Nat.lt_of_lt_of_le (lts b hb) ge3⟩
      rw [upd_ne (nfT b hb)]
      exact (f2 b hb).1
    have st3 : tn 0 h3 := TU.keep _ _ _ st2 fun b hb o e => ext b o (nfT b hb) e
    have nf3 : ∀ b ∈ fp, (upd H1 T (.tbl (ps ++ more))) b = none := fun b hb => (f3 b hb).1.1
    generalize hH3 : upd H1 T (.tbl (ps ++ more)) = H3 at J3 w0 f3 nf3
    generalize hs3 : ({ s2 with heap := h3, toks := tk } : Shared) = s3 at J3 hn hsb ⊢
    have eh : s3.heap = h3 := by rw [← hs3]
    have szh : h'.objs.size = s3.heap.objs.size + 1 := by rw [hsb.1, Heap.size_push]
    have kp : ∀ b o, s3.heap.get? b = some o → h'.get? b = some o := fun b o e => hsb.extBut b o (Nat.ne_of_lt (Heap.lt_size e)) (Heap.get?_push_of_some _ e)
    generalize hoG : ({ cls := .type "generator", data := .fields #[.int s3.gens.size 0, .str "<genexpr>" (s3.toks + 1), .str (X.env.qual ++ "<genexpr>") (s3.toks + 1 + 1)] } : Obj) = oG
    have na : h'.objs.size ∉ fp := fun z => by
      have := (f3 _ z).2
      rw [← eh] at this
      exact Nat.lt_irrefl _ (Nat.lt_of_lt_of_le this (by rw [szh]; exact Nat.le_succ _))
    have start := gx_start (A' := Ac.in1.over (.compLoop (.GeneratorExp elt [⟨tg, iter, ifs, 0⟩] scope gpos) 0 (.ref it) .none (genE X scope s3.heap.objs.size code)) []) (code := code) (it := .ref it) (oG := oG)
      (g' := s3.gens.push (.fresh (.compStart (.GeneratorExp elt [⟨tg, iter, ifs, 0⟩] scope gpos) 0 (.ref it) .none (genE X scope s3.heap.objs.size code)))) (t' := s3.toks + 1 + 1 + 1) J3 ok hN (fun b hb => ⟨(f3 b hb).1, by rw [eh]; exact (f3 b hb).2⟩) hA (over_gen hfr) hn hsb
      (fun v => by rw [← hoG]; exact fun z => nomatch z) (J3.bare.push rfl) (by rw [← hoG]; rfl)
    have rm : Room k (Ac.in1.over (.compLoop (.GeneratorExp elt [⟨tg, iter, ifs, 0⟩] scope gpos) 0 (.ref it) .none (genE X scope s3.heap.objs.size code)) []) :=
      room_gen hA (by have := hr.dp; show Ac.depth + 1 + 3 * k + 5 < _; omega) (by have := hr.un; show Ac.units + 1 + 3 + 16 * k + 200 < _; omega)
    let Px : Pins → Prop := fun px => ∀ p ∈ px, h'.objs.size + 1 ≤ p.1
    have hPx : ∀ px, Px px → ∀ p ∈ px, p.1 ∉ fp := fun px z p hp q => by
      have l1 : h'.objs.size + 1 ≤ p.1 := z p hp
      have l2 := (f3 _ q).2
      rw [← eh] at l2
      have l0 : s3.heap.objs.size ≤ h'.objs.size + 1 := by omega
      exact Nat.lt_irrefl _ (Nat.lt_of_lt_of_le l2 (Nat.le_trans l0 l1))
    refine hQ (fun px H' s' => Px px ∧ Inv (gxl X Ac.in1 elt tg iter ifs scope gpos it (genE X scope s3.heap.objs.size code) s3 H3 fp) ((h'.objs.size, oG) :: px) (wipe σ (own.map (·.2))) H' s') tn fp W h'.objs.size s3.gens.size m0 H3 _ ?_ ?_
    · have bk : ∀ {px : Pins} {H' : Hp} {s' : Shared}, Inv (gxl X Ac.in1 elt tg iter ifs scope gpos it (genE X scope s3.heap.objs.size code) s3 H3 fp) ((h'.objs.size, oG) :: px) (wipe σ (own.map (·.2))) H' s' → Inv X pins σ H' s' := fun I' =>
        J3.call' (ch := fp) I'.os I'.base I'.hok I'.bare fun b hb => ⟨(f3 b hb).1.2.2.2.1, (f3 b hb).1.2.1, (f3 b hb).1.2.2.2.2.1, (f3 b hb).1.2.2.2.2.2⟩
      refine ⟨fun I' => I'.2.bare, fun I' hb => ⟨I'.1, I'.2.ok, I'.2.os, hb, I'.2.base, I'.2.loc, I'.2.cell, I'.2.free, I'.2.freeC, I'.2.pin, I'.2.hok, I'.2.len⟩, fun I' kk => ⟨I'.1, I'.2.kept kk⟩, fun I' => ?_, fun I' => I'.2.nolimit, fun I' => bk I'.2, ?_, ?_, ?_, ?_, ?_⟩
      · have z := (I'.2.pin (h'.objs.size, oG) (by simp)).1
        rw [← hoG] at z
        exact ⟨_, _, _, z, rfl, rfl, rfl⟩
      · intro H' s' h2' tk' S o I' kk hS e nc
        have g0 := (I'.2.pin (h'.objs.size, oG) (by simp)).1
        have l0 := Heap.lt_size g0
        refine ⟨fun p hp => ?_, ?_⟩
        · rw [List.mem_singleton.mp hp]
          exact Nat.le_trans l0 hS
        · have K1 := I'.2.kept (t' := tk') kk
          have F := I'.2.fpOk (b := S) hS (I'.2.hok.fresh hS)
          refine K1.pins_of fun p hp => ?_
          rcases List.mem_cons.mp hp with z | z
          · rw [z]
            exact K1.pin _ (by simp)
          · rw [List.mem_singleton.mp z]
            exact ⟨e, F.1, F.2.1, F.2.2.1, nc⟩
      · intro H' s' h2' tk' S o o' I' kk e nc
        obtain ⟨p1, I1⟩ := I'
        obtain ⟨q1, q2, q3, q4, q5⟩ := I1.pin (S, o) (by simp)
        have lS : h'.objs.size + 1 ≤ S := p1 (S, o) (by simp)
        have Iu : Inv (gxl X Ac.in1 elt tg iter ifs scope gpos it (genE X scope s3.heap.objs.size code) s3 H3 fp) [(h'.objs.size, oG)] (wipe σ (own.map (·.2))) H' s' := I1.pins_of fun p hp => I1.pin p (by rw [List.mem_singleton.mp hp]; simp)
        have K1 := Iu.turned (t' := tk') (it := S) kk q2 q3 (.inr (by show s3.heap.objs.size ≤ S; omega)) (fun y cc ec z => ?_) (fun p hp z => ?_)
        · refine ⟨fun p hp => by rw [List.mem_singleton.mp hp]; exact lS, K1.pins_of fun p hp => ?_⟩
          rcases List.mem_cons.mp hp with z | z
          · rw [z]
            exact K1.pin _ (by simp)
          · rw [List.mem_singleton.mp z]
            exact ⟨e, q2, q3, q4, nc⟩
        · obtain ⟨v, zc⟩ := J3.cell y cc (by
            have ec' : (cloFrom X.env.cells scope.names []).lookup y = some cc := ec
            rcases cloFrom_mem (PySem.mem_of_lookup ec') with hm | ⟨h1, rfl⟩
            · cases hm
            · obtain ⟨c0, hc0⟩ := free _ h1 rfl
              rw [hc0]
              rfl)
          have l0 : s3.heap.objs.size ≤ h'.objs.size + 1 := by omega
          have l4 := zc.lt
          rw [z] at l4
          exact Nat.lt_irrefl _ (Nat.lt_of_lt_of_le l4 (Nat.le_trans l0 lS))
        · have hp' : p = (h'.objs.size, oG) := by simpa using hp
          rw [hp'] at z
          have z' : h'.objs.size = S := z
          omega
      · intro H' s' S o I'
        exact (I'.2.pin (S, o) (by simp)).1
      · exact fun st kk => TU.keep _ _ _ st fun b _ o e => kk b o e
      · intro H' s' S o i h2' I' st kk
        refine TU.keep _ _ _ st fun b hb ob e => kk b ob (fun z => ?_) e
        exact hPx _ I'.1 (S, o) (by simp) (z ▸ hb)
    · refine ⟨⟨fun p hp => (nomatch hp), start⟩, TU.keep _ _ _ st3 fun b hb o e => Heap.get?_push_of_some _ (kp b o (by rw [eh]; exact e)), nf3, w0, _, Array.getElem?_push_size .., fun PX px s'' hX I'' st'' hg'' => ⟨rfl, ?_⟩⟩
      exact gx_seg0 TU st'' (gx_segL TU na ok.co (hg _ s3 H3 _ code fp) (ht _ s3 H3 _ code fp rm) (he _ s3 H3 _ code fp rm) turn _ Px hPx rfl m0 (m0 + 1) 0 [] px H3 s'' s'' (Nat.lt_succ_self _) (fun p hp => (I''.2.pin p (by simp [hp])).1) hX I'' st'' nf3 w0 hg'')
  cases among : codeAmong gpos ps.toList with
  | some cv =>
    refine wpAny_genexprCode_hit hcode (cd.code gT hok) among ?_
    exact on cv s2.heap s2.toks #[] (Heap.ExtBut.refl _ _) (Nat.le_refl _) (by rw [Array.append_empty]; exact gT) (by rw [Array.append_empty]; exact hok)
  | none =>
    refine wpAny_genexprCodeX hcode (cd.code gT hok) (cd.tab gT) among fun c' h' tk hx hge hlt isC _ tab' _ => ?_
    obtain ⟨_, _, _, _, _, _, _, _, _, _, _, _, _, _, _, _, _, _, _, ok', _⟩ := isC
    exact on _ h' tk _ hx (Nat.le_trans hge (Nat.le_of_lt hlt)) tab'.2 ok'
end
/-! ### tuple(..) of a generator expression -/
abbrev lsO (acc : Array Value) (c : Nat) : Obj := { cls := .type "list", dict := none, data := .seq acc c, slots := #[] }
def pxL (S : Addr) : List V → Pins → Prop := fun ys px => ∃ acc c, px = [(S, lsO acc c)] ∧ Vals ys acc.toList
abbrev outL (W : Nat → Nat → List V → Hp → Prop) : Nat → Nat → List V → V → Hp → Prop := fun i m ys y H' => ys.length < sizeLine ∧ ∃ m', m' < m ∧ W (i + 1) m' (ys ++ [y]) H'
section
variable {X : Cx} {pins : List (Addr × Obj)} {σ : L2.St} {IG : Pins → Hp → Shared → Prop} {tn : Nat → Heap → Prop} {fp : List Addr} {W : Nat → Nat → List V → Hp → Prop} {Fin : List V → Hp → Prop} {a : Addr} {gn : Nat} {B : Around}
theorem vals_lenG {ys : List V} {acc : Array Value} (h : Vals ys acc.toList) : acc.size = ys.length := by
  rw [← Array.length_toList]
  exact h.length.symm
theorem gx_extend {S : Addr} {res : Value} {R : Result → Shared → Prop} (ig : IGokL X pins σ a gn tn IG) (hA : B.handled = none) (hd : B.depth < recursionLimit)
    (hR : ∀ ys acc c H s, Vals ys acc.toList → Fin ys H → IG [(S, lsO acc c)] H s → R (.ok (.ret res)) s) : ∀ (n i m : Nat) (ys : List V) (px : Pins) (H : Hp) (s : Shared),
    GRunL X B.in1 IG (pxL S) tn fp W (outL W) Fin gn i m n ys px H s → codeAny (model X.prog X.w) B (.builtin "list.extend.loop" ⟨[.ref S, .ref a, res], []⟩) R s := by
  intro n
  induction n with
  | zero =>
    intro i m ys px H s G
    obtain ⟨_, _, _, _, _, gs, _, h, _⟩ := G
    exact absurd h (Nat.not_lt_zero _)
  | succ n ih =>
    intro i m ys px H s G
    refine codeAny_builtin F.entry_extend_loop (Around.under_plainId (A := B) F.plain_extend_loop _ ▸ ?_)
    show wpAny _ B.in1 (pyNext (.ref a) >>= _) _ _ s
    refine wpAny_bind (gx_nextL ig hA hd G (fun v y H' s' i' m' ys' px' _ r out hX I' st' cont => ?_) fun ys' H' s' px' _ fin hX I' => ?_)
    · obtain ⟨acc, c, rfl, hv⟩ := hX
      obtain ⟨hlt, m'', hm, w'⟩ := out
      have own := ig.own I'
      have ln := vals_lenG hv
      have oth : ∀ b u, b ≠ S → s'.heap.get? b = some u → (s'.heap.update S (Obj.mapSeq (·.push v))).get? b = some u := fun b u nb e => (Heap.get?_update_other _ _ (Ne.symm nb)).trans e
      have self := Heap.get?_update_self (Obj.mapSeq (·.push v)) own rfl
      show wpAny _ B.in1 (updateSeq S (·.push v) >>= _) _ _ _
      refine wpAny_bind (wpAny_updateSeq own rfl (wpAny_pure ⟨plainId_quiet F.plain_extend_loop _, ih (i' + 1) m'' _ _ H' _ (cont m'' _ _ s'.toks hm w' ⟨acc.push v, _, rfl, ?_⟩ (ig.put I' oth self fun u z => nomatch z) (ig.tnp I' st' oth))⟩) (by omega)
        (by show (acc.push v).size ≤ sizeLine + 1; rw [Array.size_push]; omega))
      rw [Array.toList_push]
      exact Paired.snoc hv r
    · obtain ⟨acc, c, rfl, hv⟩ := hX
      exact wpAny_pure (hR ys' acc c H' s' hv fin I')
/-- what is collected from it -/
theorem gx_collect {Q : List Value → Shared → Prop} {E : Value → Shared → Prop} {m : Nat} {H : Hp} {s : Shared} (ig : IGokL X pins σ a gn tn IG) (hA : B.handled = none) (hd : B.depth < recursionLimit)
    (G : GStartL X B.in1 IG tn fp W (outL W) Fin gn m H s) (hQ : ∀ ys (acc : Array Value) H' s', Vals ys acc.toList → Fin ys H' → Inv X pins σ H' s' → Q acc.toList s') : wpAny (model X.prog X.w) B (collect (.ref a)) Q E s := by
  have g0 := ig.isgen G.1
  have lt : (a : Nat) < s.heap.objs.size := by
    obtain ⟨o, nm, qn, ho, _⟩ := g0
    exact Heap.lt_size ho
  have nSa : s.heap.objs.size ≠ a := Nat.ne_of_gt lt
  unfold collect
  refine wpAny_bind (wpAny_runValue (codeAny_builtin F.entry_proto_collect (Around.under_plainId (A := B) F.plain_proto_collect _ ▸ ?_)))
  show wpAny _ B.in1 (newList [] >>= fun l => again (.builtin "list.__iadd__" ⟨[l, .ref a], []⟩)) _ _ s
  refine wpAny_bind (wpAny_newObj_type (wpAny_pure ⟨plainId_quiet F.plain_list_iadd _, codeAny_builtin F.entry_list_iadd (Around.under_plainId (A := B) F.plain_list_iadd _ ▸ ?_)⟩))
  have k1 : ∀ b u, s.heap.get? b = some u → (s.heap.push { cls := .type "list", data := .seq ([] : List Value).toArray }).get? b = some u := fun b u e => Heap.get?_push_of_some _ e
  have gS : (s.heap.push { cls := .type "list", data := .seq ([] : List Value).toArray }).get? s.heap.objs.size = some (lsO #[] 0) := Heap.get?_push_size _ rfl
  generalize s.heap.push { cls := .type "list", data := .seq ([] : List Value).toArray } = h1 at k1 gS
  have ty : Shared.TypeIs { s with heap := h1 } (.ref a) "generator" := Heap.IsGen.typeIs (s := { s with heap := h1 }) (g0.keeps k1)
  show wpAny _ B.in1 (Builtin.List.listExtendWith (.ref s.heap.objs.size) (.ref a) (.ref s.heap.objs.size)) _ _ _
  unfold Builtin.List.listExtendWith
  refine wpAny_bind (wpAny_typeOf ty ?_)
  simp only [show Builtin.List.listSameRef (.ref s.heap.objs.size) (.ref a) = false by simp [Builtin.List.listSameRef, nSa], show (Value.type "generator" == Value.type "list") = false by decide, show (Value.type "generator" == Value.type "tuple") = false by decide, Bool.or_false, Bool.false_eq_true, if_false]
  refine wpAny_bind (wpAny_pyIter_gen (s := { s with heap := h1 }) (g0.keeps k1) (wpAny_bind (wpAny_holding ?_)))
  unfold Builtin.List.listLengthHint
  refine wpAny_bind (wpAny_specialOf ty F.gen_no_len ?_)
  show wpAny _ B.in1 (specialOf (Value.ref a) (Str.ofString "__length_hint__") >>= _) _ _ _
  refine wpAny_bind (wpAny_specialOf ty F.gen_no_hint (wpAny_pure ?_))
  show wpAny _ B.in1 (rule "list.extend.makes-room" >>= fun _ => Builtin.List.listTouch (.ref s.heap.objs.size) >>= fun _ => again (.builtin "list.extend.loop" ⟨[.ref s.heap.objs.size, .ref a, .ref s.heap.objs.size], []⟩)) _ _ _
  refine wpAny_bind (wpAny_rule (wpAny_bind ?_))
  show wpAny _ B.in1 (updateSeq s.heap.objs.size (·.push .none) >>= fun _ => updateSeq s.heap.objs.size (·.pop)) _ _ _
  refine wpAny_bind (wpAny_updateSeq gS rfl ?_)
  have gS2 := Heap.get?_update_self (Obj.mapSeq (·.push Value.none)) gS rfl
  refine wpAny_updateSeq gS2 rfl ?_
  have gS3 := Heap.get?_update_self (Obj.mapSeq (·.pop)) gS2 rfl
  have oth : ∀ b u, b ≠ s.heap.objs.size → h1.get? b = some u → ((h1.update s.heap.objs.size (Obj.mapSeq (·.push Value.none))).update s.heap.objs.size (Obj.mapSeq (·.pop))).get? b = some u := fun b u nb e =>
    (Heap.get?_update_other _ _ (Ne.symm nb)).trans ((Heap.get?_update_other _ _ (Ne.symm nb)).trans e)
  have I1 := ig.add (tk := s.toks) G.1 k1 (Nat.le_refl _) gS fun u z => nomatch z
  have st1 := ig.tnk G.2.1 k1
  have I3 := ig.put (tk := s.toks) I1 oth gS3 fun u z => nomatch z
  have st3 := ig.tnp I1 st1 oth
  refine wpAny_pure ⟨plainId_quiet F.plain_extend_loop _, gx_extend ig hA hd (fun ys acc c H' s' hv fin I' => ?_) (m + 1) 0 m [] _ H _ (G.run (PX := pxL s.heap.objs.size) ⟨#[], _, rfl, .nil⟩ I3 st3)⟩
  show wpAny _ B (load s.heap.objs.size >>= _) _ _ s'
  exact wpAny_bind (wpAny_load (ig.own I') (wpAny_pure (hQ ys acc H' s' hv fin (ig.back I'))))
theorem gx_tuple {A : Around} {Q : Value → Shared → Prop} {E : Value → Shared → Prop} {m : Nat} {H : Hp} {s : Shared} (ig : IGokL X pins σ a gn tn IG) (hA : A.handled = none) (hd : A.depth < recursionLimit)
    (G : GStartL X A.in1.in1.in1 IG tn fp W (outL W) Fin gn m H s) (hz : ∀ ys H', Fin ys H' → ys.length ≤ sizeLine)
    (hQ : ∀ ys (acc : Array Value) H' s', Vals ys acc.toList → Fin ys H' → Inv X pins σ H' s' → Q (.ref s'.heap.objs.size) { s' with heap := s'.heap.push { cls := .type "tuple", data := .seq acc } }) :
    wpAny (model X.prog X.w) A (call (.type "tuple") [.ref a]) Q E s := by
  refine callType_codes (Q₁ := fun obj s1 => s1.TypeIs obj "tuple" ∧ Q obj s1) F.called_tuple (F.typeCall_tuple_1 _) F.entry_object_init (codeAny_of_tree ?_) fun obj s1 h1 =>
    ⟨h1.1, F.args_object_init_2 obj _, object_init_meets F.called_tuple.init.lookup F.called_tuple.made (by decide) X.prog X.w A.in1 _ s1 ⟨h1.1, rfl, h1.2⟩⟩
  show wpAny _ A.in1.in1 (do checkBuiltinCall "tuple.__new__" ⟨[.type "tuple", .ref a], []⟩; again (.builtin "tuple.__new__" ⟨[.type "tuple", .ref a], []⟩)) _ _ s
  refine wpAny_bind (wpAny_of_eq (F.newCall_tuple_1 _) (wpAny_pure ⟨plainId_quiet F.plain_tuple_new _, codeAny_builtin F.entry_tuple_new (Around.under_plainId (A := A.in1) F.plain_tuple_new _ ▸ ?_)⟩))
  have e1 := sub_tuple_self
  have e2 := init_tuple_lookup
  have e3 := madeHere_tuple
  have ty : s.TypeIs (.ref a) "generator" := Heap.IsGen.typeIs (ig.isgen G.1)
  wp_walk using wpAny_typeOf ty, gx_collect (B := A.in1.in1) ig hA hd G
  intro ys acc H' s' hv fin I'
  show wpAny _ _ (Builtin.Tuple.tupleExact acc.toList.toArray >>= fun v => ret v) _ _ _
  unfold Builtin.Tuple.tupleExact
  rw [show acc.toList.toArray = acc by simp]
  exact wpAny_bind (wpAny_newObj_type (wpAny_pure ⟨⟨_, Heap.get?_push_size _ rfl, rfl⟩, hQ ys acc H' s' hv fin I'⟩) (by show acc.size ≤ sizeLine; rw [vals_lenG hv]; exact hz ys H' fin))
end
def tTupG (T : Addr) (wi : TI) (g : TG) (tt : TT) (te : TE) (vs : List Nat) : TE := fun σ H Q => wi σ H fun J H1 => GxR.TabG H1 T ∧ ∀ H2, GxR.Tabbed T H1 H2 → ∃ W : Nat → Nat → List V → Hp → Prop, (∃ m, W 0 m [] H2) ∧
  GTurnsL J g tt te vs σ W (outL W) (fun ys H' => ys.length ≤ sizeLine ∧ ∀ p, H' p = none → Q (.ref p) (upd H' p (.tup ys)))
section
variable {X : Cx} {pins : List (Addr × Obj)} {σ : L2.St}
theorem pe_tupG {c T : Addr} {elt tg iter : Expr} {ifs : List Expr} {scope : Scope} {own : List (Str × Nat)} {gpos p pos : Pos} {wi : TI} {g : TG} {tt : TT} {te : TE} {k : Nat}
    (hr : Room (k + 1) X.A) (hgl : Gl X "tuple") (hm : X.mg "tuple" = none) (hc : X.calm = true) (hN : X.N.Nodup) (TB : GxR.TabB X.base X.mg c T) (hcode : X.env.code = .ref c) (ok : GOk X.N X.env.scope scope own) (hi : PI X tg iter wi)
    (hg : ∀ (A' : Around) (s3 : Shared) (H3 : Hp) (C : Addr) (code : Value) (fp : List Addr), PG (gxc X A' s3 H3 (genE X scope C code) fp) tg g)
    (ht : ∀ (A' : Around) (s3 : Shared) (H3 : Hp) (C : Addr) (code : Value) (fp : List Addr), Room k A' → PTs (gxc X A' s3 H3 (genE X scope C code) fp) ifs tt)
    (he : ∀ (A' : Around) (s3 : Shared) (H3 : Hp) (C : Addr) (code : Value) (fp : List Addr), Room k A' → PE (gxc X A' s3 H3 (genE X scope C code) fp) elt te)
    (hs : ∀ v, genFold iter X.env v = pure v := by intro _; rfl)
    (hst : starEach [.GeneratorExp elt [⟨tg, iter, ifs, 0⟩] scope gpos] X.env = (false, eval (.GeneratorExp elt [⟨tg, iter, ifs, 0⟩] scope gpos) X.env) :: starEach [] X.env := by rfl) :
    PE X (.Call (.Name "tuple" p) [.GeneratorExp elt [⟨tg, iter, ifs, 0⟩] scope gpos] [] pos) (tTupG T wi g tt te (own.map (·.2))) := by
  refine ⟨fun pins s σ H Q I h => wpAny_Call_Name_kw (ld_blt I hgl hm (show bootBuiltins "tuple" = some (.type "tuple") by decide +kernel) ?_)⟩
  refine PyProof.Rows.callWith_type1 ?_ hst (by rfl)
  rw [hst]
  have hA := I.ok.hd hc
  have hf := I.ok.frames
  refine Calls.spliced_cons (gx_mkL (Outf := outL) (Fin := fun ys H' => ys.length ≤ sizeLine ∧ ∀ p, H' p = none → Q (.ref p) (upd H' p (.tup ys)))
    X.A.in1.in1.in1 hA hf (Nat.le_refl _) (by show X.A.units + 1 + 1 + 1 ≤ _; omega) hr hc hN TB hcode ok hi hg ht he hs I h ?_)
  intro IG tn fp W a gn m H2 s5 ig G
  refine Calls.spliced_nil (gx_tuple ig hA (Nat.lt_of_le_of_lt (by omega : X.A.depth ≤ X.A.depth + 3 * (k + 1) + 5) hr.dp) G (fun ys H' z => z.1) fun ys acc H' s' hv fin I' => ?_)
  have nw := I'.hok.fresh (Nat.le_refl s'.heap.objs.size)
  exact ⟨.ref s'.heap.objs.size, _, I'.laid (t' := s'.toks) (o := .tup ys) (fun b u e => Heap.get?_push_of_some _ e) (Nat.le_refl _) ⟨fin.1, acc.toList, hv, ⟨_, Heap.get?_push_size _ rfl, rfl, 0, by show Data.seq acc 0 = Data.seq acc.toList.toArray 0; rw [Array.toArray_toList]⟩⟩, rfl, fin.2 _ nw⟩
end
/-! ### with_places -/
def swp (o t x : Str) : Str := if x = o then t else if x = t then o else x
theorem sw_ent {e : Ent} (h : e.word = "swap") : ∃ n m o t, e = .swap n m o t := by
  cases e with
  | come n m g p k r => exact absurd h (show ("come" : Str) ≠ "swap" by decide +kernel)
  | go n m g p k => exact absurd h (show ("go" : Str) ≠ "swap" by decide +kernel)
  | move n m g o t k => exact absurd h (show ("move" : Str) ≠ "swap" by decide +kernel)
  | some_ n m g o t => exact absurd h (show ("some" : Str) ≠ "swap" by decide +kernel)
  | swap n m o t => exact ⟨n, m, o, t, rfl⟩
  | count n m g p k hd => exact absurd h (show ("count" : Str) ≠ "swap" by decide +kernel)
  | look n m g p => exact absurd h (show ("look" : Str) ≠ "swap" by decide +kernel)
def Ent.mp (τ : Str → Str) : Ent → Ent
  | .come n m g p k r => .come n m g (τ p) k r
  | .go n m g p k => .go n m g (τ p) k
  | .move n m g o t k => .move n m g (τ o) (τ t) k
  | .some_ n m g o t => .some_ n m g (τ o) (if t = "" then "" else τ t)
  | .swap n m o t => .swap n m (τ o) (τ t)
  | .count n m g p k h => .count n m g (τ p) k h
  | .look n m g p => .look n m g (τ p)
def spWithPl : Sp := fun vs H Q _ => ∃ (a b : Addr) (e : Ent) (τ : Str → Str), vs = [.ref a, .ref b] ∧ H a = some (.tup e.vals) ∧ H b = some (.tup ((e.places.map τ).map V.str)) ∧
  (∀ y ∈ e.places, τ y ≠ "") ∧ ∀ (t : Addr) (H' : Hp), Same H H' → H' t = some (.tup (e.mp τ).vals) → Q (.ref t) H'
theorem places_leW (e : Ent) : e.places.length ≤ 2 ∧ 1 ≤ e.places.length := by
  cases e with
  | some_ n m g o t =>
    by_cases z : t = ""
    · rw [show Ent.places (.some_ n m g o t) = [o] from if_pos z]
      exact ⟨by simp, by simp⟩
    · rw [show Ent.places (.some_ n m g o t) = [o, t] from if_neg z]
      exact ⟨by simp, by simp⟩
  | _ => exact ⟨by simp [Ent.places], by simp [Ent.places]⟩
theorem mp_vals3 {τ : Str → Str} {n : Str} {m : Int} {o t : Str} : (Ent.swap n m o t).vals.take 3 ++ ((Ent.swap n m o t).places.map τ).map V.str ++ (Ent.swap n m o t).vals.drop (3 + (((Ent.swap n m o t).places.map τ).map V.str).length) = ((Ent.swap n m o t).mp τ).vals := rfl
theorem mp_vals4 {τ : Str → Str} {e : Ent} (h : e.word ≠ "swap") : e.vals.take 4 ++ (e.places.map τ).map V.str ++ e.vals.drop (4 + ((e.places.map τ).map V.str).length) = (e.mp τ).vals := by
  cases e with
  | swap n m o t => exact absurd rfl h
  | some_ n m g o t =>
    by_cases z : t = ""
    · subst z
      simp [Ent.places, Ent.mp, Ent.vals, Ent.rest]
      exact ⟨rfl, rfl, rfl⟩
    · rw [show Ent.places (.some_ n m g o t) = [o, t] from if_neg z, show Ent.mp τ (.some_ n m g o t) = .some_ n m g (τ o) (τ t) from congrArg (Ent.some_ n m g (τ o)) (if_neg z)]
      rfl
  | _ => rfl
section
variable {P : Program} {w : World} {K : PySem.W.Frag} {mg : Str → Option Value} {base : Heap}
theorem scWithPl : FnScope ["entry", "places", "start"] ["entry", "places"] (defScope sWithPlaces) := ⟨rfl, rfl, rfl, by decide +kernel, rfl, by decide +kernel, by decide +kernel⟩
theorem ok_withPl {f : Addr} {fd : FuncData} (F : Fun K "with_places" "with_places" sWithPlaces f fd) (ml : mg "len" = none) : FnOk P w K mg base CX0 1 f fd ["entry", "places"] spWithPl := by
  refine F.ok scWithPl (fun vs H Q E h => ?_) (fun cdv A outer s H vs Q E hr h => ?_)
  · obtain ⟨a, b, e, τ, rfl, _⟩ := h
    rfl
  · obtain ⟨a, b, e, τ, rfl, ha, hb, full, q⟩ := h
    have nd := scWithPl.nd
    refine ⟨_, pss_cons (ps_set (i := 2) nd rfl (Or.inl rfl) (pe_ifExp (pt_cmpR op_eq (pe_ix ix_tup (pv 0) pe_int (fun _ _ => rfl)) pe_str (nomark _)) pe_int pe_int))
      (pss_one (ps_ret (pe_op op_catS (pe_op op_catS (pe_slice sl_S (pv 0) po_none (po_some (pv 2))) (pv 1)) (pe_slice sl_S (pv 0) (po_some (pe_op op_add (pv 2) (pe_callB call_len_seq (by rfl) ml PySem.boot_len (pa_cons (pv 1) pa_nil)))) po_none)))), ?_⟩
    obtain ⟨v5, v7⟩ := vals_len_e e
    obtain ⟨p2, p1⟩ := places_leW e
    have lp : ((e.places.map τ).map V.str).length = e.places.length := by rw [List.length_map, List.length_map]
    have ne0 : ∀ {k : Nat}, 0 < k → e.vals.take k ≠ [] := fun hk z => by
      have := congrArg List.length z
      rw [List.length_take, List.length_nil] at this
      omega
    have lt0 : ∀ {k : Nat}, (e.vals.take k).length ≤ 7 := fun {k} => by
      rw [List.length_take]
      omega
    refine ⟨_, rfl, a, _, 0, _, rfl, rfl, SqT.of ha, at0 e, rfl, _, rfl, ite2 (fun z => ?_) (fun z => ?_)⟩
    · have isw : e.word = "swap" := V.str.inj (of_decide_eq_true z)
      refine ⟨_, rfl, _, rfl, 3, rfl, a, _, rfl, ha, fun p H1 s1 g1 => ?_⟩
      replace g1 : H1 p = some (.tup (e.vals.take 3)) := g1.trans (congrArg (fun z => some (HO.tup z)) (cut_head (k := 3)))
      refine ⟨_, rfl, p, b, _, _, rfl, rfl, g1, s1 _ _ hb, ne0 (by decide), small_sz (by have := @lt0 3; omega), fun t H2 s2 g2 => ?_⟩
      refine ⟨_, rfl, _, rfl, _, rfl, b, _, rfl, .inr (SqT.of (s2 _ _ (s1 _ _ hb))), 3, _, rfl, rfl, _, rfl, a, _, rfl, s2 _ _ (s1 _ _ ha), fun u H3 s3 g3 => ?_⟩
      have e0 : ((3 : Int) + (((e.places.map τ).map V.str).length : Int)) = ((3 + ((e.places.map τ).map V.str).length : Nat) : Int) := by omega
      rw [e0, cut_tail] at g3
      refine ⟨t, u, _, _, rfl, rfl, s3 _ _ g2, g3, ?_, small_sz (by rw [List.length_append, List.length_drop]; have := @lt0 3; omega), fun v H4 s4 g4 => q v H4 (s1.trans (s2.trans (s3.trans s4))) ?_⟩
      · exact fun z => ne0 (k := 3) (by decide) (List.append_eq_nil_iff.mp z).1
      · obtain ⟨nm, mo, o, tt, rfl⟩ := sw_ent isw
        rw [g4]
        exact congrArg (fun z => some (HO.tup z)) mp_vals3
    · have isw : e.word ≠ "swap" := fun y => z (decide_eq_true (congrArg V.str y))
      refine ⟨_, rfl, _, rfl, 4, rfl, a, _, rfl, ha, fun p H1 s1 g1 => ?_⟩
      replace g1 : H1 p = some (.tup (e.vals.take 4)) := g1.trans (congrArg (fun z => some (HO.tup z)) (cut_head (k := 4)))
      refine ⟨_, rfl, p, b, _, _, rfl, rfl, g1, s1 _ _ hb, ne0 (by decide), small_sz (by have := @lt0 4; omega), fun t H2 s2 g2 => ?_⟩
      refine ⟨_, rfl, _, rfl, _, rfl, b, _, rfl, .inr (SqT.of (s2 _ _ (s1 _ _ hb))), 4, _, rfl, rfl, _, rfl, a, _, rfl, s2 _ _ (s1 _ _ ha), fun u H3 s3 g3 => ?_⟩
      have e0 : ((4 : Int) + (((e.places.map τ).map V.str).length : Int)) = ((4 + ((e.places.map τ).map V.str).length : Nat) : Int) := by omega
      rw [e0, cut_tail] at g3
      refine ⟨t, u, _, _, rfl, rfl, s3 _ _ g2, g3, ?_, small_sz (by rw [List.length_append, List.length_drop]; have := @lt0 4; omega), fun v H4 s4 g4 => q v H4 (s1.trans (s2.trans (s3.trans s4))) ?_⟩
      · exact fun z => ne0 (k := 4) (by decide) (List.append_eq_nil_iff.mp z).1
      · rw [g4]
        exact congrArg (fun z => some (HO.tup z)) (mp_vals4 isw)
end
/-! ### in_order of a tuple -/
def spInOrderT : Sp := fun vs H Q _ => ∃ (l : Addr) (pr : List (Addr × Ent)), vs = [.ref l] ∧ H l = some (.tup (pr.map fun x => V.ref x.1)) ∧ (∀ x ∈ pr, H x.1 = some (.tup x.2.vals)) ∧
  ∀ (tp : Addr) (H' : Hp), H tp = none → Same H H' → H' tp = some (.tup ((sortE pr).map fun x => V.ref x.1)) → Q (.ref tp) H'
section
variable {P : Program} {w : World} {K : PySem.W.Frag} {mg : Str → Option Value} {base : Heap}
theorem ok_inOrderT {f fO : Addr} {fd dO : FuncData} (F : Fun K "in_order" "in_order" sInOrder f fd) (O : DefT P w K mg base "order_of" 1 fO dO ["entry"] spOrd) (ms : mg "sorted" = none) (mt : mg "tuple" = none) : FnOk P w K mg base CX0 4 f fd ["entries"] spInOrderT := by
  refine F.ok sc_sInOrder (fun vs H Q E h => ?_) (fun cdv A outer s H vs Q E hr h => ?_)
  · obtain ⟨l, pr, rfl, _⟩ := h
    rfl
  · obtain ⟨l, pr, rfl, hl, hE, q⟩ := h
    have nd := sc_sInOrder.nd
    have hr3 : Room 3 _ := hr
    have nd := sc_sInOrder.nd
    have hr3 : Room 3 _ := hr.mono (by decide)
    refine ⟨_, pss_one (ps_ret (pe_callTy call_tuple_of (by rfl) mt (by decide +kernel) (pa_cons (pe_callBK (cr_sortKT O.ok hr3 O.b) (by rfl) ms (by decide +kernel) (pa_cons (pv 0) pa_nil) (pk_cons (pe_glob (v := .ref fO) (by rfl) O.g rfl) pk_nil)) pa_nil))), ?_⟩
    refine ⟨_, rfl, l, pr.map prV, rfl, rfl, SqT.of (by rw [hl, List.map_map]; rfl), ?_, .inl ?_, ?_, ?_, fun a3 H10 na3 s3 h3 => ⟨a3, _, rfl, .inl ⟨SqL.of h3, fun t3 nt3 => ?_⟩⟩⟩
    · intro d hd d' hd'
      rw [List.map_map] at hd hd'
      obtain ⟨x, _, rfl⟩ := List.mem_map.mp hd
      obtain ⟨y, _, rfl⟩ := List.mem_map.mp hd'
      exact ord_alike x.2 y.2
    · intro d hd
      rw [List.map_map] at hd
      obtain ⟨x, _, rfl⟩ := List.mem_map.mp hd
      exact ⟨_, _, rfl⟩
    · intro e he
      obtain ⟨x, _, rfl⟩ := List.mem_map.mp he
      show 1 ≤ 60
      decide
    · intro e he H1 sm Q1 hq
      obtain ⟨x, hx, rfl⟩ := List.mem_map.mp he
      exact ⟨x.1, x.2, rfl, sm _ _ (hE x hx), fun tp H2 sm2 h2 => hq _ _ sm2 (ord_dp h2)⟩
    · rw [keyed_prV]
      refine q t3 _ ?_ (s3.trans (same_new nt3)) ?_
      · cases e : H t3 with
        | none => rfl
        | some o => exact absurd (s3 _ _ e) (by rw [nt3]; intro z; cases z)
      · rw [upd_same, List.map_map]
        rfl
end
/-! ### any(..) of a generator expression; list.count of texts -/
def tAnyG (T : Addr) (wi : TI) (g : TG) (tt : TT) (te : TE) (vs : List Nat) : TE := fun σ H Q => wi σ H fun J H1 => GxR.TabG H1 T ∧ ∀ H2, GxR.Tabbed T H1 H2 → ∃ W : Nat → Nat → Hp → Prop, (∃ m, W 0 m H2) ∧
  GTurns J g tt te vs σ W (fun i m y H' => ∃ k, y = .bl k ∧ (if k = true then Q (.bl true) H' else ∃ m', m' < m ∧ W (i + 1) m' H')) (fun H' => Q (.bl false) H')
section
variable {X : Cx} {pins : List (Addr × Obj)} {σ : L2.St}
theorem any_loop {IG : Hp → Shared → Prop} {tn : Nat → Heap → Prop} {fp : List Addr} {W : Nat → Nat → Hp → Prop} {a : Addr} {gn : Nat} {Q : VK} {R : Result → Shared → Prop} (ig : IGok X pins σ a gn IG) (hA : X.A.handled = none) (hd : X.A.depth < recursionLimit)
    (hR : ∀ b H s, Q (.bl b) H → IG H s → R (.ok (.ret (.bool b))) s) : ∀ (n i m : Nat) (H : Hp) (s : Shared),
    GRun X X.A.in1 IG tn fp W (fun i m y H' => ∃ k, y = .bl k ∧ (if k = true then Q (.bl true) H' else ∃ m', m' < m ∧ W (i + 1) m' H')) (fun H' => Q (.bl false) H') gn i m n H s →
    codeAny (model X.prog X.w) X.A (.builtin "any.loop" ⟨[.ref a], []⟩) R s := by
  intro n
  induction n with
  | zero =>
    intro i m H s G
    obtain ⟨_, _, _, _, gs, _, h, _⟩ := G
    exact absurd h (Nat.not_lt_zero _)
  | succ n ih =>
    intro i m H s G
    refine codeAny_builtin F.entry_any_loop ?_
    rw [Around.under_plainId F.plain_any_loop _]
    show wpAny _ X.A.in1 (pyNext (.ref a) >>= _) _ _ s
    refine wpAny_bind (gx_next ig hA hd G (fun v y H' s' i' m' r out I' cont => ?_) fun H' s' fin I' => ?_)
    · obtain ⟨k, rfl, hk⟩ := out
      obtain rfl : v = .bool k := r
      refine wpAny_bind (wpAny_holding (wpAny_truthy_bool ?_))
      refine wpAny_bind (wpAny_letGo ?_)
      cases k with
      | false =>
        obtain ⟨m'', hm, w'⟩ := hk
        exact wpAny_pure ⟨plainId_quiet F.plain_any_loop _, ih (i' + 1) m'' H' s' (cont m'' hm w')⟩
      | true =>
        refine wpAny_bind (wpAny_rule (wpAny_pure ?_))
        exact hR true H' s' hk I'
    · refine wpAny_bind (wpAny_rule (wpAny_pure ?_))
      exact hR false H' s' fin I'
theorem pe_anyG {c T : Addr} {elt tg iter : Expr} {ifs : List Expr} {scope : Scope} {own : List (Str × Nat)} {gpos p pos : Pos} {wi : TI} {g : TG} {tt : TT} {te : TE} {k : Nat}
    (hr : Room (k + 1) X.A) (hgl : Gl X "any") (hm : X.mg "any" = none) (hc : X.calm = true) (hN : X.N.Nodup) (TB : GxR.TabB X.base X.mg c T) (hcode : X.env.code = .ref c) (ok : GOk X.N X.env.scope scope own) (hi : PI X tg iter wi)
    (hg : ∀ (A' : Around) (s3 : Shared) (H3 : Hp) (C : Addr) (code : Value) (fp : List Addr), PG (gxc X A' s3 H3 (genE X scope C code) fp) tg g)
    (ht : ∀ (A' : Around) (s3 : Shared) (H3 : Hp) (C : Addr) (code : Value) (fp : List Addr), Room k A' → PTs (gxc X A' s3 H3 (genE X scope C code) fp) ifs tt)
    (he : ∀ (A' : Around) (s3 : Shared) (H3 : Hp) (C : Addr) (code : Value) (fp : List Addr), Room k A' → PE (gxc X A' s3 H3 (genE X scope C code) fp) elt te)
    (hs : ∀ v, genFold iter X.env v = pure v := by intro _; rfl)
    (hst : starEach [.GeneratorExp elt [⟨tg, iter, ifs, 0⟩] scope gpos] X.env = (false, eval (.GeneratorExp elt [⟨tg, iter, ifs, 0⟩] scope gpos) X.env) :: starEach [] X.env := by rfl) :
    PE X (.Call (.Name "any" p) [.GeneratorExp elt [⟨tg, iter, ifs, 0⟩] scope gpos] [] pos) (tAnyG T wi g tt te (own.map (·.2))) := by
  refine ⟨fun pins s σ H Q I h => wpAny_Call_Name_kw (ld_blt I hgl hm (show bootBuiltins "any" = some (.builtin "any") by decide +kernel) ?_)⟩
  refine PyProof.Rows.callWith_builtin1 ?_ hst (by rfl)
  rw [hst]
  have hA := I.ok.hd hc
  have hf := I.ok.frames
  refine Calls.spliced_cons (gx_mk (Outf := fun W i m y H' => ∃ k, y = .bl k ∧ (if k = true then Q (.bl true) H' else ∃ m', m' < m ∧ W (i + 1) m' H')) (Fin := fun H' => Q (.bl false) H')
    X.A.in1 hA hf (Nat.le_refl _) (by show X.A.units + 1 ≤ _; omega) hr hc hN TB hcode ok hi hg ht he hs I h ?_)
  · intro IG tn fp W a gn m H2 s5 ig hk G
    refine Calls.spliced_nil ?_
    refine call_function_tree F.kind_any F.plain_any F.entry_any (F.args_any1 _) ?_
    unfold Builtin.«any»
    refine wpAny_bind (m := oneArg "any" _) (wpAny_pure ?_)
    refine wpAny_bind (wpAny_pyIter_gen (ig.isgen G.1) ?_)
    exact wpAny_pure ⟨plainId_quiet F.plain_any_loop _, any_loop ig hA (Nat.lt_of_le_of_lt (by omega : X.A.depth ≤ X.A.depth + 3 * (k + 1) + 5) hr.dp) (fun b H s q I' => ⟨.bl b, H, ig.back I', rfl, q⟩) _ _ _ _ _ G⟩
end
theorem any_over {J : It} {At : Hp → Prop} {T : Addr} {xs : List V} {g : TG} {tt : TT} {te : TE} {vs : List Nat} {σ : L2.St} {H : Hp} {Q : VK} (o : Over J xs At) (W : Nat → Hp → Prop) (tg : GxR.TabG H T) (h0 : ∀ H2, GxR.Tabbed T H H2 → W 0 H2) (hl : ∀ i H', i ≤ xs.length → W i H' → At H')
    (step : ∀ i x H' (Go : Hp → Prop), xs[i]? = some x → W i H' → (∀ H4, W (i + 1) H4 → Go H4) → g x (wipe σ vs) H' fun σ2 H2 => wipe σ2 vs = wipe σ vs ∧ tt σ2 H2 fun b H3 => if b = true then te σ2 H3 fun y H4 => ∃ k, y = .bl k ∧ (if k = true then Q (.bl true) H4 else Go H4) else Go H3)
    (done : ∀ H', W xs.length H' → Q (.bl false) H') :
    GxR.TabG H T ∧ ∀ H2, GxR.Tabbed T H H2 → ∃ W : Nat → Nat → Hp → Prop, (∃ m, W 0 m H2) ∧
      GTurns J g tt te vs σ W (fun i m y H' => ∃ k, y = .bl k ∧ (if k = true then Q (.bl true) H' else ∃ m', m' < m ∧ W (i + 1) m' H')) (fun H' => Q (.bl false) H') := by
  refine ⟨tg, fun H2 tb => ⟨fun i m H' => m = xs.length - i ∧ i ≤ xs.length ∧ W i H', ⟨_, rfl, Nat.zero_le _, h0 H2 tb⟩, ?_⟩⟩
  rintro i m H3 ⟨rfl, hi, w3⟩
  by_cases lt : i < xs.length
  · refine .inr ⟨o.go i H3 xs[i] (hl i H3 hi w3) (List.getElem?_eq_getElem lt), fun x H' y => ?_⟩
    obtain ⟨rfl, hx⟩ := o.yld i H3 x H' (hl i H3 hi w3) y
    exact step i x _ (fun H' => ∃ m', m' < xs.length - i ∧ m' = xs.length - (i + 1) ∧ i + 1 ≤ xs.length ∧ W (i + 1) H') hx w3 fun H4 w4 => ⟨_, by omega, rfl, lt, w4⟩
  · have ei : i = xs.length := by omega
    exact .inl ⟨o.stop i H3 (hl i H3 hi w3) (by omega), done H3 (ei ▸ w3)⟩
def eqsV (z : Str) : Value → Bool
  | .str y _ => y == z
  | _ => false
def rCntS (K : PySem.W.Frag) : V → List V → Hp → VK → Prop := fun x xs H Q => ∃ (p : Addr) (ns : List Str) (k : Str), x = .ref p ∧ xs = [.str k] ∧ SqL K H p (ns.map V.str) ∧ Q (.int (ns.count k : Nat)) H
theorem cnt_strs {z : Str} : ∀ {ns : List Str} {us : List Value}, Vals (ns.map V.str) us → us.countP (eqsV z) = ns.count z
  | [], _, .nil => rfl
  | n :: r, _, .cons h t => by
    obtain ⟨u, rfl⟩ : ∃ u, _ = Value.str n u := h
    rw [List.countP_cons, cnt_strs t, List.count_cons]
    rfl
theorem mt_lcountS {X : Cx} : MtR X "list.count" (rCntS X.K) := by
  rintro pins s σ H x xs v us Q I rx rxs ⟨p, ns, k, rfl, rfl, hs, q⟩
  cases rx
  obtain ⟨u, rfl, ru⟩ := rxs.one
  obtain ⟨t, rfl⟩ := ru
  obtain ⟨its, rv, ⟨⟨cls, dd, data, sl⟩, n, ho, hc, hdn, hd⟩, hlen⟩ := I.list hs
  dsimp only at hc hd
  subst hc hd
  refine call_meets PySem.F.slot_list_count ⟨_, ho, rfl⟩ PySem.F.entry_list_count (PySem.F.args_list_count_2 _ _)
    (SeqAt.list_countAt p its.toArray n dd sl (.str k t) (eqsV k)) ⟨ho, fun y hy => ?_, ?_⟩
  · obtain ⟨i, hi⟩ := List.mem_iff_getElem?.mp (show y ∈ its by simpa using hy)
    obtain ⟨w, hw, rw'⟩ := vals_get rv hi
    rw [List.getElem?_map] at hw
    obtain ⟨z, _, rfl⟩ := Option.map_eq_some_iff.mp hw
    obtain ⟨t', rfl⟩ : ∃ t', y = Value.str z t' := rw'
    exact SeqAt.EqAt.str_str z t' k t
  · refine ⟨.int (ns.count k : Nat), H, I.tok _, ⟨s.toks, ?_⟩, q⟩
    show Value.int ((its.toArray.toList.countP (eqsV k) : Nat) : Int) s.toks = _
    rw [List.toList_toArray, cnt_strs rv]
/-! ### tuple(.. for x in xs), any list of what is told so far -/
theorem tup_over {J : It} {At : Hp → Prop} {T : Addr} {xs : List V} {g : TG} {tt : TT} {te : TE} {vs : List Nat} {σ : L2.St} {H : Hp} {Q : VK} (o : Over J xs At) (lx : xs.length ≤ 900) (W : Nat → List V → Hp → Prop) (tg : GxR.TabG H T) (h0 : ∀ H2, GxR.Tabbed T H H2 → W 0 [] H2) (hl : ∀ i ys H', i ≤ xs.length → W i ys H' → At H') (ln : ∀ i ys H', W i ys H' → ys.length ≤ i)
    (step : ∀ i x ys H' (Ga : V → Hp → Prop) (Gs : Hp → Prop), xs[i]? = some x → W i ys H' → (∀ y H4, W (i + 1) (ys ++ [y]) H4 → Ga y H4) → (∀ H4, W (i + 1) ys H4 → Gs H4) → g x (wipe σ vs) H' fun σ2 H2 => wipe σ2 vs = wipe σ vs ∧ tt σ2 H2 fun b H3 => if b = true then te σ2 H3 fun y H4 => Ga y H4 else Gs H3)
    (done : ∀ ys H', W xs.length ys H' → ∀ p, H' p = none → Q (.ref p) (upd H' p (.tup ys))) :
    GxR.TabG H T ∧ ∀ H2, GxR.Tabbed T H H2 → ∃ W : Nat → Nat → List V → Hp → Prop, (∃ m, W 0 m [] H2) ∧
      GTurnsL J g tt te vs σ W (outL W) (fun ys H' => ys.length ≤ sizeLine ∧ ∀ p, H' p = none → Q (.ref p) (upd H' p (.tup ys))) := by
  refine ⟨tg, fun H2 tb => ⟨fun i m ys H' => m = xs.length - i ∧ i ≤ xs.length ∧ W i ys H', ⟨_, rfl, Nat.zero_le _, h0 H2 tb⟩, ?_⟩⟩
  rintro i m ys H3 ⟨rfl, hi, w3⟩
  have l3 := ln i ys H3 w3
  by_cases lt : i < xs.length
  · refine .inr ⟨o.go i H3 xs[i] (hl i ys H3 hi w3) (List.getElem?_eq_getElem lt), fun x H' y => ?_⟩
    obtain ⟨rfl, hx⟩ := o.yld i H3 x H' (hl i ys H3 hi w3) y
    exact step i x ys _ _ _ hx w3 (fun y H4 w4 => ⟨small1000 (by omega), xs.length - (i + 1), by omega, rfl, lt, w4⟩) fun H4 w4 => ⟨xs.length - (i + 1), by omega, rfl, lt, w4⟩
  · have ei : i = xs.length := by omega
    exact .inl ⟨o.stop i H3 (hl i ys H3 hi w3) (by omega), Nat.le_of_lt (small1000 (by omega)), done ys H3 (ei ▸ w3)⟩
theorem tup_tup {K : PySem.W.Frag} {T l : Addr} {xs : List V} {g : TG} {tt : TT} {te : TE} {vs : List Nat} {σ : L2.St} {H : Hp} {Q : VK} {k : Nat} (h : SqT K H l xs) (hv : σ[k]? = some (some (.ref l))) (lx : xs.length ≤ 900) (W : Nat → List V → Hp → Prop) (tg : GxR.TabG H T) (h0 : ∀ H2, GxR.Tabbed T H H2 → W 0 [] H2) (hl : ∀ i ys H', i ≤ xs.length → W i ys H' → SqT K H' l xs) (ln : ∀ i ys H', W i ys H' → ys.length ≤ i)
    (step : ∀ i x ys H' (Ga : V → Hp → Prop) (Gs : Hp → Prop), xs[i]? = some x → W i ys H' → (∀ y H4, W (i + 1) (ys ++ [y]) H4 → Ga y H4) → (∀ H4, W (i + 1) ys H4 → Gs H4) → g x (wipe σ vs) H' fun σ2 H2 => wipe σ2 vs = wipe σ vs ∧ tt σ2 H2 fun b H3 => if b = true then te σ2 H3 fun y H4 => Ga y H4 else Gs H3)
    (done : ∀ ys H', W xs.length ys H' → ∀ p, H' p = none → Q (.ref p) (upd H' p (.tup ys))) : tTupG T (iTup K (tVar k)) g tt te vs σ H Q := ⟨_, hv, l, rfl, ⟨_, h⟩, tup_over over_t lx W tg h0 hl ln step done⟩
theorem any_tupT {K : PySem.W.Frag} {T l : Addr} {xs : List V} {g : TG} {tt : TT} {te : TE} {vs : List Nat} {σ : L2.St} {H : Hp} {Q : VK} {k : Nat} (h : SqT K H l xs) (hv : σ[k]? = some (some (.ref l))) (W : Nat → Hp → Prop) (tg : GxR.TabG H T) (h0 : ∀ H2, GxR.Tabbed T H H2 → W 0 H2) (hl : ∀ i H', i ≤ xs.length → W i H' → SqT K H' l xs)
    (step : ∀ i x H' (Go : Hp → Prop), xs[i]? = some x → W i H' → (∀ H4, W (i + 1) H4 → Go H4) → g x (wipe σ vs) H' fun σ2 H2 => wipe σ2 vs = wipe σ vs ∧ tt σ2 H2 fun b H3 => if b = true then te σ2 H3 fun y H4 => ∃ k, y = .bl k ∧ (if k = true then Q (.bl true) H4 else Go H4) else Go H3)
    (done : ∀ H', W xs.length H' → Q (.bl false) H') : tAnyG T (iTup K (tVar k)) g tt te vs σ H Q := ⟨_, hv, l, rfl, ⟨_, h⟩, any_over over_t W tg h0 hl step done⟩
/-! ### a house, its entries at their addresses -/
structure Ho7 (H : Hp) (h hp hg he : Addr) (P G : List Str) (pr : List (Addr × Ent)) : Prop where
  h0 : H h = some (.tup [.ref hp, .ref hg, .ref he])
  h1 : H hp = some (.tup (P.map V.str))
  h2 : H hg = some (.tup (G.map V.str))
  h3 : H he = some (.tup (pr.map fun x => V.ref x.1))
  e : ∀ x ∈ pr, H x.1 = some (.tup x.2.vals)
theorem Ho7.on {H H' : Hp} (k : TK H H') {h hp hg he : Addr} {P G : List Str} {pr : List (Addr × Ent)} (o : Ho7 H h hp hg he P G pr) : Ho7 H' h hp hg he P G pr := ⟨k _ _ o.h0, k _ _ o.h1, k _ _ o.h2, k _ _ o.h3, fun x hx => k _ _ (o.e x hx)⟩
theorem Ho7.at_ {H : Hp} {h hp hg he : Addr} {P G : List Str} {pr : List (Addr × Ent)} (o : Ho7 H h hp hg he P G pr) : HouseAt H h P G (pr.map (·.2)) :=
  ⟨hp, hg, he, pr.map (·.1), o.h0, o.h1, o.h2, by rw [o.h3, List.map_map]; rfl, ents_pairs o.e⟩
theorem Ho7.dp {K : PySem.W.Frag} {H : Hp} {h hp hg he : Addr} {P G : List Str} {pr : List (Addr × Ent)} (o : Ho7 H h hp hg he P G pr) : Dp K H (.ref h) (houseD P G (pr.map (·.2))) := o.at_.dp
/-- what holds of it -/
structure Ok7 (P G : List Str) (pr : List (Addr × Ent)) : Prop where
  p0 : P ≠ []
  p6 : P.length ≤ 6
  g0 : G ≠ []
  g3 : G.length ≤ 3
  np : ∀ y ∈ P, nameB y = true
  ng : ∀ y ∈ G, nameB y = true
  nd : (pr.map fun x => x.2.name).Nodup
  le : pr.length ≤ 31
  f : ∀ x ∈ pr, x.2.Fine ∧ ofB x.2 P G = true
theorem name_tells {pr : List (Addr × Ent)} (nd : (pr.map fun x => x.2.name).Nodup) {x y : Addr × Ent} (hx : x ∈ pr) (hy : y ∈ pr) (e : x.2.name = y.2.name) : x = y := by
  obtain ⟨i, hi⟩ := List.mem_iff_getElem?.mp hx
  obtain ⟨j, hj⟩ := List.mem_iff_getElem?.mp hy
  have : i = j := (List.getElem?_inj (by rw [List.length_map]; exact (List.getElem?_eq_some_iff.mp hi).1) nd).mp (by rw [List.getElem?_map, List.getElem?_map, hi, hj]; exact congrArg some e)
  rw [this, hj] at hi
  exact (Option.some.inj hi).symm
theorem fine_name {e : Ent} (f : e.Fine) : nameB e.name = true := by
  obtain ⟨y, h1, h2⟩ := fine_names f 1 (.inl rfl)
  have : e.vals[1]? = some (.str e.name) := by cases e <;> rfl
  rw [this] at h1
  rw [V.str.inj (Option.some.inj h1)]
  exact h2
theorem ps_nox {X : Cx} {st : Stmt} {t : TS} (h : PS X.nox st t) : PS X st t := by
  constructor
  intro pins z τ G D I hw
  exact wpAny_mono (h.run pins z τ G D (I.wish _) hw) (fun _ _ q => q.unwish) fun _ _ q => False.elim q
def spCalled7 (K : PySem.W.Frag) (CN : Addr) : Sp := fun vs H Q E => ∃ (h hp hg he : Addr) (P G : List Str) (pr : List (Addr × Ent)) (v : V), vs = [.ref h, v] ∧ Ho7 H h hp hg he P G pr ∧ Ok7 P G pr ∧ EqT.Tng K H v ∧
  ((∃ x ∈ pr, v = .str x.2.name ∧ Q (.ref x.1) H) ∨ ((∀ x ∈ pr, v ≠ .str x.2.name) ∧ E (.ref CN) none H))
section
variable {P : Program} {w : World} {K : PySem.W.Frag} {mg : Str → Option Value} {base : Heap}
abbrev sCalledN : List Str := ["house", "name", "entry"]
theorem sc_sCalled : FnScope sCalledN ["house", "name"] (defScope sCalled) := ⟨rfl, rfl, rfl, by decide +kernel, rfl, by decide +kernel, by decide +kernel⟩
set_option maxHeartbeats 2000000 in
theorem ok_called {f CN : Addr} {fd : FuncData} (F : Fun K "entry_called" "entry_called" sCalled f fd) (EN : Err K mg "NoName" CN) : FnOk P w K mg base (L2.CX P w) 1 f fd ["house", "name"] (spCalled7 K CN) := by
  refine F.okX sc_sCalled (fun vs H Q E h => ?_) (fun cdv A outer s H vs Q E hr h => ?_)
  · obtain ⟨h, hp, hg, he, Ps, G, pr, v, rfl, _⟩ := h
    rfl
  · obtain ⟨h, hp, hg, he, Ps, G, pr, v, rfl, ho, ok, tg, ways⟩ := h
    have nd := sc_sCalled.nd
    refine ⟨_, pss_cons (ps_nox <| ps_for PassesOwn.never rfl (pi_tup (pe_ix ix_tup (pv 0) pe_int (fun _ _ => rfl))) (pg_name (i := 2) nd rfl (Or.inl rfl))
        (pss_one (ps_if (pt_cmpR (EqT.op_eqT hr.units) (pe_ix ix_tup (pv 2) pe_int (fun _ _ => rfl)) (pv 1) (nomark _)) (pss_one (ps_ret (pv 2))) pss_nil)))
      (pss_one (ps_raise rfl (takes_of rfl rfl rfl rfl) (pmk_own PySem.F.excBase_ValueError EN.ex EN.gC EN.kp (raises_own EN.sb EN.ty) rfl))), ?_⟩
    refine ⟨_, rfl, h, _, 2, _, rfl, rfl, SqT.of ho.h0, atI_nat (j := 2) rfl, he, rfl, ⟨_, SqT.of ho.h3⟩, ?_⟩
    refine for_tup (K := K) (a := he) (xs := pr.map fun x => V.ref x.1) (fun i σ H' => ∃ y2, σ = [some (.ref h), some v, y2] ∧ H' = H ∧ ∀ x ∈ pr.take i, v ≠ .str x.2.name)
      ⟨_, rfl, rfl, fun e he => nomatch he⟩ (fun i σ H' _ z => by obtain ⟨_, _, rfl, _⟩ := z; exact SqT.of ho.h3) ?_ ?_
    · rintro i x σ H1 hx ⟨y2, rfl, rfl, no⟩
      rw [List.getElem?_map] at hx
      obtain ⟨x0, ha, rfl⟩ := Option.map_eq_some_iff.mp hx
      have mx := List.mem_of_getElem? ha
      refine ⟨_, rfl, x0.1, _, 1, _, rfl, rfl, SqT.of (ho.e x0 mx), at1 x0.2, _, rfl, x0.2.name, rfl, name_ok (fine_name (ok.f x0 mx).1), tg, _, rfl, ite2 (fun z => ?_) (fun z => ?_)⟩
      · have z' : v = .str x0.2.name := of_decide_eq_true z
        rcases ways with ⟨y, my, hv, q⟩ | ⟨none_, _⟩
        · rw [name_tells ok.nd my mx (V.str.inj (hv.symm.trans z'))] at q
          exact ⟨_, rfl, q⟩
        · exact absurd z' (none_ x0 mx)
      · refine ⟨_, rfl, rfl, fun y hy => ?_⟩
        rw [take_sn ha] at hy
        rcases List.mem_append.mp hy with hy | hy
        · exact no y hy
        · rw [List.mem_singleton.mp hy]
          exact fun y => z (decide_eq_true y)
    · rintro σ H1 ⟨y2, rfl, rfl, no⟩
      rw [List.length_map, List.take_length] at no
      rcases ways with ⟨y, my, hv, _⟩ | ⟨_, q⟩
      · exact absurd hv (no y my)
      · exact q
end
/-! ### with_entry, without_entry, with_turned -/
theorem Ok7.shape {P G : List Str} {pr : List (Addr × Ent)} (ok : Ok7 P G pr) {x : Addr × Ent} (hx : x ∈ pr) : SeqAt.shaped (entD x.2) = true := shaped_ent (fine_parts (ok.f x hx).1)
/-- what may be put in, or why not -/
def WithWays (Ts : List Addr) (CE CT CM : Addr) (h hp hg : Addr) (P G : List Str) (pr : List (Addr × Ent)) (v : V) (H : Hp) (Q : VK) (E : XK) : Prop :=
  (NoE H P G v ∧ ∀ H', TB1 Ts H H' → E (.ref CE) none H') ∨
  ∃ x : Addr × Ent, v = .ref x.1 ∧ H x.1 = some (.tup x.2.vals) ∧ x.2.Fine ∧ ofB x.2 P G = true ∧
    ((∃ y ∈ pr, y.2.name = x.2.name) → ∀ H', TB1 Ts H H' → E (.ref CT) none H') ∧
    ((∀ y ∈ pr, y.2.name ≠ x.2.name) → 30 ≤ pr.length → ∀ H', TB1 Ts H H' → E (.ref CM) none H') ∧
    ((∀ y ∈ pr, y.2.name ≠ x.2.name) → pr.length < 30 → ∀ (t he' : Addr) (H' : Hp), TB1 Ts H H' → Ho7 H' t hp hg he' P G (sortE (pr ++ [x])) → Q (.ref t) H')
def spWithE (Ts : List Addr) (CE CT CM : Addr) : Sp := fun vs H Q E => ∃ (h hp hg he : Addr) (P G : List Str) (pr : List (Addr × Ent)) (v : V), vs = [.ref h, v] ∧ Ho7 H h hp hg he P G pr ∧ Ok7 P G pr ∧ TabsG Ts H ∧ WithWays Ts CE CT CM h hp hg P G pr v H Q E
def spWithout (K : PySem.W.Frag) (Ts : List Addr) (CN : Addr) : Sp := fun vs H Q E => ∃ (h hp hg he : Addr) (P G : List Str) (pr : List (Addr × Ent)) (v : V), vs = [.ref h, v] ∧ Ho7 H h hp hg he P G pr ∧ Ok7 P G pr ∧ TabsG Ts H ∧ EqT.Tng K H v ∧
  ((∃ x ∈ pr, v = .str x.2.name ∧ ∀ (t he' : Addr) (H' : Hp), TB1 Ts H H' → Ho7 H' t hp hg he' P G (pr.filter fun y => decide (y.2.name ≠ x.2.name)) → Q (.ref t) H') ∨ ((∀ x ∈ pr, v ≠ .str x.2.name) ∧ ∀ H', TB1 Ts H H' → E (.ref CN) none H'))
/-- a move turned -/
def turnE (e : Ent) : Ent := match e with
  | .move n m g o t k => .move n m g t o k
  | e => e
def spTurned (K : PySem.W.Frag) (Ts : List Addr) (CN CM : Addr) : Sp := fun vs H Q E => ∃ (h hp hg he : Addr) (P G : List Str) (pr : List (Addr × Ent)) (v : V), vs = [.ref h, v] ∧ Ho7 H h hp hg he P G pr ∧ Ok7 P G pr ∧ TabsG Ts H ∧ EqT.Tng K H v ∧
  ((∃ x ∈ pr, v = .str x.2.name ∧ (x.2.word ≠ "move" → ∀ H', TB1 Ts H H' → E (.ref CM) none H') ∧ (x.2.word = "move" → ∀ (t he' b : Addr) (H' : Hp), TB1 Ts H H' → Ho7 H' t hp hg he' P G (pr.map fun y => if y.2.name = x.2.name then (b, turnE x.2) else y) → Q (.ref t) H')) ∨
    ((∀ x ∈ pr, v ≠ .str x.2.name) ∧ ∀ H', TB1 Ts H H' → E (.ref CN) none H'))
theorem mv_ent {e : Ent} (h : e.word = "move") : ∃ n m g o t k, e = .move n m g o t k := by
  cases e with
  | come n m g p k r => exact absurd h (show ("come" : Str) ≠ "move" by decide +kernel)
  | go n m g p k => exact absurd h (show ("go" : Str) ≠ "move" by decide +kernel)
  | move n m g o t k => exact ⟨n, m, g, o, t, k, rfl⟩
  | some_ n m g o t => exact absurd h (show ("some" : Str) ≠ "move" by decide +kernel)
  | swap n m o t => exact absurd h (show ("swap" : Str) ≠ "move" by decide +kernel)
  | count n m g p k hd => exact absurd h (show ("count" : Str) ≠ "move" by decide +kernel)
  | look n m g p => exact absurd h (show ("look" : Str) ≠ "move" by decide +kernel)
theorem eqv_name {P G : List Str} {pr : List (Addr × Ent)} (ok : Ok7 P G pr) {x y : Addr × Ent} (hx : x ∈ pr) (hy : y ∈ pr) : PyData.eqv (entD y.2) (entD x.2) = decide (y.2.name = x.2.name) := by
  cases h : PyData.eqv (entD y.2) (entD x.2) with
  | true => exact (decide_eq_true (congrArg Ent.name ((eqv_ents _ _).mp h))).symm
  | false => exact (decide_eq_false fun z => by
      have e := name_tells ok.nd hy hx z
      rw [e, (eqv_ents _ _).mpr rfl] at h
      exact nomatch h).symm
section
variable {P : Program} {w : World} {K : PySem.W.Frag} {mg : Str → Option Value} {base : Heap}
abbrev sWithEN : List Str := ["house", "entry", "places", "goods", "entries", "other"]
theorem sc_sWithE : FnScope sWithEN ["house", "entry"] (defScope sWithE) := ⟨rfl, rfl, rfl, by decide +kernel, rfl, by decide +kernel, by decide +kernel⟩
set_option maxHeartbeats 4000000 in
theorem ok_withE {f cA T fI fO CE CT CM : Addr} {dI dO : FuncData} {Ts : List Addr} {oc kV doc pm ct : Value} {od an : Option Addr} {osl : Array (Option Value)}
    (lk : K.lookup f = some ⟨oc, od, .func (PySem.W.fnOf "with_entry" "with_entry" (defArgs sWithE) (defBody sWithE) (defScope sWithE) .none kV doc pm an (.ref cA) ct), osl⟩) (cd : PySem.W.codeIn K (.ref cA) "with_entry" = true)
    (TB : GxR.TabB base mg cA T) (hT : T ∈ Ts) (IO : DefT P w K mg base "is_entry_of" 5 fI dI ["thing", "places", "goods"] (fun vs H Q E => spIsEntryOf Ts vs H Q E ∨ spNoEntryOf Ts vs H Q E)) (IN : DefT P w K mg base "in_order" 4 fO dO ["entries"] spInOrderT)
    (NE : Err K mg "NoEntry" CE) (TW : Err K mg "Twice" CT) (TM : Err K mg "TooMany" CM) (man : mg "any" = none) (ml : mg "len" = none) (mME : ∃ t, mg "MOST_ENTRIES" = some (.int 30 t)) :
    FnOk P w K mg base (L2.CX P w) 6 f (PySem.W.fnOf "with_entry" "with_entry" (defArgs sWithE) (defBody sWithE) (defScope sWithE) .none kV doc pm an (.ref cA) ct) ["house", "entry"] (spWithE Ts CE CT CM) := by
  obtain ⟨tME, mME⟩ := mME
  refine fn_of lk cd sc_sWithE (fun vs H Q E h => ?_) (fun A outer s H vs Q E hr h => ?_)
  · obtain ⟨h, hp, hg, he, Ps, G, pr, v, rfl, _⟩ := h
    rfl
  · obtain ⟨h, hp, hg, he, Ps, G, pr, v, rfl, ho, ok, tg, ways⟩ := h
    have nd := sc_sWithE.nd
    have hr4 : Room 4 _ := hr.mono (by decide)
    refine ⟨_, pss_cons (ps_asg (pv 0) (pg_tup (by rfl) (pgs_cons (pg_name (i := 2) nd rfl (Or.inl rfl)) (pgs_cons (pg_name (i := 3) nd rfl (Or.inl rfl)) (pgs_cons (pg_name (i := 4) nd rfl (Or.inl rfl)) pgs_nil)))))
      (pss_cons (ps_if (pt_not (pt_val (pe_call IO.ok hr (by rfl) IO.g IO.kp IO.b .nil pass0 (pa_cons (pv 1) (pa_cons (pv 2) (pa_cons (pv 3) pa_nil)))))) (pss_one (ps_raise rfl (takes_of rfl rfl rfl rfl) (pmk_own PySem.F.excBase_ValueError NE.ex NE.gC NE.kp (raises_own NE.sb NE.ty) rfl))) pss_nil)
      (pss_cons (ps_if (PT.nox <| pt_val (pe_anyG (T := T) (c := cA) (k := 0) (own := [("other", 5)]) (g := gName 5) (tt := tYes) (te := tOp rEq (tOp (rIxT K) (tVar 5) (tC (V.int 1))) (tOp (rIxT K) (tVar 1) (tC (V.int 1)))) (hr.mono (by decide)) (by rfl) man rfl nd TB rfl ⟨blkOk_by (N := sWithEN) (sc := defScope sWithE) (by decide +kernel), rfl, by decide +kernel, rfl⟩ (pi_tup (pv 4)) (fun _ _ _ _ _ _ => (pg_name (i := 5) nd rfl (Or.inl rfl))) (fun _ _ _ _ _ _ hr' => pts_nil) (fun _ _ _ _ _ _ hr' => (pe_cmpR op_eq (pe_ix ix_tup (pv 5) pe_int (fun _ _ => rfl)) (pe_ix ix_tup (pv 1) pe_int (fun _ _ => rfl)) (nomark _))))) (pss_one (ps_raise rfl (takes_of rfl rfl rfl rfl) (pmk_own PySem.F.excBase_ValueError TW.ex TW.gC TW.kp (raises_own TW.sb TW.ty) rfl))) pss_nil)
      (pss_cons (ps_if (pt_cmpR op_ge (pe_callB call_len_seq (by rfl) ml PySem.boot_len (pa_cons (pv 4) pa_nil)) (pe_glob (v := .int 30) rfl mME ⟨_, rfl⟩) (nomark _)) (pss_one (ps_raise rfl (takes_of rfl rfl rfl rfl) (pmk_own PySem.F.excBase_ValueError TM.ex TM.gC TM.kp (raises_own TM.sb TM.ty) rfl))) pss_nil)
      (pss_one (ps_ret (pe_tup (pa_cons (pv 2) (pa_cons (pv 3) (pa_cons (pe_call IN.ok hr4 (by rfl) IN.g IN.kp IN.b .nil pass0 (pa_cons (pe_op op_catW (pv 4) (pe_tup (pa_cons (pv 1) pa_nil))) pa_nil)) pa_nil))))))))), ?_⟩
    refine ⟨_, rfl, h, _, rfl, SqT.of ho.h0, rfl, _, _, rfl, _, _, rfl, _, _, rfl, rfl, ?_⟩
    rcases ways with ⟨no, q⟩ | ⟨x, rfl, hx, fi, of, qt, qm, q⟩
    · refine ⟨_, rfl, _, rfl, _, rfl, .inr ⟨v, hp, hg, Ps, G, rfl, no, ho.h1, ho.h2, tg, fun H1 b1 => ?_⟩⟩
      exact ⟨false, rfl, iteT (q H1 b1)⟩
    · refine ⟨_, rfl, _, rfl, _, rfl, .inl ⟨x.1, hp, hg, x.2, Ps, G, rfl, hx, fi, ho.h1, ho.h2, tg, fun H1 b1 => ?_⟩⟩
      rw [of]
      refine ⟨true, rfl, iteF ?_⟩
      have ho1 := ho.on b1.tk
      have hx1 := b1.tk _ _ hx
      dsimp only [tNext, tSeq, tIfS, tNot, tB]
      refine any_tupT (xs := pr.map fun x => V.ref x.1) (SqT.of ho1.h3) rfl (fun i H' => TB1 Ts H H' ∧ ∀ y ∈ pr.take i, y.2.name ≠ x.2.name) (b1.1 T hT) (fun H2 tb => ⟨b1.tr (.tab tb b1.1 hT), fun x hx => (nomatch hx)⟩) (fun i H' _ h => SqT.of (h.1.tk _ _ ho.h3)) ?_ ?_
      · intro i v H' Go hv h go
        rw [List.getElem?_map] at hv
        obtain ⟨y, hy, rfl⟩ := Option.map_eq_some_iff.mp hv
        have my := List.mem_of_getElem? hy
        refine ⟨rfl, yesT ⟨_, rfl, y.1, _, 1, _, rfl, rfl, SqT.of (h.1.tk _ _ (ho.e y my)), at1 y.2, _, rfl, x.1, _, 1, _, rfl, rfl, SqT.of (h.1.tk _ _ hx), at1 x.2, rfl, _, rfl, ite2 (fun z => ?_) (fun z => ?_)⟩⟩
        · exact ⟨true, rfl, iteT (qt ⟨y, my, V.str.inj (of_decide_eq_true z)⟩ _ h.1)⟩
        · refine go _ ⟨h.1, fun u hu => ?_⟩
          rw [take_sn hy] at hu
          rcases List.mem_append.mp hu with hu | hu
          · exact h.2 u hu
          · rw [List.mem_singleton.mp hu]
            exact fun e => z (decide_eq_true (congrArg V.str e))
      · rintro H2 ⟨b2, no⟩
        rw [List.length_map, List.take_length] at no
        have ho2 := ho.on b2.tk
        have hx2 := b2.tk _ _ hx
        refine ⟨false, rfl, iteF ?_⟩
        refine ⟨_, rfl, he, _, rfl, .inr (SqT.of ho2.h3), ((pr.map fun x => V.ref x.1).length : Int), 30, rfl, rfl, _, rfl, ite2 (fun z => ?_) (fun z => ?_)⟩
        · refine qm no ?_ _ b2
          have := of_decide_eq_true z
          rw [List.length_map] at this
          omega
        · have lt : pr.length < 30 := by
            rcases Nat.lt_or_ge pr.length 30 with h | h
            · exact h
            · exact absurd (decide_eq_true (show (30 : Int) ≤ ((pr.map fun x => V.ref x.1).length : Int) by rw [List.length_map]; omega)) z
          refine ⟨_, rfl, _, rfl, _, rfl, _, rfl, (by show 1 ≤ sizeLine; decide), fun t1 n1 => ?_⟩
          have s3 := @same_new _ _ (.tup [V.ref x.1]) n1
          have e3 := @upd_same H2 t1 (.tup [V.ref x.1])
          generalize upd H2 t1 (.tup [V.ref x.1]) = H3 at s3 e3 ⊢
          refine ⟨he, t1, _, _, rfl, rfl, s3 _ _ ho2.h3, e3, by rw [List.length_map]; exact (show pr.length + 1 ≤ 30 by omega), fun t2 H4 s4 e4 => ?_⟩
          have s34 := s3.trans s4
          refine ⟨t2, pr ++ [x], rfl, by rw [e4, List.map_append]; rfl, fun y hy => ?_, fun t3 H5 nt3 s5 e5 => ?_⟩
          · rcases List.mem_append.mp hy with hy | hy
            · exact s34 _ _ (ho2.e y hy)
            · rw [List.mem_singleton.mp hy]
              exact s34 _ _ hx2
          · refine ⟨(by show 3 ≤ sizeLine; decide), fun h' nh' => ?_⟩
            have s6 := @same_new _ _ (.tup [V.ref hp, .ref hg, .ref t3]) nh'
            have e6 := @upd_same H5 h' (.tup [V.ref hp, .ref hg, .ref t3])
            have s36 := s34.trans (s5.trans s6)
            refine q no lt h' t3 _ (b2.tr (.same b2.1 s36)) ⟨e6, s36 _ _ ho2.h1, s36 _ _ ho2.h2, s6 _ _ e5, fun y hy => ?_⟩
            rcases List.mem_append.mp ((sortE_p _).mem_iff.mp hy) with hy | hy
            · exact s36 _ _ (ho2.e y hy)
            · rw [List.mem_singleton.mp hy]
              exact s36 _ _ hx2
abbrev sWithoutEN : List Str := ["house", "name", "places", "goods", "entries", "gone", "entry"]
theorem sc_sWithoutE : FnScope sWithoutEN ["house", "name"] (defScope sWithoutE) := ⟨rfl, rfl, rfl, by decide +kernel, rfl, by decide +kernel, by decide +kernel⟩
set_option maxHeartbeats 4000000 in
theorem ok_without {f cA T fC CN : Addr} {dC : FuncData} {Ts : List Addr} {oc kV doc pm ct : Value} {od an : Option Addr} {osl : Array (Option Value)}
    (lk : K.lookup f = some ⟨oc, od, .func (PySem.W.fnOf "without_entry" "without_entry" (defArgs sWithoutE) (defBody sWithoutE) (defScope sWithoutE) .none kV doc pm an (.ref cA) ct), osl⟩) (cd : PySem.W.codeIn K (.ref cA) "without_entry" = true)
    (TB : GxR.TabB base mg cA T) (hT : T ∈ Ts) (CA : DefX P w K mg base "entry_called" 1 fC dC ["house", "name"] (spCalled7 K CN)) (mt : mg "tuple" = none) :
    FnOk P w K mg base (L2.CX P w) 2 f (PySem.W.fnOf "without_entry" "without_entry" (defArgs sWithoutE) (defBody sWithoutE) (defScope sWithoutE) .none kV doc pm an (.ref cA) ct) ["house", "name"] (spWithout K Ts CN) := by
  refine fn_of lk cd sc_sWithoutE (fun vs H Q E h => ?_) (fun A outer s H vs Q E hr h => ?_)
  · obtain ⟨h, hp, hg, he, Ps, G, pr, v, rfl, _⟩ := h
    rfl
  · obtain ⟨h, hp, hg, he, Ps, G, pr, v, rfl, ho, ok, tg, tn, ways⟩ := h
    have nd := sc_sWithoutE.nd
    refine ⟨_, pss_cons (ps_asg (pv 0) (pg_tup (by rfl) (pgs_cons (pg_name (i := 2) nd rfl (Or.inl rfl)) (pgs_cons (pg_name (i := 3) nd rfl (Or.inl rfl)) (pgs_cons (pg_name (i := 4) nd rfl (Or.inl rfl)) pgs_nil)))))
      (pss_cons (ps_set (i := 5) nd rfl (Or.inr rfl) (pe_callS CA.ok hr (by rfl) CA.g CA.kp CA.b (fun σ => passAt (takes_of rfl rfl rfl rfl) σ) (pa_cons (pv 0) (pa_cons (pv 1) pa_nil))))
      (PSs.nox <| pss_one (ps_ret (pe_tup (pa_cons (pv 2) (pa_cons (pv 3) (pa_cons (pe_tupG (T := T) (c := cA) (k := 0) (own := [("entry", 6)]) (g := gName 6) (tt := tTest (tOp (rNeD K) (tVar 6) (tVar 5))) (te := tVar 6) (hr.mono (by decide)) (by rfl) mt rfl nd TB rfl ⟨blkOk_by (N := sWithoutEN) (sc := defScope sWithoutE) (by decide +kernel), rfl, by decide +kernel, rfl⟩ (pi_tup (pv 4)) (fun _ _ _ _ _ _ => (pg_name (i := 6) nd rfl (Or.inl rfl))) (fun _ _ _ _ _ _ hr' => (pts_one (pt_cmpR (op_neD hr'.units) (pv 6) (pv 5) (nomark _)))) (fun _ _ _ _ _ _ hr' => (pv 6))) pa_nil))))))), ?_⟩
    refine ⟨_, rfl, h, _, rfl, SqT.of ho.h0, rfl, _, _, rfl, _, _, rfl, _, _, rfl, rfl, ?_⟩
    refine ⟨_, rfl, _, rfl, h, hp, hg, he, Ps, G, pr, v, rfl, ho, ok, tn, ?_⟩
    rcases ways with ⟨x, mx, hv, q⟩ | ⟨no, q⟩
    · refine .inl ⟨x, mx, hv, ?_⟩
      refine ⟨_, rfl, _, rfl, ?_⟩
      refine tup_tup (K := K) (k := 4) (xs := pr.map fun x => V.ref x.1) (SqT.of ho.h3) rfl (by rw [List.length_map]; have := ok.le; omega) (fun i ys H' => TB1 Ts H H' ∧ ys = ((pr.take i).filter fun y => decide (y.2.name ≠ x.2.name)).map fun x => V.ref x.1) (tg T hT) (fun H2 tb => ⟨.tab tb tg hT, rfl⟩) (fun i ys H' _ h => SqT.of (h.1.tk _ _ ho.h3)) (fun i ys H' h => by
          rw [h.2, List.length_map]
          exact Nat.le_trans (List.length_filter_le _ _) (by rw [List.length_take]; omega)) ?_ ?_
      · rintro i v ys H' Ga Gs hvi ⟨b, rfl⟩ ga gs
        rw [List.getElem?_map] at hvi
        obtain ⟨y, hy, rfl⟩ := Option.map_eq_some_iff.mp hvi
        have my := List.mem_of_getElem? hy
        refine ⟨rfl, _, rfl, _, rfl, _, _, dp_ent (b.tk _ _ (ho.e y my)), dp_ent (b.tk _ _ (ho.e x mx)), ok.shape my, ok.shape mx, _, rfl, ?_⟩
        rw [eqv_name ok mx my]
        by_cases z : y.2.name = x.2.name
        · rw [decide_eq_true z]
          refine iteF (gs _ ⟨b, ?_⟩)
          rw [take_sn hy, List.filter_append, List.filter_cons_of_neg (by simp [z]), List.filter_nil, List.append_nil]
        · rw [decide_eq_false z]
          refine iteT ⟨_, rfl, ga _ _ ⟨b, ?_⟩⟩
          rw [take_sn hy, List.filter_append, List.filter_cons_of_pos (by simp [z]), List.filter_nil, List.map_append]
          rfl
      · rintro ys H' ⟨b, rfl⟩ t nt
        rw [List.length_map, List.take_length]
        have s1 := @same_new _ _ (.tup ((pr.filter fun y => decide (y.2.name ≠ x.2.name)).map fun x => V.ref x.1)) nt
        have e1 := @upd_same H' t (.tup ((pr.filter fun y => decide (y.2.name ≠ x.2.name)).map fun x => V.ref x.1))
        generalize upd H' t (.tup ((pr.filter fun y => decide (y.2.name ≠ x.2.name)).map fun x => V.ref x.1)) = H1 at s1 e1 ⊢
        refine ⟨(by show 3 ≤ sizeLine; decide), fun h' nh' => ?_⟩
        have s2 := @same_new _ _ (.tup [V.ref hp, .ref hg, .ref t]) nh'
        have e2 := @upd_same H1 h' (.tup [V.ref hp, .ref hg, .ref t])
        have s12 := s1.trans s2
        have ho' := (ho.on b.tk).on (TK.of s12)
        exact q h' t _ (b.tr (.same b.1 s12)) ⟨e2, ho'.h1, ho'.h2, s2 _ _ e1, fun y hy => ho'.e y ((List.mem_filter.mp hy).1)⟩
    · exact .inr ⟨no, q _ (.same tg fun _ _ e => e)⟩
abbrev sTurnedN : List Str := ["house", "name", "places", "goods", "entries", "move", "turned", "entry"]
theorem sc_sTurned : FnScope sTurnedN ["house", "name"] (defScope sTurned) := ⟨rfl, rfl, rfl, by decide +kernel, rfl, by decide +kernel, by decide +kernel⟩
set_option maxHeartbeats 4000000 in
theorem ok_turned {f cA T fC fW CN CM : Addr} {dC dW : FuncData} {Ts : List Addr} {oc kV doc pm ct : Value} {od an : Option Addr} {osl : Array (Option Value)}
    (lk : K.lookup f = some ⟨oc, od, .func (PySem.W.fnOf "with_turned" "with_turned" (defArgs sTurned) (defBody sTurned) (defScope sTurned) .none kV doc pm an (.ref cA) ct), osl⟩) (cd : PySem.W.codeIn K (.ref cA) "with_turned" = true)
    (TB : GxR.TabB base mg cA T) (hT : T ∈ Ts) (CA : DefX P w K mg base "entry_called" 1 fC dC ["house", "name"] (spCalled7 K CN)) (WP : DefT P w K mg base "with_places" 1 fW dW ["entry", "places"] spWithPl) (NM : Err K mg "NoMove" CM) (mt : mg "tuple" = none) :
    FnOk P w K mg base (L2.CX P w) 2 f (PySem.W.fnOf "with_turned" "with_turned" (defArgs sTurned) (defBody sTurned) (defScope sTurned) .none kV doc pm an (.ref cA) ct) ["house", "name"] (spTurned K Ts CN CM) := by
  refine fn_of lk cd sc_sTurned (fun vs H Q E h => ?_) (fun A outer s H vs Q E hr h => ?_)
  · obtain ⟨h, hp, hg, he, Ps, G, pr, v, rfl, _⟩ := h
    rfl
  · obtain ⟨h, hp, hg, he, Ps, G, pr, v, rfl, ho, ok, tg, tn, ways⟩ := h
    have nd := sc_sTurned.nd
    refine ⟨_, pss_cons (ps_asg (pv 0) (pg_tup (by rfl) (pgs_cons (pg_name (i := 2) nd rfl (Or.inl rfl)) (pgs_cons (pg_name (i := 3) nd rfl (Or.inl rfl)) (pgs_cons (pg_name (i := 4) nd rfl (Or.inl rfl)) pgs_nil)))))
      (pss_cons (ps_set (i := 5) nd rfl (Or.inr rfl) (pe_callS CA.ok hr (by rfl) CA.g CA.kp CA.b (fun σ => passAt (takes_of rfl rfl rfl rfl) σ) (pa_cons (pv 0) (pa_cons (pv 1) pa_nil))))
      (pss_cons (ps_if (pt_cmpR op_ne (pe_ix ix_tup (pv 5) pe_int (fun _ _ => rfl)) pe_str (nomark _)) (pss_one (ps_raise rfl (takes_of rfl rfl rfl rfl) (pmk_own PySem.F.excBase_ValueError NM.ex NM.gC NM.kp (raises_own NM.sb NM.ty) rfl))) pss_nil)
      (pss_cons (ps_set (i := 6) nd rfl (Or.inr rfl) (pe_call WP.ok hr (by rfl) WP.g WP.kp WP.b .nil pass0 (pa_cons (pv 5) (pa_cons (pe_tup (pa_cons (pe_ix ix_tup (pv 5) pe_int (fun _ _ => rfl)) (pa_cons (pe_ix ix_tup (pv 5) pe_int (fun _ _ => rfl)) pa_nil))) pa_nil))))
      (PSs.nox <| pss_one (ps_ret (pe_tup (pa_cons (pv 2) (pa_cons (pv 3) (pa_cons (pe_tupG (T := T) (c := cA) (k := 0) (own := [("entry", 7)]) (g := gName 7) (tt := tYes) (te := tIf (tTest (tOp (rEqD K) (tVar 7) (tVar 5))) (tVar 6) (tVar 7)) (hr.mono (by decide)) (by rfl) mt rfl nd TB rfl ⟨blkOk_by (N := sTurnedN) (sc := defScope sTurned) (by decide +kernel), rfl, by decide +kernel, rfl⟩ (pi_tup (pv 4)) (fun _ _ _ _ _ _ => (pg_name (i := 7) nd rfl (Or.inl rfl))) (fun _ _ _ _ _ _ hr' => pts_nil) (fun _ _ _ _ _ _ hr' => (pe_ifExp (pt_cmpR (op_eqD hr'.units) (pv 7) (pv 5) (nomark _)) (pv 6) (pv 7)))) pa_nil))))))))), ?_⟩
    refine ⟨_, rfl, h, _, rfl, SqT.of ho.h0, rfl, _, _, rfl, _, _, rfl, _, _, rfl, rfl, ?_⟩
    refine ⟨_, rfl, _, rfl, h, hp, hg, he, Ps, G, pr, v, rfl, ho, ok, tn, ?_⟩
    rcases ways with ⟨x, mx, hv, qn, q⟩ | ⟨no, q⟩
    · refine .inl ⟨x, mx, hv, ?_⟩
      have hx := ho.e x mx
      refine ⟨_, rfl, x.1, _, 0, _, rfl, rfl, SqT.of hx, at0 x.2, rfl, _, rfl, ite2 (fun z => ?_) (fun z => ?_)⟩
      · exact qn (fun e => by
          have z' : decide (V.str x.2.word = V.str "move") = false := by simpa using z
          exact of_decide_eq_false z' (congrArg V.str e)) _ (.same tg fun _ _ e => e)
      · have wm : x.2.word = "move" := by
          have z' : ¬ ¬ (V.str x.2.word = V.str "move") := fun q => z (by simpa using q)
          exact V.str.inj (Classical.not_not.mp z')
        obtain ⟨nm, mo, gd, o, t, k, ex⟩ := mv_ent wm
        have at5 : atI x.2.vals (5 : Int) = some (.str t) := by rw [ex]; rfl
        have at4 : atI x.2.vals (4 : Int) = some (.str o) := by rw [ex]; rfl
        refine ⟨_, rfl, _, rfl, x.1, _, 5, _, rfl, rfl, SqT.of hx, at5, _, rfl, x.1, _, 4, _, rfl, rfl, SqT.of hx, at4, (by show 2 ≤ sizeLine; decide), fun t1 n1 => ?_⟩
        have s1 := @same_new _ _ (.tup [V.str t, .str o]) n1
        have e1 := @upd_same H t1 (.tup [V.str t, .str o])
        generalize upd H t1 (.tup [V.str t, .str o]) = H1 at s1 e1 ⊢
        have hpl : x.2.places = [o, t] := by rw [ex]; rfl
        have so : swp o t o = t := if_pos rfl
        have st : swp o t t = o := by
          unfold swp
          by_cases e : t = o
          · rw [if_pos e, e]
          · rw [if_neg e, if_pos rfl]
        have full : ∀ y ∈ x.2.places, swp o t y ≠ "" := fun y hy e => by
          have inP : ∀ y ∈ x.2.places, nameB y = true := fun y hy => by
            have := (ok.f x mx).2
            unfold ofB at this
            have h2 := (Bool.and_eq_true_iff.mp this).2
            exact ok.np y (of_decide_eq_true (List.all_eq_true.mp h2 y hy))
          have no := inP o (by rw [hpl]; simp)
          have nt := inP t (by rw [hpl]; simp)
          rw [hpl] at hy
          simp only [List.mem_cons, List.not_mem_nil, or_false] at hy
          rcases hy with rfl | rfl
          · rw [so] at e
            rw [e] at nt
            exact absurd nt (by decide +kernel)
          · rw [st] at e
            rw [e] at no
            exact absurd no (by decide +kernel)
        refine ⟨x.1, t1, x.2, swp o t, rfl, s1 _ _ hx, by rw [e1, hpl]; simp [so, st], full, fun b H2 s2 e2 => ?_⟩
        have tu : x.2.mp (swp o t) = turnE x.2 := by
          rw [ex]
          show Ent.move nm mo gd (swp o t o) (swp o t t) k = Ent.move nm mo gd t o k
          rw [so, st]
        rw [tu] at e2
        have s12 := s1.trans s2
        have b2 : TB1 Ts H H2 := .same tg s12
        refine ⟨_, rfl, _, rfl, ?_⟩
        refine tup_tup (K := K) (k := 4) (xs := pr.map fun x => V.ref x.1) (SqT.of (s12 _ _ ho.h3)) rfl (by rw [List.length_map]; have := ok.le; omega) (fun i ys H' => TB1 Ts H2 H' ∧ ys = ((pr.take i).map fun y => if y.2.name = x.2.name then (b, turnE x.2) else y).map fun x => V.ref x.1) (b2.1 T hT) (fun H3 tb => ⟨.tab tb b2.1 hT, rfl⟩) (fun i ys H' _ h => SqT.of (h.1.tk _ _ (s12 _ _ ho.h3))) (fun i ys H' h => by
            rw [h.2, List.length_map, List.length_map, List.length_take]
            omega) ?_ ?_
        · rintro i v ys H' Ga Gs hvi ⟨b3, rfl⟩ ga gs
          rw [List.getElem?_map] at hvi
          obtain ⟨y, hy, rfl⟩ := Option.map_eq_some_iff.mp hvi
          have my := List.mem_of_getElem? hy
          refine ⟨rfl, yesT ⟨_, rfl, _, rfl, _, _, dp_ent (b3.tk _ _ (s12 _ _ (ho.e y my))), dp_ent (b3.tk _ _ (s12 _ _ hx)), ok.shape my, ok.shape mx, _, rfl, ?_⟩⟩
          rw [eqv_name ok mx my]
          by_cases z : y.2.name = x.2.name
          · rw [decide_eq_true z]
            refine iteT ⟨_, rfl, ga _ _ ⟨b3, ?_⟩⟩
            rw [take_sn hy, List.map_append, List.map_append, List.map_cons, if_pos z]
            rfl
          · rw [decide_eq_false z]
            refine iteF ⟨_, rfl, ga _ _ ⟨b3, ?_⟩⟩
            rw [take_sn hy, List.map_append, List.map_append, List.map_cons, if_neg z]
            rfl
        · rintro ys H' ⟨b3, rfl⟩ tt nt
          rw [List.length_map, List.take_length]
          generalize hl : (pr.map fun y => if y.2.name = x.2.name then (b, turnE x.2) else y) = qr
          have s4 := @same_new _ _ (.tup (qr.map fun x => V.ref x.1)) nt
          have e4 := @upd_same H' tt (.tup (qr.map fun x => V.ref x.1))
          generalize upd H' tt (.tup (qr.map fun x => V.ref x.1)) = H4 at s4 e4 ⊢
          refine ⟨(by show 3 ≤ sizeLine; decide), fun h' nh' => ?_⟩
          have s5 := @same_new _ _ (.tup [V.ref hp, .ref hg, .ref tt]) nh'
          have e5 := @upd_same H4 h' (.tup [V.ref hp, .ref hg, .ref tt])
          have s45 := s4.trans s5
          have b24 : TB1 Ts H2 (upd H4 h' (.tup [V.ref hp, .ref hg, .ref tt])) := b3.tr (.same b3.1 s45)
          have ho' := (ho.on b2.tk).on b24.tk
          refine q wm h' tt b _ (b2.tr b24) ?_
          rw [hl]
          refine ⟨e5, ho'.h1, ho'.h2, s5 _ _ e4, fun y hy => ?_⟩
          rw [← hl] at hy
          obtain ⟨u, hu, rfl⟩ := List.mem_map.mp hy
          by_cases z : u.2.name = x.2.name
          · rw [if_pos z]
            exact b24.tk _ _ e2
          · rw [if_neg z]
            exact ho'.e u hu
    · exact .inr ⟨no, q _ (.same tg fun _ _ e => e)⟩
end
/-- the def that calls what it got, its room told -/
def GivesToR (k : Nat) (X : Cx) (Ng : List Str) (x : Str) (sg : Scope) (g : Addr) (cdg : Value) (bg : List Stmt) (a : Str) (q : Str) (TT : (XK → Hp → VK → Prop) → Hp → VK → Prop) : Prop :=
  ∀ (f c' : Addr) (s : Shared) (H : Hp) (Q : VK) (tl : XK → Hp → VK → Prop), Room k (X.A.deeper (envOfC x sg s.heap.objs.size g cdg)) →
    (∀ (W : WX) (pn : List (Addr × Obj)) (xe : Value → Shared → Prop) (E : XK) (p1 p2 : Pos), Takes ((cxOf C8.CX0 X.prog X.w X.K X.mg X.base Ng x sg g cdg X.A X.stack s H C8.E0).tr pn xe) W → (∀ cls d σ' H', E cls d H' → W cls d σ' H') →
      PE ((cxOf C8.CX0 X.prog X.w X.K X.mg X.base Ng x sg g cdg X.A X.stack s H C8.E0).tr pn xe) (.Call (.Name a p1) [] [] p2) (fun σZ HZ Q => σZ[0]? = some (some (.ref f)) ∧ HZ c' = some (LamX.CodeO c' q) ∧ tl E HZ Q)) →
    H c' = some (LamX.CodeO c' q) → TT tl H Q →
    ∃ t, PSs (cxOf C8.CX0 X.prog X.w X.K X.mg X.base Ng x sg g cdg X.A X.stack s H C8.E0).nox bg t ∧ t { nx := fun _ H' => Q .non H', rt := Q } (L2.start Ng [.ref f]) H
/-- x(lambda: bd) -/
theorem pe_capcallR {X : Cx} {TT : (XK → Hp → VK → Prop) → Hp → VK → Prop} {x a : Str} {g cA Pt : Addr} {k : Nat} {pg : Arguments} {bg : List Stmt} {sg : Scope} {dV kV doc pm cdv ct oc : Value} {an od : Option Addr} {osl : Array (Option Value)} {Ng : List Str}
    {prm : Arguments} {bd : Expr} {sco : Scope} {t : XK → TE} {p1 p2 pos : Pos} (hg : Gl X x) (hm : X.mg x = some (.ref g)) (hk : PySem.W.keepIn X.K (.ref g) = true)
    (lk : X.K.lookup g = some ⟨oc, od, .func (PySem.W.fnOf x x pg bg sg dV kV doc pm an cdv ct), osl⟩) (hcg : PySem.W.codeIn X.K cdv x = true) (hb : Binds X.K (PySem.W.fnOf x x pg bg sg dV kV doc pm an cdv ct) [a] []) (Sg : FnScope Ng [a] sg) (hNg : Ng[0]? = some a) (hva : Vis sg a)
    (give : GivesToR (k + 1) X Ng x sg g cdv bg a (X.env.qual ++ "<lambda>") TT) (TB : LamX.TabB X.base X.mg cA Pt) (hcode : X.env.code = .ref cA) (hr : Room (k + 2) X.A) (L : LamX.LamS X.env.scope sco) (hdef : defaultsOf prm X.env = ([], []))
    (hbind : ∀ (q : Str) (cl : List (Str × Addr)) (pm cv ctv : Value), bindArgs (PySem.W.kla_fn "<lambda>" q prm bd sco cl pm cv ctv) ⟨[], []⟩ = pure [])
    (hbody : ∀ (A : Around) (outer : List Env) (z : Shared) (G : Hp) (E : XK) (f cc : Addr), Room k (A.deeper (LamX.lamEnv X sco z.heap.objs.size f cc)) → PE (LamX.lamCx X A outer z G E sco f cc) bd (t E))
    (d1 : (x == ("__debug__" : Str)) = false := by decide) (d2 : (a == ("__debug__" : Str)) = false := by decide) (d3 : (a == ("__classdict__" : Str)) = false := by decide) :
    PE X (.Call (.Name x p1) [.Lambda prm bd sco p2] [] pos) (tCap Pt (X.env.qual ++ "<lambda>") TT t) := by
  constructor
  rintro pins z τ G W I ⟨tab, h⟩
  refine wpAny_Call_Name_kw (ld_glob I hg hm ?_ d1)
  refine PySem.W.callWith_K (h₀ := X.base) I.ok.mod.kin hk ?_ (by rfl) (by rfl)
  show wpAny _ _ (spliced ((false, eval (.Lambda prm bd sco p2) X.env) :: backTo pos (starEach [] X.env))) _ _ z
  have hfree := LamX.LamS.has L I.ok
  refine Calls.spliced_cons (cap_new I TB hcode tab hdef (closure_ok hfree) fun f cc pm' ctv G1 z1 J D hf hfn hfr hco => ?_)
  refine Calls.spliced_nil ⟨J.kIn, ?_⟩
  have ran : codeAny (model X.prog X.w) X.A (.call (.ref g) ⟨[.ref f], []⟩) (CR C8.CX0 X.stack X.prog X.w G1 z1 W C8.E0) z1 :=
    LamX.run_ofS (N := Ng) (ps := [a]) (us := [.ref f]) (vs := [.ref f]) lk hcg Sg hr J.env0 (hb z1 [.ref f] J.kIn rfl) (.cons rfl .nil) rfl fun hr' => by
      obtain ⟨t', w1, w2⟩ := give f cc z1 G1 W (fun E G2 W2 => t E τ G2 W2) hr' (fun WW pn xe E p3 p4 tk hW => LamX.pe_act (i := 0) J L hf hfn hfr (hbind _ _ _ _ _) tk hW hr' (fun A outer z G hr2 => hbody A outer z G E f cc hr2) hNg hva d2 d3) hco (h G1 D)
      exact ⟨t', w1.nox, w2⟩
  refine wpAny_call (codeAny_mono ran fun r z2 hq => ?_)
  cases r with
  | error e => exact (show False from hq).elim
  | ok fl =>
    cases fl with
    | ret u => exact J.after hq
    | next | brk | cont => exact False.elim hq
/-! ### what is asked by a lambda, and which refusal it is -/
inductive Rf7 | entry | twice | many | name | move
structure Rc7 where
  ne : Addr
  tw : Addr
  tm : Addr
  nn : Addr
  nm : Addr
def Rc7.of (A : Rc7) : Rf7 → Addr
  | .entry => A.ne | .twice => A.tw | .many => A.tm | .name => A.nn | .move => A.nm
def Rf7.n : Rf7 → Nat
  | .entry => 0 | .twice => 1 | .many => 2 | .name => 3 | .move => 4
def Rf7.w : Rf7 → Str
  | .entry => "NoEntry" | .twice => "Twice" | .many => "TooMany" | .name => "NoName" | .move => "NoMove"
structure Oc7 where
  cl : Addr
  cd : Addr
  nd : Addr
  nf : Addr
  ng : Addr
  ngd : Addr
  nh : Addr
  np : Addr
  nr : Addr
  nt : Addr
  nth : Addr
  nti : Addr
structure G7 (mg : Str → Option Value) (A : Rc7) (O : Oc7) (CE : Addr) : Prop where
  ne : mg "NoEntry" = some (.ref A.ne)
  tw : mg "Twice" = some (.ref A.tw)
  tm : mg "TooMany" = some (.ref A.tm)
  nn : mg "NoName" = some (.ref A.nn)
  nm : mg "NoMove" = some (.ref A.nm)
  cl : mg "Clash" = some (.ref O.cl)
  cd : mg "Closed" = some (.ref O.cd)
  nd : mg "NoDay" = some (.ref O.nd)
  nf : mg "NoFilling" = some (.ref O.nf)
  ng : mg "NoGo" = some (.ref O.ng)
  ngd : mg "NoGood" = some (.ref O.ngd)
  nh : mg "NoHouse" = some (.ref O.nh)
  np : mg "NoPlace" = some (.ref O.np)
  nr : mg "NoRow" = some (.ref O.nr)
  nt : mg "NoText" = some (.ref O.nt)
  nth : mg "NoThen" = some (.ref O.nth)
  nti : mg "NoTie" = some (.ref O.nti)
  gE : mg "CountError" = some (.ref CE)
structure C7 (K : PySem.W.Frag) (A : Rc7) (O : Oc7) (CE C : Addr) (n : Nat) : Prop where
  ec : ExcC K C
  ne : PySem.W.kitOne K (.ref C) (.ref A.ne) = some (n == 0)
  tw : PySem.W.kitOne K (.ref C) (.ref A.tw) = some (n == 1)
  tm : PySem.W.kitOne K (.ref C) (.ref A.tm) = some (n == 2)
  nn : PySem.W.kitOne K (.ref C) (.ref A.nn) = some (n == 3)
  nm : PySem.W.kitOne K (.ref C) (.ref A.nm) = some (n == 4)
  o1 : PySem.W.kitAny K (.ref C) [.ref O.cl, .ref O.cd, .ref O.nd, .ref O.nf, .ref O.ng, .ref O.ngd, .ref O.nh, .ref O.np, .ref O.nr, .ref O.nt] = some false
  o2 : PySem.W.kitAny K (.ref C) [.ref O.nth, .ref O.nti] = some false
  v : PySem.W.kitOne K (.ref C) (.type "ValueError") = some true
  cm : PySem.W.exmOne K (.ref C) (.ref CE) = some true
def D7 (K : PySem.W.Frag) (A : Rc7) (O : Oc7) (CE : Addr) : Prop := ∀ r : Rf7, C7 K A O CE (A.of r) r.n
def spClass (A : Rc7) : Sp := fun vs H Q _ => ∃ (a : Addr) (r : Rf7), vs = [.ref a] ∧ H a = some (Kept.ExV (.ref (A.of r)) none a) ∧ ∀ H', Same H H' → Q (.str r.w) H'
def T7 (A : Rc7) : (XK → Hp → VK → Prop) → Hp → VK → Prop := fun tl H Q => ∀ W : VK, (∀ v H', (∀ (t : Addr) (H2 : Hp), Same H' H2 → H2 t = some (.lst [.str "told", v]) → Q (.ref t) H2) → W v H') →
  tl (fun cls d H' => ∃ r : Rf7, cls = .ref (A.of r) ∧ d = none ∧ ∀ (t : Addr) (H2 : Hp), Same H' H2 → H2 t = some (.lst [.str "refused", .str r.w]) → Q (.ref t) H2) H W
section
variable {P : Program} {w : World} {K : PySem.W.Frag} {mg : Str → Option Value} {base : Heap}
abbrev sClassN : List Str := ["_law_caught", "_law_found"]
theorem sc_sClass : FnScope sClassN ["_law_caught"] (defScope sClass) := ⟨rfl, rfl, rfl, by decide +kernel, rfl, by decide +kernel, by decide +kernel⟩
set_option maxHeartbeats 4000000 in
theorem ok_class {f : Addr} {fd : FuncData} {A : Rc7} {O : Oc7} {CE : Addr} (F : Fun K "_law_class" "_law_class" sClass f fd) (CG : G7 mg A O CE) (D : D7 K A O CE) (mis : mg "isinstance" = none) (mv : mg "ValueError" = none) (ml : mg "len" = none) : FnOk P w K mg base CX0 1 f fd ["_law_caught"] (spClass A) := by
  refine F.ok sc_sClass (fun vs H Q E h => ?_) (fun cdv A' outer s H vs Q E hr h => ?_)
  · obtain ⟨a, r, rfl, _⟩ := h
    rfl
  · obtain ⟨a, r, rfl, ha, q⟩ := h
    have nd := sc_sClass.nd
    refine ⟨_, pss_cons (ps_set (i := 1) nd rfl (Or.inl rfl) (pe_lst pa_nil))
      (pss_cons (ps_if (pt_val (pe_callB Kept.call_isX (by rfl) mis (by decide +kernel) (pa_cons (pv 0) (pa_cons (pe_glob (v := .ref A.ne) (u := .ref A.ne) (by rfl) CG.ne rfl) pa_nil)))) (pss_one (ps_expr (pe_bm PySem.F.plainAttrs_list PySem.F.slot_list_append PySem.F.type_list_append mt_append (pv 1) (pa_cons pe_str pa_nil)))) pss_nil)
      (pss_cons (ps_if (pt_val (pe_callB Kept.call_isX (by rfl) mis (by decide +kernel) (pa_cons (pv 0) (pa_cons (pe_glob (v := .ref A.tw) (u := .ref A.tw) (by rfl) CG.tw rfl) pa_nil)))) (pss_one (ps_expr (pe_bm PySem.F.plainAttrs_list PySem.F.slot_list_append PySem.F.type_list_append mt_append (pv 1) (pa_cons pe_str pa_nil)))) pss_nil)
      (pss_cons (ps_if (pt_val (pe_callB Kept.call_isX (by rfl) mis (by decide +kernel) (pa_cons (pv 0) (pa_cons (pe_glob (v := .ref A.tm) (u := .ref A.tm) (by rfl) CG.tm rfl) pa_nil)))) (pss_one (ps_expr (pe_bm PySem.F.plainAttrs_list PySem.F.slot_list_append PySem.F.type_list_append mt_append (pv 1) (pa_cons pe_str pa_nil)))) pss_nil)
      (pss_cons (ps_if (pt_val (pe_callB Kept.call_isX (by rfl) mis (by decide +kernel) (pa_cons (pv 0) (pa_cons (pe_glob (v := .ref A.nn) (u := .ref A.nn) (by rfl) CG.nn rfl) pa_nil)))) (pss_one (ps_expr (pe_bm PySem.F.plainAttrs_list PySem.F.slot_list_append PySem.F.type_list_append mt_append (pv 1) (pa_cons pe_str pa_nil)))) pss_nil)
      (pss_cons (ps_if (pt_val (pe_callB Kept.call_isX (by rfl) mis (by decide +kernel) (pa_cons (pv 0) (pa_cons (pe_glob (v := .ref A.nm) (u := .ref A.nm) (by rfl) CG.nm rfl) pa_nil)))) (pss_one (ps_expr (pe_bm PySem.F.plainAttrs_list PySem.F.slot_list_append PySem.F.type_list_append mt_append (pv 1) (pa_cons pe_str pa_nil)))) pss_nil)
      (pss_cons (ps_if (pt_val (pe_callB Kept.call_isXT (by rfl) mis (by decide +kernel) (pa_cons (pv 0) (pa_cons (pe_tup (pa_cons (pe_glob (v := .ref O.cl) (u := .ref O.cl) (by rfl) CG.cl rfl) (pa_cons (pe_glob (v := .ref O.cd) (u := .ref O.cd) (by rfl) CG.cd rfl) (pa_cons (pe_glob (v := .ref O.nd) (u := .ref O.nd) (by rfl) CG.nd rfl) (pa_cons (pe_glob (v := .ref O.nf) (u := .ref O.nf) (by rfl) CG.nf rfl) (pa_cons (pe_glob (v := .ref O.ng) (u := .ref O.ng) (by rfl) CG.ng rfl) (pa_cons (pe_glob (v := .ref O.ngd) (u := .ref O.ngd) (by rfl) CG.ngd rfl) (pa_cons (pe_glob (v := .ref O.nh) (u := .ref O.nh) (by rfl) CG.nh rfl) (pa_cons (pe_glob (v := .ref O.np) (u := .ref O.np) (by rfl) CG.np rfl) (pa_cons (pe_glob (v := .ref O.nr) (u := .ref O.nr) (by rfl) CG.nr rfl) (pa_cons (pe_glob (v := .ref O.nt) (u := .ref O.nt) (by rfl) CG.nt rfl) pa_nil))))))))))) pa_nil)))) (pss_one (ps_ret pe_str)) pss_nil)
      (pss_cons (ps_if (PW.pt (pw_or (pt_val (pe_callB Kept.call_isXT (by rfl) mis (by decide +kernel) (pa_cons (pv 0) (pa_cons (pe_tup (pa_cons (pe_glob (v := .ref O.nth) (u := .ref O.nth) (by rfl) CG.nth rfl) (pa_cons (pe_glob (v := .ref O.nti) (u := .ref O.nti) (by rfl) CG.nti rfl) pa_nil))) pa_nil)))) (pw_or (pt_not (pt_val (pe_callB Kept.call_isX (by rfl) mis (by decide +kernel) (pa_cons (pv 0) (pa_cons (pe_bltn (v := .ty "ValueError") (u := .type "ValueError") (by rfl) mv (by decide +kernel) rfl) pa_nil))))) (pw_or1 (pt_cmpR op_ne (pe_callB call_len_seq (by rfl) ml PySem.boot_len (pa_cons (pv 1) pa_nil)) pe_int (nomark _)))))) (pss_one (ps_ret pe_str)) pss_nil)
      (pss_one (ps_ret (pe_ix ix_list (pv 1) pe_int (fun _ _ => rfl))))))))))), ?_⟩
    have own : ∀ (C : Addr), ClsV (.ref C) (.ref C) := .own
    refine ⟨(by show 0 ≤ sizeLine; decide), fun L nL => ?_⟩
    have s1 := @same_new _ _ (.lst []) nL
    have e1 := @upd_same H L (.lst [])
    have ha1 := s1 _ _ ha
    generalize upd H L (.lst []) = H1 at s1 e1 ha1 ⊢
    have fin : ∀ z : Str, Same H (upd H1 L (.lst ([] ++ [V.str z]))) := fun z b o e => (upd_ne (ne_of_none e nL)).trans (s1 b o e)
    have hL : ∀ z : Str, (upd H1 L (.lst ([] ++ [V.str z]))) L = some (.lst [V.str z]) := fun z => upd_same
    cases r with
    | entry =>
      have C := D .entry
      refine ⟨_, rfl, a, A.of .entry, .ref A.ne, .ref A.ne, _, rfl, ha1, C.ec, fun u r => r, C.ne, true, rfl, iteT ?_⟩
      refine ⟨_, rfl, .inl ⟨rfl, _, SqL.of e1⟩, L, _, _, rfl, rfl, e1, (by show 0 < sizeLine; decide), ?_⟩
      have s2 := fin "NoEntry"
      have e2 := hL "NoEntry"
      have ha2 := s2 _ _ ha
      generalize upd H1 L (.lst ([] ++ [V.str "NoEntry"])) = H2 at s2 e2 ha2 ⊢
      refine ⟨_, rfl, a, A.of .entry, .ref A.tw, .ref A.tw, _, rfl, ha2, C.ec, fun u r => r, C.tw, false, rfl, iteF ?_⟩
      refine ⟨_, rfl, a, A.of .entry, .ref A.tm, .ref A.tm, _, rfl, ha2, C.ec, fun u r => r, C.tm, false, rfl, iteF ?_⟩
      refine ⟨_, rfl, a, A.of .entry, .ref A.nn, .ref A.nn, _, rfl, ha2, C.ec, fun u r => r, C.nn, false, rfl, iteF ?_⟩
      refine ⟨_, rfl, a, A.of .entry, .ref A.nm, .ref A.nm, _, rfl, ha2, C.ec, fun u r => r, C.nm, false, rfl, iteF ?_⟩
      refine ⟨_, rfl, (by show 10 ≤ sizeLine; decide), fun t1 n1 => ?_⟩
      have s3 := @same_new _ _ (.tup [V.ref O.cl, .ref O.cd, .ref O.nd, .ref O.nf, .ref O.ng, .ref O.ngd, .ref O.nh, .ref O.np, .ref O.nr, .ref O.nt]) n1
      refine ⟨a, A.of .entry, t1, _, _, false, rfl, s3 _ _ ha2, C.ec, upd_same, .cons (own _) (.cons (own _) (.cons (own _) (.cons (own _) (.cons (own _) (.cons (own _) (.cons (own _) (.cons (own _) (.cons (own _) (.cons (own _) .nil))))))))), C.o1, false, rfl, iteF ?_⟩
      refine ⟨_, rfl, (by show 2 ≤ sizeLine; decide), fun t2 n2 => ?_⟩
      have s4 := @same_new _ _ (.tup [V.ref O.nth, .ref O.nti]) n2
      refine ⟨a, A.of .entry, t2, _, _, false, rfl, s4 _ _ (s3 _ _ ha2), C.ec, upd_same, .cons (own _) (.cons (own _) .nil), C.o2, false, rfl, iteF ?_⟩
      refine ⟨_, rfl, a, A.of .entry, .ty "ValueError", .type "ValueError", true, rfl, s4 _ _ (s3 _ _ ha2), C.ec, fun u r => r, C.v, true, rfl, iteF ?_⟩
      refine ⟨_, rfl, L, _, rfl, .inl (SqL.of (s4 _ _ (s3 _ _ e2))), rfl, _, rfl, ?_⟩
      refine iteF ⟨_, rfl, L, _, 0, _, rfl, rfl, SqL.of (s4 _ _ (s3 _ _ e2)), atI_nat (j := 0) rfl, q _ (s2.trans (s3.trans s4))⟩
    | twice =>
      have C := D .twice
      refine ⟨_, rfl, a, A.of .twice, .ref A.ne, .ref A.ne, _, rfl, ha1, C.ec, fun u r => r, C.ne, false, rfl, iteF ?_⟩
      refine ⟨_, rfl, a, A.of .twice, .ref A.tw, .ref A.tw, _, rfl, ha1, C.ec, fun u r => r, C.tw, true, rfl, iteT ?_⟩
      refine ⟨_, rfl, .inl ⟨rfl, _, SqL.of e1⟩, L, _, _, rfl, rfl, e1, (by show 0 < sizeLine; decide), ?_⟩
      have s2 := fin "Twice"
      have e2 := hL "Twice"
      have ha2 := s2 _ _ ha
      generalize upd H1 L (.lst ([] ++ [V.str "Twice"])) = H2 at s2 e2 ha2 ⊢
      refine ⟨_, rfl, a, A.of .twice, .ref A.tm, .ref A.tm, _, rfl, ha2, C.ec, fun u r => r, C.tm, false, rfl, iteF ?_⟩
      refine ⟨_, rfl, a, A.of .twice, .ref A.nn, .ref A.nn, _, rfl, ha2, C.ec, fun u r => r, C.nn, false, rfl, iteF ?_⟩
      refine ⟨_, rfl, a, A.of .twice, .ref A.nm, .ref A.nm, _, rfl, ha2, C.ec, fun u r => r, C.nm, false, rfl, iteF ?_⟩
      refine ⟨_, rfl, (by show 10 ≤ sizeLine; decide), fun t1 n1 => ?_⟩
      have s3 := @same_new _ _ (.tup [V.ref O.cl, .ref O.cd, .ref O.nd, .ref O.nf, .ref O.ng, .ref O.ngd, .ref O.nh, .ref O.np, .ref O.nr, .ref O.nt]) n1
      refine ⟨a, A.of .twice, t1, _, _, false, rfl, s3 _ _ ha2, C.ec, upd_same, .cons (own _) (.cons (own _) (.cons (own _) (.cons (own _) (.cons (own _) (.cons (own _) (.cons (own _) (.cons (own _) (.cons (own _) (.cons (own _) .nil))))))))), C.o1, false, rfl, iteF ?_⟩
      refine ⟨_, rfl, (by show 2 ≤ sizeLine; decide), fun t2 n2 => ?_⟩
      have s4 := @same_new _ _ (.tup [V.ref O.nth, .ref O.nti]) n2
      refine ⟨a, A.of .twice, t2, _, _, false, rfl, s4 _ _ (s3 _ _ ha2), C.ec, upd_same, .cons (own _) (.cons (own _) .nil), C.o2, false, rfl, iteF ?_⟩
      refine ⟨_, rfl, a, A.of .twice, .ty "ValueError", .type "ValueError", true, rfl, s4 _ _ (s3 _ _ ha2), C.ec, fun u r => r, C.v, true, rfl, iteF ?_⟩
      refine ⟨_, rfl, L, _, rfl, .inl (SqL.of (s4 _ _ (s3 _ _ e2))), rfl, _, rfl, ?_⟩
      refine iteF ⟨_, rfl, L, _, 0, _, rfl, rfl, SqL.of (s4 _ _ (s3 _ _ e2)), atI_nat (j := 0) rfl, q _ (s2.trans (s3.trans s4))⟩
    | many =>
      have C := D .many
      refine ⟨_, rfl, a, A.of .many, .ref A.ne, .ref A.ne, _, rfl, ha1, C.ec, fun u r => r, C.ne, false, rfl, iteF ?_⟩
      refine ⟨_, rfl, a, A.of .many, .ref A.tw, .ref A.tw, _, rfl, ha1, C.ec, fun u r => r, C.tw, false, rfl, iteF ?_⟩
      refine ⟨_, rfl, a, A.of .many, .ref A.tm, .ref A.tm, _, rfl, ha1, C.ec, fun u r => r, C.tm, true, rfl, iteT ?_⟩
      refine ⟨_, rfl, .inl ⟨rfl, _, SqL.of e1⟩, L, _, _, rfl, rfl, e1, (by show 0 < sizeLine; decide), ?_⟩
      have s2 := fin "TooMany"
      have e2 := hL "TooMany"
      have ha2 := s2 _ _ ha
      generalize upd H1 L (.lst ([] ++ [V.str "TooMany"])) = H2 at s2 e2 ha2 ⊢
      refine ⟨_, rfl, a, A.of .many, .ref A.nn, .ref A.nn, _, rfl, ha2, C.ec, fun u r => r, C.nn, false, rfl, iteF ?_⟩
      refine ⟨_, rfl, a, A.of .many, .ref A.nm, .ref A.nm, _, rfl, ha2, C.ec, fun u r => r, C.nm, false, rfl, iteF ?_⟩
      refine ⟨_, rfl, (by show 10 ≤ sizeLine; decide), fun t1 n1 => ?_⟩
      have s3 := @same_new _ _ (.tup [V.ref O.cl, .ref O.cd, .ref O.nd, .ref O.nf, .ref O.ng, .ref O.ngd, .ref O.nh, .ref O.np, .ref O.nr, .ref O.nt]) n1
      refine ⟨a, A.of .many, t1, _, _, false, rfl, s3 _ _ ha2, C.ec, upd_same, .cons (own _) (.cons (own _) (.cons (own _) (.cons (own _) (.cons (own _) (.cons (own _) (.cons (own _) (.cons (own _) (.cons (own _) (.cons (own _) .nil))))))))), C.o1, false, rfl, iteF ?_⟩
      refine ⟨_, rfl, (by show 2 ≤ sizeLine; decide), fun t2 n2 => ?_⟩
      have s4 := @same_new _ _ (.tup [V.ref O.nth, .ref O.nti]) n2
      refine ⟨a, A.of .many, t2, _, _, false, rfl, s4 _ _ (s3 _ _ ha2), C.ec, upd_same, .cons (own _) (.cons (own _) .nil), C.o2, false, rfl, iteF ?_⟩
      refine ⟨_, rfl, a, A.of .many, .ty "ValueError", .type "ValueError", true, rfl, s4 _ _ (s3 _ _ ha2), C.ec, fun u r => r, C.v, true, rfl, iteF ?_⟩
      refine ⟨_, rfl, L, _, rfl, .inl (SqL.of (s4 _ _ (s3 _ _ e2))), rfl, _, rfl, ?_⟩
      refine iteF ⟨_, rfl, L, _, 0, _, rfl, rfl, SqL.of (s4 _ _ (s3 _ _ e2)), atI_nat (j := 0) rfl, q _ (s2.trans (s3.trans s4))⟩
    | name =>
      have C := D .name
      refine ⟨_, rfl, a, A.of .name, .ref A.ne, .ref A.ne, _, rfl, ha1, C.ec, fun u r => r, C.ne, false, rfl, iteF ?_⟩
      refine ⟨_, rfl, a, A.of .name, .ref A.tw, .ref A.tw, _, rfl, ha1, C.ec, fun u r => r, C.tw, false, rfl, iteF ?_⟩
      refine ⟨_, rfl, a, A.of .name, .ref A.tm, .ref A.tm, _, rfl, ha1, C.ec, fun u r => r, C.tm, false, rfl, iteF ?_⟩
      refine ⟨_, rfl, a, A.of .name, .ref A.nn, .ref A.nn, _, rfl, ha1, C.ec, fun u r => r, C.nn, true, rfl, iteT ?_⟩
      refine ⟨_, rfl, .inl ⟨rfl, _, SqL.of e1⟩, L, _, _, rfl, rfl, e1, (by show 0 < sizeLine; decide), ?_⟩
      have s2 := fin "NoName"
      have e2 := hL "NoName"
      have ha2 := s2 _ _ ha
      generalize upd H1 L (.lst ([] ++ [V.str "NoName"])) = H2 at s2 e2 ha2 ⊢
      refine ⟨_, rfl, a, A.of .name, .ref A.nm, .ref A.nm, _, rfl, ha2, C.ec, fun u r => r, C.nm, false, rfl, iteF ?_⟩
      refine ⟨_, rfl, (by show 10 ≤ sizeLine; decide), fun t1 n1 => ?_⟩
      have s3 := @same_new _ _ (.tup [V.ref O.cl, .ref O.cd, .ref O.nd, .ref O.nf, .ref O.ng, .ref O.ngd, .ref O.nh, .ref O.np, .ref O.nr, .ref O.nt]) n1
      refine ⟨a, A.of .name, t1, _, _, false, rfl, s3 _ _ ha2, C.ec, upd_same, .cons (own _) (.cons (own _) (.cons (own _) (.cons (own _) (.cons (own _) (.cons (own _) (.cons (own _) (.cons (own _) (.cons (own _) (.cons (own _) .nil))))))))), C.o1, false, rfl, iteF ?_⟩
      refine ⟨_, rfl, (by show 2 ≤ sizeLine; decide), fun t2 n2 => ?_⟩
      have s4 := @same_new _ _ (.tup [V.ref O.nth, .ref O.nti]) n2
      refine ⟨a, A.of .name, t2, _, _, false, rfl, s4 _ _ (s3 _ _ ha2), C.ec, upd_same, .cons (own _) (.cons (own _) .nil), C.o2, false, rfl, iteF ?_⟩
      refine ⟨_, rfl, a, A.of .name, .ty "ValueError", .type "ValueError", true, rfl, s4 _ _ (s3 _ _ ha2), C.ec, fun u r => r, C.v, true, rfl, iteF ?_⟩
      refine ⟨_, rfl, L, _, rfl, .inl (SqL.of (s4 _ _ (s3 _ _ e2))), rfl, _, rfl, ?_⟩
      refine iteF ⟨_, rfl, L, _, 0, _, rfl, rfl, SqL.of (s4 _ _ (s3 _ _ e2)), atI_nat (j := 0) rfl, q _ (s2.trans (s3.trans s4))⟩
    | move =>
      have C := D .move
      refine ⟨_, rfl, a, A.of .move, .ref A.ne, .ref A.ne, _, rfl, ha1, C.ec, fun u r => r, C.ne, false, rfl, iteF ?_⟩
      refine ⟨_, rfl, a, A.of .move, .ref A.tw, .ref A.tw, _, rfl, ha1, C.ec, fun u r => r, C.tw, false, rfl, iteF ?_⟩
      refine ⟨_, rfl, a, A.of .move, .ref A.tm, .ref A.tm, _, rfl, ha1, C.ec, fun u r => r, C.tm, false, rfl, iteF ?_⟩
      refine ⟨_, rfl, a, A.of .move, .ref A.nn, .ref A.nn, _, rfl, ha1, C.ec, fun u r => r, C.nn, false, rfl, iteF ?_⟩
      refine ⟨_, rfl, a, A.of .move, .ref A.nm, .ref A.nm, _, rfl, ha1, C.ec, fun u r => r, C.nm, true, rfl, iteT ?_⟩
      refine ⟨_, rfl, .inl ⟨rfl, _, SqL.of e1⟩, L, _, _, rfl, rfl, e1, (by show 0 < sizeLine; decide), ?_⟩
      have s2 := fin "NoMove"
      have e2 := hL "NoMove"
      have ha2 := s2 _ _ ha
      generalize upd H1 L (.lst ([] ++ [V.str "NoMove"])) = H2 at s2 e2 ha2 ⊢
      refine ⟨_, rfl, (by show 10 ≤ sizeLine; decide), fun t1 n1 => ?_⟩
      have s3 := @same_new _ _ (.tup [V.ref O.cl, .ref O.cd, .ref O.nd, .ref O.nf, .ref O.ng, .ref O.ngd, .ref O.nh, .ref O.np, .ref O.nr, .ref O.nt]) n1
      refine ⟨a, A.of .move, t1, _, _, false, rfl, s3 _ _ ha2, C.ec, upd_same, .cons (own _) (.cons (own _) (.cons (own _) (.cons (own _) (.cons (own _) (.cons (own _) (.cons (own _) (.cons (own _) (.cons (own _) (.cons (own _) .nil))))))))), C.o1, false, rfl, iteF ?_⟩
      refine ⟨_, rfl, (by show 2 ≤ sizeLine; decide), fun t2 n2 => ?_⟩
      have s4 := @same_new _ _ (.tup [V.ref O.nth, .ref O.nti]) n2
      refine ⟨a, A.of .move, t2, _, _, false, rfl, s4 _ _ (s3 _ _ ha2), C.ec, upd_same, .cons (own _) (.cons (own _) .nil), C.o2, false, rfl, iteF ?_⟩
      refine ⟨_, rfl, a, A.of .move, .ty "ValueError", .type "ValueError", true, rfl, s4 _ _ (s3 _ _ ha2), C.ec, fun u r => r, C.v, true, rfl, iteF ?_⟩
      refine ⟨_, rfl, L, _, rfl, .inl (SqL.of (s4 _ _ (s3 _ _ e2))), rfl, _, rfl, ?_⟩
      refine iteF ⟨_, rfl, L, _, 0, _, rfl, rfl, SqL.of (s4 _ _ (s3 _ _ e2)), atI_nat (j := 0) rfl, q _ (s2.trans (s3.trans s4))⟩
end
section
variable {X : Cx}
abbrev sLToldN : List Str := ["_law_ask", "_law_caught", "_law_found", "e"]
theorem sc_sLTold : FnScope sLToldN ["_law_ask"] (defScope sLTold) := ⟨rfl, rfl, rfl, by decide +kernel, rfl, by decide +kernel, by decide +kernel⟩
set_option maxHeartbeats 4000000 in
theorem told_gives {k : Nat} {g fC : Addr} {dC : FuncData} {cdg : Value} {A : Rc7} {O : Oc7} {CE : Addr} {q : Str} (G : G7 X.mg A O CE) (D : D7 X.K A O CE) (CL : DefT X.prog X.w X.K X.mg X.base "_law_class" 1 fC dC ["_law_caught"] (spClass A)) : GivesToR (k + 1) X sLToldN "_law_told" (defScope sLTold) g cdg (defBody sLTold) "_law_ask" q (T7 A) := by
    intro f c' s H Q tl hr act hc h
    have nd := sc_sLTold.nd
    let tbA : WX → TS := fun W D σ H => ∃ Ech : XK, (∀ cls d σ' H', Ech cls d H' → W cls d σ' H') ∧ σ[0]? = some (some (.ref f)) ∧ H c' = some (LamX.CodeO c' q) ∧ tl Ech H fun v H' => D.nx (σ.set 2 (some v)) H'
    have body : ∀ (W : WX) (pn : List (Addr × Obj)) (xe : Value → Shared → Prop) (p1 p2 p3 p4 : Pos), Takes ((cxOf C8.CX0 X.prog X.w X.K X.mg X.base sLToldN "_law_told" (defScope sLTold) g cdg X.A X.stack s H C8.E0).nox.tr pn xe) W →
        PSs ((cxOf C8.CX0 X.prog X.w X.K X.mg X.base sLToldN "_law_told" (defScope sLTold) g cdg X.A X.stack s H C8.E0).nox.tr pn xe) [.Assign [.Name "_law_found" p1] (.Call (.Name "_law_ask" p2) [] [] p3) p4] (tbA W) := fun W pn xe p1 p2 p3 p4 tk => by
      refine ⟨fun pins z σ H1 D1 I h1 => ?_⟩
      obtain ⟨Ech, hW, e1, e2, e3⟩ := h1
      exact (pss_one (ps_set (i := 2) nd rfl (Or.inl rfl) (act W pn xe Ech _ _ tk hW))).run pins z σ H1 D1 I ⟨e1, e2, e3⟩
    have hr1 : Room 1 (X.A.deeper (envOfC "_law_told" (defScope sLTold) s.heap.objs.size g cdg)) := hr.mono (by omega)
    refine ⟨_, pss_cons (ps_set (i := 1) nd rfl (Or.inl rfl) pe_non)
      (pss_cons (ps_set (i := 2) nd rfl (Or.inl rfl) pe_non)
      (pss_cons (Kept.ps_try_keep (i := 3) (tb := tbA) rfl rfl nd rfl rfl ⟨rfl, by decide, .inl G.gE⟩ (fun W pn xe tk _ => body W pn xe _ _ _ _ tk) (fun a ob cls d pn hz hf => pss_one (ps_set (i := 1) nd rfl (Or.inl rfl) (pv 3))))
      (pss_cons (ps_if (pt_cmpR op_isN (pv 1) pe_non (by rfl)) (pss_one (ps_ret (pe_lst (pa_cons pe_str (pa_cons (pv 2) pa_nil))))) pss_nil)
      (pss_one (ps_ret (pe_lst (pa_cons pe_str (pa_cons (pe_call CL.ok hr1 (by rfl) CL.g CL.kp CL.b .nil pass0 (pa_cons (pv 1) pa_nil)) pa_nil)))))))), ?_⟩
    refine ⟨fun cls d H' => ∃ r : Rf7, cls = .ref (A.of r) ∧ d = none ∧ ∀ (t : Addr) (H2 : Hp), Same H' H2 → H2 t = some (.lst [.str "refused", .str r.w]) → Q (.ref t) H2, ?_, rfl, hc, h _ fun v H' hv => ?_⟩
    · rintro cls d σ' H1 ⟨r, rfl, rfl, hq⟩
      have C := D r
      refine ⟨C.cm, fun a hl na => ?_⟩
      obtain ⟨y0, y1, y2, y3, rfl⟩ : ∃ y0 y1 y2 y3, σ' = [y0, y1, y2, y3] := by
        match σ', hl with
        | [y0, y1, y2, y3], _ => exact ⟨_, _, _, _, rfl⟩
      refine ⟨_, rfl, ?_⟩
      have s1 := @same_new _ _ (Kept.ExV (.ref (A.of r)) none a) na
      have ha : (upd H1 a (Kept.ExV (.ref (A.of r)) none a)) a = some (Kept.ExV (.ref (A.of r)) none a) := upd_same
      refine ⟨_, rfl, rfl, false, rfl, iteF ?_⟩
      refine ⟨_, rfl, a, r, rfl, ha, fun H2 s2 => ?_⟩
      refine ⟨(by show 2 ≤ sizeLine; decide), fun t nt => ?_⟩
      exact hq t _ (s1.trans (s2.trans (same_new nt))) upd_same
    · refine ⟨_, rfl, rfl, true, rfl, iteT ⟨_, rfl, (by show 2 ≤ sizeLine; decide), fun t nt => hv t _ (same_new nt) upd_same⟩⟩
end
/-! ### the house with its entries sorted -/
theorem cr_sortE {X : Cx} {k : Nat} {f : Addr} {fd : FuncData} {p1 : Str} {sp : Sp} (F : FnOk X.prog X.w X.K X.mg X.base CX0 k f fd [p1] sp) (hr : Room (k + 2) X.A) (hb : Binds X.K fd [p1] []) : CallRK X (.builtin "sorted") [Str.ofString "key"] (fun vs zs H Q => rSortK X.K f sp vs zs H Q ∨ rSortKT X.K f sp vs zs H Q) := by
  rintro pins s σ H vs zs us ws Q I r rz (h | h)
  · exact cr_sortK F hr hb pins s σ H vs zs us ws Q I r rz h
  · exact cr_sortKT F hr hb pins s σ H vs zs us ws Q I r rz h
def spSorted : Sp := fun vs H Q _ => ∃ (h hp hg l : Addr) (rest : List V) (pr : List (Addr × Ent)), vs = [.ref h, .ref l] ∧ H h = some (.tup (.ref hp :: .ref hg :: rest)) ∧ LT H l (pr.map fun x => V.ref x.1) ∧ (∀ x ∈ pr, H x.1 = some (.tup x.2.vals)) ∧
  ∀ (t he : Addr) (H' : Hp), Same H H' → H' t = some (.tup [.ref hp, .ref hg, .ref he]) → H' he = some (.tup ((sortE pr).map fun x => V.ref x.1)) → Q (.ref t) H'
def setN7 : Ent → Str → Ent
  | .come _ m g p k r, n => .come n m g p k r
  | .go _ m g p k, n => .go n m g p k
  | .move _ m g o t k, n => .move n m g o t k
  | .some_ _ m g o t, n => .some_ n m g o t
  | .swap _ m o t, n => .swap n m o t
  | .count _ m g p k h, n => .count n m g p k h
  | .look _ m g p, n => .look n m g p
theorem setN7_facts (e : Ent) (n : Str) : (setN7 e n).vals = e.vals.take 1 ++ [.str n] ++ e.vals.drop 2 ∧ (setN7 e n).name = n ∧ (setN7 e n).places = e.places ∧ (setN7 e n).goodV = e.goodV ∧ (setN7 e n).sorts = e.sorts := by
  cases e <;> exact ⟨rfl, rfl, rfl, rfl, rfl⟩
theorem setN7_fine {e : Ent} {n : Str} (f : e.Fine) (hn : nameB n = true) : (setN7 e n).Fine := by
  obtain ⟨_, _, hp, _, hs⟩ := setN7_facts e n
  refine ⟨fun i v x hv hx => ?_, by rw [hp]; exact f.apart⟩
  rw [hs] at hx
  have s1 : e.sorts[0]? = some ("name" : Str) := by cases e <;> rfl
  have m1 : (setN7 e n).parts[0]? = some (.str n) := by cases e <;> rfl
  by_cases i1 : i = 0
  · subst i1
    rw [m1] at hv
    rw [s1] at hx
    cases hv
    cases hx
    exact fit_name hn
  · refine f.fit i v x ?_ hx
    rw [← hv]
    match i, i1 with
    | i + 1, _ => cases e <;> rfl
/-- what is put in, and what is due -/
def PutR (K : PySem.W.Frag) (H : Hp) (P G : List Str) (pr : List (Addr × Ent)) (v : V) (due : Str) : Prop :=
  ShQ K H v 3000 4 ∧ ((due = "NoEntry" ∧ NoE H P G v) ∨ ∃ x : Addr × Ent, v = .ref x.1 ∧ H x.1 = some (.tup x.2.vals) ∧ x.2.Fine ∧ ofB x.2 P G = true ∧ ((due = "Twice" ∧ ∃ y ∈ pr, y.2.name = x.2.name) ∨ (due = "told" ∧ ∀ y ∈ pr, y.2.name ≠ x.2.name)))
def spPutIn (K : PySem.W.Frag) : Sp := fun vs H Q _ => ∃ (p c h hp hg he fa ls : Addr) (n : Nat) (P G : List Str) (pr : List (Addr × Ent)) (f0 : Ent) (far kind : Str), vs = [.ref p, .ref h, .ref fa, .ref ls] ∧ PenAt H p c n ∧ n ≤ 80000 ∧ Ho7 H h hp hg he P G pr ∧ Ok7 P G pr ∧
  H fa = some (.tup f0.vals) ∧ f0.Fine ∧ ofB f0 P G = true ∧ (∀ y ∈ pr, y.2.name ≠ f0.name) ∧ H ls = some (.tup [.str far, .str kind]) ∧ far ∉ P ∧ kind ∉ G ∧ nameB far = true ∧ nameB kind = true ∧
  ∀ (t : Addr) (v : V) (due : Str) (H' : Hp), H' t = some (.tup [v, .str due]) → PutR K H' P G pr v due → PenAt H' p c (n + 5) → But p H H' → Q (.ref t) H'
theorem PutR.on {K : PySem.W.Frag} {H H' : Hp} {P G : List Str} {pr : List (Addr × Ent)} {v : V} {due : Str} (k : ∀ a o, H a = some o → (∀ ps, o ≠ .tbl ps) → H' a = some o) (h : PutR K H P G pr v due) : PutR K H' P G pr v due := by
  obtain ⟨sh, h⟩ := h
  refine ⟨sh.on k, h.imp (fun ⟨e, n⟩ => ⟨e, n.on k⟩) fun ⟨x, e, hx, r⟩ => ⟨x, e, k _ _ hx (fun _ z => nomatch z), r⟩⟩
theorem shq_ent {K : PySem.W.Frag} {H : Hp} {a : Addr} {e : Ent} (h : H a = some (.tup e.vals)) (f : e.Fine) : ShQ K H (.ref a) 2100 3 := by
  have l7 := vals_len_e e
  exact (shq_tup (n := 100) (k := 1) (m := 2100) (SqT.of h) (fun u hu => (part_thg (K := K) (H := H) (fine_parts f u hu)).2) (by omega)).mono (Nat.le_refl _) (by decide)
/-- an entry of what isn't there -/
theorem put_stray {K : PySem.W.Frag} {H : Hp} {P G : List Str} {pr : List (Addr × Ent)} {a : Addr} {e : Ent} (h : H a = some (.tup e.vals)) (pp : ∀ v ∈ e.vals, PartS v) (nb : ofB e P G = false) : PutR K H P G pr (.ref a) "NoEntry" := by
  have l0 := vals_len_e e
  exact ⟨(shq_tup (n := 100) (k := 1) (m := 3000) (SqT.of h) (fun u hu => (part_thg (K := K) (H := H) (pp u hu)).2) (by omega)).mono (Nat.le_refl _) (by decide), .inl ⟨rfl, .inr ⟨a, e.vals, rfl, h, by omega, fun x hx => (part_thg (K := K) (pp x hx)).1, fun ⟨e', fi, o, q'⟩ => by
        rw [← vals_inj q', nb] at o
        exact nomatch o⟩⟩⟩
theorem put_twin {K : PySem.W.Frag} {H : Hp} {P G : List Str} {pr : List (Addr × Ent)} {a : Addr} {us : List V} (h : TwinAt H a us) : PutR K H P G pr (.ref a) "NoEntry" := by
  obtain ⟨h0, lu, pu, b, mb⟩ := h
  have pB : ∀ u ∈ us, Thg H u ∧ ShQ K H u 100 1 := fun u hu => by
    rcases pu u hu with h | ⟨b, rfl⟩
    · exact part_thg h
    · exact ⟨.bl b, shq_bl b⟩
  exact ⟨(shq_tup (n := 100) (k := 1) (m := 3000) (SqT.of h0) (fun u hu => (pB u hu).2) (by omega)).mono (Nat.le_refl _) (by decide), .inl ⟨rfl, no_tup h0 (by omega) (fun x hx => (pB x hx).1) (fun ⟨e', _, q'⟩ => by
          rw [q'] at mb
          rcases vals_sn e' _ mb with ⟨i, h⟩ | ⟨z, h⟩ <;> exact nomatch h) P G⟩⟩
theorem eqv_nilT (ds : List PyData) : PyData.eqv (.tuple ds) (.tuple []) = decide (ds = []) := by
  cases ds with
  | nil => simp [PyData.eqv, PyData.eqvAll]
  | cons y r => simp [PyData.eqv, PyData.eqvAll]
theorem shaped_ents {pr : List (Addr × Ent)} (h : ∀ x ∈ pr, SeqAt.shaped (entD x.2) = true) (dep : ∀ x ∈ pr, (entD x.2).depth ≤ 1) : SeqAt.shaped (.tuple ((pr.map (·.2)).map entD)) = true := by
  have lay : PyData.canLayAll0 ((pr.map (·.2)).map entD) = true ∧ PyData.depthAll ((pr.map (·.2)).map entD) ≤ 1 := by
    induction pr with
    | nil => exact ⟨rfl, Nat.zero_le _⟩
    | cons x r ih =>
      obtain ⟨i1, i2⟩ := ih (fun y hy => h y (List.mem_cons_of_mem _ hy)) fun y hy => dep y (List.mem_cons_of_mem _ hy)
      rw [List.map_cons, List.map_cons, PyData.canLayAll0, PyData.depthAll, i1, SeqAt.canLay_of_shaped (h x List.mem_cons_self)]
      exact ⟨rfl, Nat.max_le.mpr ⟨dep x List.mem_cons_self, i2⟩⟩
  unfold SeqAt.shaped
  rw [PyData.canLay0, lay.1, Bool.true_and]
  refine decide_eq_true ?_
  rw [PyData.depth]
  exact Nat.le_trans (Nat.succ_le_succ lay.2) (by decide)
section
variable {P : Program} {w : World} {K : PySem.W.Frag} {mg : Str → Option Value} {base : Heap}
abbrev sSortedN : List Str := ["_law_house", "_law_entries"]
theorem sc_sSorted : FnScope sSortedN ["_law_house", "_law_entries"] (defScope sSorted) := ⟨rfl, rfl, rfl, by decide +kernel, rfl, by decide +kernel, by decide +kernel⟩
set_option maxHeartbeats 2000000 in
theorem ok_sorted {f fO : Addr} {fd dO : FuncData} (F : Fun K "_law_sorted" "_law_sorted" sSorted f fd) (O : DefT P w K mg base "_law_order" 1 fO dO ["_law_entry_here"] spOrd) (ms : mg "sorted" = none) (mt : mg "tuple" = none) : FnOk P w K mg base CX0 4 f fd ["_law_house", "_law_entries"] spSorted := by
  refine F.ok sc_sSorted (fun vs H Q E h => ?_) (fun cdv A outer s H vs Q E hr h => ?_)
  · obtain ⟨h, hp, hg, l, rest, pr, rfl, _⟩ := h
    rfl
  · obtain ⟨h, hp, hg, l, rest, pr, rfl, hh, hl, hE, q⟩ := h
    have hr3 : Room 3 _ := hr.mono (by decide)
    have nd := sc_sSorted.nd
    have hr3 : Room 3 _ := hr.mono (by decide)
    refine ⟨_, pss_one (ps_ret (pe_tup (pa_cons (pe_ix ix_tup (pv 0) pe_int (fun _ _ => rfl)) (pa_cons (pe_ix ix_tup (pv 0) pe_int (fun _ _ => rfl)) (pa_cons (pe_callTy call_tuple_of (by rfl) mt (by decide +kernel) (pa_cons (pe_callBK (cr_sortE O.ok hr3 O.b) (by rfl) ms (by decide +kernel) (pa_cons (pv 1) pa_nil) (pk_cons (pe_glob (v := .ref fO) (by rfl) O.g rfl) pk_nil)) pa_nil)) pa_nil))))), ?_⟩
    refine ⟨_, rfl, h, _, 0, _, rfl, rfl, SqT.of hh, atI_nat (j := 0) rfl, _, rfl, h, _, 1, _, rfl, rfl, SqT.of hh, atI_nat (j := 1) rfl, _, rfl, ?_⟩
    have ali : PySem.W.AllAlike ((pr.map prV).map (·.2)) := by
      intro d hd d' hd'
      rw [List.map_map] at hd hd'
      obtain ⟨x, _, rfl⟩ := List.mem_map.mp hd
      obtain ⟨y, _, rfl⟩ := List.mem_map.mp hd'
      exact ord_alike x.2 y.2
    have srt : PySem.W.Sortable ((pr.map prV).map (·.2)) := .inl (by
      intro d hd
      rw [List.map_map] at hd
      obtain ⟨x, _, rfl⟩ := List.mem_map.mp hd
      exact ⟨_, _, rfl⟩)
    have dep : ∀ e ∈ pr.map prV, e.2.depth ≤ 60 := by
      intro e he
      obtain ⟨x, _, rfl⟩ := List.mem_map.mp he
      show 1 ≤ 60
      decide
    have key : ∀ e ∈ pr.map prV, ∀ H1, Same H H1 → ∀ Q1 : VK, (∀ v H2, Same H1 H2 → Dp K H2 v e.2 → Q1 v H2) → spOrd [e.1] H1 Q1 E0 := by
      intro e he H1 sm Q1 hq
      obtain ⟨x, hx, rfl⟩ := List.mem_map.mp he
      exact ⟨x.1, x.2, rfl, sm _ _ (hE x hx), fun tp H2 sm2 h2 => hq _ _ sm2 (ord_dp h2)⟩
    have fin : ∀ (p : Addr) (H1 : Hp), H p = none → Same H H1 → H1 p = some (.lst ((keyed (pr.map prV)).map (·.1))) → ∀ (t3 : Addr), H1 t3 = none → ∀ (t4 : Addr), (upd H1 t3 (.tup ((keyed (pr.map prV)).map (·.1)))) t4 = none → Q (.ref t4) (upd (upd H1 t3 (.tup ((keyed (pr.map prV)).map (·.1)))) t4 (.tup [.ref hp, .ref hg, .ref t3])) := by
      intro p H1 np s1 h1 t3 n3 t4 n4
      have s3 := @same_new _ _ (.tup ((keyed (pr.map prV)).map (·.1))) n3
      have e3 := @upd_same H1 t3 (.tup ((keyed (pr.map prV)).map (·.1)))
      have s4 := @same_new _ _ (.tup [V.ref hp, .ref hg, .ref t3]) n4
      refine q t4 t3 _ (s1.trans (s3.trans s4)) upd_same ?_
      rw [s4 _ _ e3, keyed_prV, List.map_map]
      rfl
    rcases hl with hl | hl
    · refine .inl ⟨l, pr.map prV, rfl, rfl, SqL.of (by rw [hl, List.map_map]; rfl), ali, srt, dep, key, fun a3 H10 na3 s3 h3 => ⟨a3, _, rfl, .inl ⟨SqL.of h3, fun t3 nt3 => ?_⟩⟩⟩
      exact ⟨(by show 3 ≤ sizeLine; decide), fun t4 n4 => fin a3 H10 na3 s3 h3 t3 nt3 t4 n4⟩
    · refine .inr ⟨l, pr.map prV, rfl, rfl, SqT.of (by rw [hl, List.map_map]; rfl), ali, srt, dep, key, fun a3 H10 na3 s3 h3 => ⟨a3, _, rfl, .inl ⟨SqL.of h3, fun t3 nt3 => ?_⟩⟩⟩
      exact ⟨(by show 3 ≤ sizeLine; decide), fun t4 n4 => fin a3 H10 na3 s3 h3 t3 nt3 t4 n4⟩
abbrev sPutInN : List Str := ["_law_pen_here", "_law_house", "_law_fresh", "_law_strange", "_law_way", "_law_places", "_law_goods", "_law_entries", "_law_name", "_law_entry_here", "_law_one", "_law_some", "_law_odd"]
theorem sc_sPutIn : FnScope sPutInN ["_law_pen_here", "_law_house", "_law_fresh", "_law_strange"] (defScope sPutIn) := ⟨rfl, rfl, rfl, by decide +kernel, rfl, by decide +kernel, by decide +kernel⟩
set_option maxHeartbeats 8000000 in
theorem ok_putIn {f fT fW : Addr} {fd dT dW : FuncData} (F : Fun K "_law_put_in" "_law_put_in" sPutIn f fd) (T : TakeT P w K mg base fT dT) (TW : DefT P w K mg base "_law_twin" 2 fW dW ["_law_pen_here", "_law_entries"] spTwin) (ml : mg "len" = none) (mli : mg "list" = none) (mi : mg "int" = none) :
    FnOk P w K mg base CX0 3 f fd ["_law_pen_here", "_law_house", "_law_fresh", "_law_strange"] (spPutIn K) := by
  refine F.ok sc_sPutIn (fun vs H Q E h => ?_) (fun cdv A outer s H vs Q E hr h => ?_)
  · obtain ⟨p, c, h, hp, hg, he, fa, ls, n, Ps, G, pr, f0, far, kind, rfl, _⟩ := h
    rfl
  · obtain ⟨p, c, h, hp, hg, he, fa, ls, n, Ps, G, pr, f0, far, kind, rfl, pen, hn, ho, ok, hf, ff, of0, nf0, hls, nfar, nkind, bfar, bkind, q⟩ := h
    have nd := sc_sPutIn.nd
    have hr1 : Room 1 _ := hr.mono (by decide)
    refine ⟨_, pss_cons (ps_set (i := 4) nd rfl (Or.inl rfl) (pe_call T.ok hr1 (by rfl) T.g T.kp T.b .nil pass0 (pa_cons (pv 0) (pa_cons pe_int pa_nil))))
      (pss_cons (ps_asg (pv 1) (pg_tup (by rfl) (pgs_cons (pg_name (i := 5) nd rfl (Or.inl rfl)) (pgs_cons (pg_name (i := 6) nd rfl (Or.inl rfl)) (pgs_cons (pg_name (i := 7) nd rfl (Or.inl rfl)) pgs_nil)))))
      (pss_cons (ps_set (i := 8) nd rfl (Or.inl rfl) (pe_op op_cat (pe_lst (pa_cons (pe_ix ix_tup (pv 2) pe_int (fun _ _ => rfl)) pa_nil)) (pe_lc (own := [("_law_entry_here", 9)]) (g := gName 9) (tt := tYes) (te := tOp (rIxT K) (tVar 9) (tC (V.int 1))) rfl nd (pi_tup (pv 7)) (blkOk_by (N := sPutInN) (sc := defScope sPutIn) (by decide +kernel)) (fun _ _ _ _ _ => (pg_name (i := 9) nd rfl (Or.inl rfl))) (fun _ _ _ _ _ => pts_nil) (fun _ _ _ _ _ => (pe_ix ix_tup (pv 9) pe_int (fun _ _ => rfl))))))
      (pss_cons (ps_set (i := 8) nd rfl (Or.inl rfl) (pe_ix ix_list (pv 8) (pe_call T.ok hr1 (by rfl) T.g T.kp T.b .nil pass0 (pa_cons (pv 0) (pa_cons (pe_callB call_len_seq (by rfl) ml PySem.boot_len (pa_cons (pv 8) pa_nil)) pa_nil))) (fun _ _ => rfl)))
      (pss_cons (ps_if (pt_cmpR op_lt (pv 4) pe_int (nomark _)) (pss_one (ps_ret (pe_tup (pa_cons (pv 2) (pa_cons pe_str pa_nil))))) pss_nil)
      (C8.pss_cut (ps_if (PW.pt (pw_and (pt_cmpR op_eq (pv 4) pe_int (nomark _)) (pw_and1 (pt_cmpR (op_neD hr.units) (pv 7) (pe_tup pa_nil) (nomark _))))) (pss_one (ps_ret (pe_tup (pa_cons (pe_ix ix_tup (pv 7) (pe_call T.ok hr1 (by rfl) T.g T.kp T.b .nil pass0 (pa_cons (pv 0) (pa_cons (pe_callB call_len_seq (by rfl) ml PySem.boot_len (pa_cons (pv 7) pa_nil)) pa_nil))) (fun _ _ => rfl)) (pa_cons pe_str pa_nil))))) pss_nil)
      (pss_cons (ps_if (pt_cmpR op_eq (pv 4) pe_int (nomark _)) (pss_one (ps_ret (pe_tup (pa_cons (pe_op op_catW (pe_op op_catW (pe_slice sl_S (pv 2) po_none (po_some pe_int)) (pe_tup (pa_cons (pv 8) pa_nil))) (pe_slice sl_S (pv 2) (po_some pe_int) po_none)) (pa_cons (pe_ix ix_list (pe_lst (pa_cons pe_str (pa_cons pe_str pa_nil))) (pe_callTy call_int1 (by rfl) mi (by decide +kernel) (pa_cons (pe_cmpR op_eq (pv 8) (pe_ix ix_tup (pv 2) pe_int (fun _ _ => rfl)) (nomark _)) pa_nil)) (fun _ _ => rfl)) pa_nil))))) pss_nil)
      (pss_cons (ps_set (i := 10) nd rfl (Or.inl rfl) (pe_ix ix_tup (pv 5) (pe_call T.ok hr1 (by rfl) T.g T.kp T.b .nil pass0 (pa_cons (pv 0) (pa_cons (pe_callB call_len_seq (by rfl) ml PySem.boot_len (pa_cons (pv 5) pa_nil)) pa_nil))) (fun _ _ => rfl)))
      (pss_cons (ps_if (pt_cmpR op_eq (pv 4) pe_int (nomark _)) (pss_one (ps_ret (pe_tup (pa_cons (pe_tup (pa_cons pe_str (pa_cons (pv 8) (pa_cons pe_int (pa_cons (pv 10) (pa_cons (pe_ix ix_tup (pv 3) pe_int (fun _ _ => rfl)) pa_nil)))))) (pa_cons pe_str pa_nil))))) pss_nil)
      (pss_cons (ps_if (pt_cmpR op_eq (pv 4) pe_int (nomark _)) (pss_cons (ps_set (i := 11) nd rfl (Or.inl rfl) (pe_lst (pa_cons (pe_tup (pa_cons pe_str (pa_cons (pv 8) (pa_cons pe_int (pa_cons (pe_ix ix_tup (pv 6) pe_int (fun _ _ => rfl)) (pa_cons (pe_ix ix_tup (pv 3) pe_int (fun _ _ => rfl)) pa_nil)))))) (pa_cons (pe_tup (pa_cons pe_str (pa_cons (pv 8) (pa_cons pe_int (pa_cons (pe_ix ix_tup (pv 3) pe_int (fun _ _ => rfl)) (pa_cons (pv 10) pa_nil)))))) pa_nil))))
        (pss_one (ps_ret (pe_tup (pa_cons (pe_ix ix_list (pv 11) (pe_call T.ok hr1 (by rfl) T.g T.kp T.b .nil pass0 (pa_cons (pv 0) (pa_cons pe_int pa_nil))) (fun _ _ => rfl)) (pa_cons pe_str pa_nil)))))) pss_nil)
      (pss_cons (ps_if (pt_cmpR op_eq (pv 4) pe_int (nomark _)) (pss_one (ps_ret (pe_tup (pa_cons (pe_call TW.ok hr (by rfl) TW.g TW.kp TW.b .nil pass0 (pa_cons (pv 0) (pa_cons (pv 7) pa_nil))) (pa_cons pe_str pa_nil))))) pss_nil)
      (pss_cons (ps_set (i := 12) nd rfl (Or.inl rfl) (pe_lst (pa_cons pe_non (pa_cons pe_bl (pa_cons pe_int (pa_cons pe_str (pa_cons (pe_tup pa_nil) (pa_cons (pe_lst pa_nil) (pa_cons pe_dnewK (pa_cons (pe_callTy call_list_of (by rfl) mli (by decide +kernel) (pa_cons (pv 2) pa_nil)) (pa_cons (pe_slice sl_S (pv 2) po_none (po_some (pe_un un_neg pe_int))) (pa_cons (pe_op op_catW (pv 2) (pe_tup (pa_cons pe_int pa_nil))) (pa_cons (pe_tup (pa_cons pe_str (pa_cons (pv 8) (pa_cons pe_bl (pa_cons (pe_ix ix_tup (pv 6) pe_int (fun _ _ => rfl)) (pa_cons (pv 10) pa_nil)))))) pa_nil)))))))))))))
      (pss_one (ps_ret (pe_tup (pa_cons (pe_ix ix_list (pv 12) (pe_call T.ok hr1 (by rfl) T.g T.kp T.b .nil pass0 (pa_cons (pv 0) (pa_cons (pe_callB call_len_seq (by rfl) ml PySem.boot_len (pa_cons (pv 12) pa_nil)) pa_nil))) (fun _ _ => rfl)) (pa_cons pe_str pa_nil)))))))))))))))), ?_⟩
    refine ⟨_, rfl, p, c, n, 8, rfl, pen, by omega, by decide, by decide, fun r1 H1 a1 b1 pen1 bt1 => ?_⟩
    have ho1 := ho.on (fun _ _ e => pen_keep pen bt1 e)
    have hf1 := pen_keep pen bt1 hf
    have hls1 := pen_keep pen bt1 hls
    refine ⟨_, rfl, h, _, rfl, SqT.of ho1.h0, rfl, _, _, rfl, _, _, rfl, _, _, rfl, rfl, ?_⟩
    refine ⟨_, rfl, fa, _, 1, _, rfl, rfl, SqT.of hf1, at1 f0, (by show 1 ≤ sizeLine; decide), fun A1 nA1 => ?_⟩
    have sA := @same_new _ _ (.lst [V.str f0.name]) nA1
    have eA := @upd_same H1 A1 (.lst [V.str f0.name])
    generalize upd H1 A1 (.lst [V.str f0.name]) = H2 at sA eA ⊢
    refine ⟨_, rfl, he, rfl, ⟨_, SqT.of (sA _ _ ho1.h3)⟩, fun D nD => ?_⟩
    refine lc_tup (K := K) (a := he) (xs := pr.map fun x => V.ref x.1) (fun i H' => Same H2 H' ∧ H' D = some (.lst ((pr.take i).map fun x => V.str x.2.name))) ⟨same_new nD, upd_same⟩ (fun i H' _ z => SqT.of (z.1 _ _ (sA _ _ ho1.h3))) ?_ ?_
    · rintro i v H' hv ⟨s', eD⟩
      rw [List.getElem?_map] at hv
      obtain ⟨y, hy, rfl⟩ := Option.map_eq_some_iff.mp hv
      have my := List.mem_of_getElem? hy
      refine ⟨rfl, yesT ⟨_, rfl, y.1, _, 1, _, rfl, rfl, SqT.of (s' _ _ (sA _ _ (ho1.e y my))), at1 y.2, _, eD, (by rw [List.length_map, List.length_take]; have := ok.le; exact small1000 (by omega)), fun b o e => (upd_ne (ne_of_none e nD)).trans (s' b o e), ?_⟩⟩
      rw [upd_same, take_sn hy, List.map_append]
      rfl
    · rintro H3 ⟨s3, eD⟩
      rw [List.length_map, List.take_length] at eD
      refine ⟨A1, D, _, _, rfl, rfl, s3 _ _ eA, eD, (by rw [List.length_map]; have := ok.le; exact Nat.le_of_lt (small1000 (show 1 + pr.length ≤ 1000 by omega))), fun L nL => ?_⟩
      have s4 := @same_new _ _ (.lst ([V.str f0.name] ++ pr.map fun x => V.str x.2.name)) nL
      have e4 : (upd H3 L (.lst ([V.str f0.name] ++ pr.map fun x => V.str x.2.name))) L = some (.lst ((f0.name :: pr.map fun x => x.2.name).map V.str)) := by
        rw [upd_same, List.map_cons, List.map_map]
        rfl
      generalize upd H3 L (.lst ([V.str f0.name] ++ pr.map fun x => V.str x.2.name)) = H4 at s4 e4 ⊢
      have s14 := sA.trans (s3.trans s4)
      have pen4 := pen1.same s14
      have lz : ((f0.name :: pr.map fun x => x.2.name).map V.str).length = pr.length + 1 := by rw [List.length_map, List.length_cons, List.length_map]
      have ple := ok.le
      refine ⟨_, rfl, _, rfl, _, rfl, L, _, rfl, .inl (SqL.of e4), p, c, n + 1, _, rfl, pen4, by omega, (by rw [lz]; omega), (by rw [lz]; omega), fun r2 H5 a2 b2 pen5 bt5 => ?_⟩
      obtain ⟨nm, hnm, _, mnm⟩ := at_strs (ys := f0.name :: pr.map fun x => x.2.name) a2 (by rw [lz] at b2; rw [List.length_cons, List.length_map]; exact b2)
      have bt15 : But p H1 H5 := (But.of s14).tr bt5
      have bt := bt1.tr bt15
      have ho5 := ho1.on (fun _ _ e => pen_keep pen1 bt15 e)
      have hf5 := pen_keep pen1 bt15 hf1
      have hls5 := pen_keep pen1 bt15 hls1
      refine ⟨L, _, r2, _, rfl, rfl, SqL.of (pen_keepL pen4 bt5 e4), hnm, ?_⟩
      have bnm : nameB nm = true := by
        rcases List.mem_cons.mp mnm with rfl | h
        · exact fine_name ff
        · obtain ⟨y, my, rfl⟩ := List.mem_map.mp h
          exact fine_name (ok.f y my).1
      have fin : ∀ (v : V) (due : Str) (H6 : Hp) (m : Nat), PutR K H6 Ps G pr v due → PenAt H6 p c m → m ≤ n + 5 → But p H H6 → ∀ t, H6 t = none → Q (.ref t) (upd H6 t (.tup [v, .str due])) := fun v due H6 m pr6 pn hm b t nt => by
        have s := @same_new _ _ (.tup [v, .str due]) nt
        exact q t v due _ upd_same (pr6.on fun a o e _ => s a o e) ((pn.mono hm).same s) (b.tr (.of s))
      clear s14 sA s3 s4 eA eD e4 nD nL lz hls1 hf1 ho1 pen4 nA1
      show gName 8 (V.str nm) [some (.ref p), some (.ref h), some (.ref fa), some (.ref ls), some (.int r1), some (.ref hp), some (.ref hg), some (.ref he), some (.ref L), none, none, none, none] H5 _
      -- the new one
      refine ⟨_, rfl, r1, 2, rfl, rfl, _, rfl, ite2 (fun _ => ?_) (fun _ => ?_)⟩
      · refine ⟨_, rfl, (by show 2 ≤ sizeLine; decide), fun t nt => fin _ _ H5 _ ?_ pen5 (by omega) bt t nt⟩
        exact ⟨(shq_ent hf5 ff).mono (by decide) (by decide), .inr ⟨(fa, f0), rfl, hf5, ff, of0, .inr ⟨rfl, nf0⟩⟩⟩
      -- one that is there
      refine ⟨fun σ H' => σ = [some (.ref p), some (.ref h), some (.ref fa), some (.ref ls), some (.int r1), some (.ref hp), some (.ref hg), some (.ref he), some (.str nm), none, none, none, none] ∧ PenAt H' p c (n + 1 + 1) ∧ But p H H', ?_, ?_⟩
      · refine ⟨_, rfl, rfl, _, rfl, ite2 (fun _ => ?_) (fun _ => iteF ⟨rfl, pen5, bt⟩)⟩
        refine ⟨_, rfl, (by show 0 ≤ sizeLine; decide), fun t0 n0 => ?_⟩
        have s6 := @same_new _ _ (.tup []) n0
        have e6 := @upd_same H5 t0 (.tup [])
        generalize upd H5 t0 (.tup []) = H6 at s6 e6 ⊢
        have ho6 := ho5.on (TK.of s6)
        have dps : Dp K H6 (.ref he) (.tuple ((pr.map (·.2)).map entD)) := by
          have := dp_ents (K := K) (ents_pairs ho6.e)
          rw [List.map_map] at this
          exact .tup (SqT.of ho6.h3) this
        have shE := shaped_ents (fun x hx => ok.shape hx) fun x hx => by
          have := (lay_V (fine_parts (ok.f x hx).1)).2
          unfold entD
          rw [PyData.depth, this]
          decide
        refine ⟨_, _, dps, .tup (SqT.of e6) .nil, shE, by decide +kernel, ?_⟩
        rw [eqv_nilT]
        refine ⟨_, rfl, ite2 (fun z => ?_) (fun _ => ⟨rfl, pen5.same s6, bt.tr (.of s6)⟩)⟩
        have np : pr ≠ [] := fun e => by
          rw [e] at z
          exact nomatch z
        have l1 : 1 ≤ pr.length := by
          cases e : pr with
          | nil => exact absurd e np
          | cons a b => simp
        have lm : (pr.map fun x => V.ref x.1).length = pr.length := List.length_map _
        have pen6 := pen5.same s6
        refine ⟨_, rfl, _, rfl, _, rfl, he, _, rfl, .inr (SqT.of ho6.h3), p, c, _, _, rfl, pen6, by omega, (by rw [lm]; omega), (by rw [lm]; omega), fun r3 H7 a3 b3 pen7 bt7 => ?_⟩
        obtain ⟨v, hv, mv⟩ := at_ex (xs := pr.map fun x => V.ref x.1) a3 b3
        obtain ⟨y, my, rfl⟩ := List.mem_map.mp mv
        have ho7 := ho6.on (fun _ _ e => pen_keep pen6 bt7 e)
        refine ⟨he, _, r3, _, rfl, rfl, SqT.of ho7.h3, hv, (by show 2 ≤ sizeLine; decide), fun t nt => fin _ _ H7 _ ?_ pen7 (by omega) (bt.tr ((But.of s6).tr bt7)) t nt⟩
        exact ⟨(shq_ent (ho7.e y my) (ok.f y my).1).mono (by decide) (by decide), .inr ⟨y, rfl, ho7.e y my, (ok.f y my).1, (ok.f y my).2, .inl ⟨rfl, y, my, rfl⟩⟩⟩
      clear ho5 hf5 hls5 pen5 bt bt15 bt5 pen1 bt1 hnm
      rintro σ H5 ⟨rfl, pen5, bt⟩
      have ho5 := ho.on (fun _ _ e => pen_keep pen bt e)
      have hf5 := pen_keep pen bt hf
      have hls5 := pen_keep pen bt hls
      have l7 := vals_len_e f0
      -- of another name
      refine ⟨_, rfl, rfl, _, rfl, ite2 (fun _ => ?_) (fun _ => ?_)⟩
      · refine ⟨_, rfl, 1, rfl, fa, _, rfl, hf5, fun t3 H6 s6 h6 => ?_⟩
        refine ⟨_, rfl, (by show 1 ≤ sizeLine; decide), fun t4 n4 => ?_⟩
        have s7 := @same_new _ _ (.tup [V.str nm]) n4
        have e7 := @upd_same H6 t4 (.tup [V.str nm])
        generalize upd H6 t4 (.tup [V.str nm]) = H7 at s7 e7 ⊢
        have cl : ∀ {lo hi}, (cutV f0.vals lo hi).length ≤ 7 := fun {lo hi} => Nat.le_trans (cutV_length _ _ _) l7.2
        refine ⟨t3, t4, _, _, rfl, rfl, s7 _ _ h6, e7, (by have := @cl none (some 1); simp only [List.length_cons, List.length_nil]; omega), fun t5 H8 s8 h8 => ?_⟩
        refine ⟨_, rfl, 2, rfl, fa, _, rfl, s8 _ _ (s7 _ _ (s6 _ _ hf5)), fun t6 H9 s9 h9 => ?_⟩
        refine ⟨t5, t6, _, _, rfl, rfl, s9 _ _ h8, h9, (by have := @cl none (some 1); have := @cl (some 2) none; rw [List.length_append]; simp only [List.length_cons, List.length_nil]; omega), fun t7 H10 s10 h10 => ?_⟩
        refine ⟨(by show 2 ≤ sizeLine; decide), fun L2 nL2 => ?_⟩
        have s11 := @same_new _ _ (.lst [V.str "Twice", .str "told"]) nL2
        have e11 := @upd_same H10 L2 (.lst [V.str "Twice", .str "told"])
        generalize upd H10 L2 (.lst [V.str "Twice", .str "told"]) = H11 at s11 e11 ⊢
        have sA := s6.trans (s7.trans (s8.trans (s9.trans (s10.trans s11))))
        obtain ⟨x1, x2, x3, x4, x5⟩ := setN7_facts f0 nm
        have h7' : H11 t7 = some (.tup (setN7 f0 nm).vals) := by
          rw [s11 _ _ h10, x1]
          have c1 : cutV f0.vals none (some (1 : Int)) = f0.vals.take 1 := cut_head (k := 1)
          have c2 : cutV f0.vals (some (2 : Int)) none = f0.vals.drop 2 := cut_tail (k := 2)
          rw [c1, c2]
        have fN := setN7_fine ff bnm
        have oN : ofB (setN7 f0 nm) Ps G = true := by
          have o := of0
          unfold ofB goodOk at o ⊢
          rw [x3, x4]
          exact o
        refine ⟨_, rfl, _, rfl, fa, _, 1, _, rfl, rfl, SqT.of (sA _ _ hf5), at1 f0, rfl, .inr ⟨_, rfl, ?_⟩⟩
        by_cases z : nm = f0.name
        · rw [decide_eq_true (congrArg V.str z)]
          refine ⟨L2, _, 1, _, rfl, rfl, SqL.of e11, atI_nat (j := 1) rfl, (by show 2 ≤ sizeLine; decide), fun t nt => fin _ _ H11 _ ?_ (pen5.same sA) (by omega) (bt.tr (.of sA)) t nt⟩
          exact ⟨(shq_ent h7' fN).mono (by decide) (by decide), .inr ⟨(t7, setN7 f0 nm), rfl, h7', fN, oN, .inr ⟨rfl, fun y my e => nf0 y my (e.trans (x2.trans z))⟩⟩⟩
        · rw [decide_eq_false fun e => z (V.str.inj e)]
          have mn : nm ∈ pr.map fun x => x.2.name := (List.mem_cons.mp mnm).resolve_left z
          obtain ⟨y, my, ey⟩ := List.mem_map.mp mn
          refine ⟨L2, _, 0, _, rfl, rfl, SqL.of e11, atI_nat (j := 0) rfl, (by show 2 ≤ sizeLine; decide), fun t nt => fin _ _ H11 _ ?_ (pen5.same sA) (by omega) (bt.tr (.of sA)) t nt⟩
          exact ⟨(shq_ent h7' fN).mono (by decide) (by decide), .inr ⟨(t7, setN7 f0 nm), rfl, h7', fN, oN, .inl ⟨rfl, y, my, ey.trans x2.symm⟩⟩⟩
      -- a place that is there
      have p6 := ok.p6
      have p1 : 1 ≤ Ps.length := by
        cases e : Ps with
        | nil => exact absurd e ok.p0
        | cons a b => simp
      have lP : (Ps.map V.str).length = Ps.length := List.length_map _
      refine ⟨_, rfl, _, rfl, _, rfl, hp, _, rfl, .inr (SqT.of ho5.h1), p, c, _, _, rfl, pen5, by omega, (by rw [lP]; omega), (by rw [lP]; omega), fun r4 H6 a4 b4 pen6 bt6 => ?_⟩
      obtain ⟨one, hone, _, mone⟩ := at_strs (ys := Ps) a4 (by rw [lP] at b4; exact b4)
      have ho6 := ho5.on (fun _ _ e => pen_keep pen5 bt6 e)
      have hf6 := pen_keep pen5 bt6 hf5
      have hls6 := pen_keep pen5 bt6 hls5
      have btA := bt.tr bt6
      clear ho5 hf5 hls5 pen5 bt bt6
      refine ⟨hp, _, r4, _, rfl, rfl, SqT.of ho6.h1, hone, ?_⟩
      have bone := ok.np one mone
      have pN := part_name bnm
      have pO := part_name bone
      have pF := part_name bfar
      have pK := part_name bkind
      have pW : ∀ w ∈ words7, PartS (.str w) := fun w hw => by
        have h : ∀ w ∈ words7, w.length ≤ 60 ∧ PyData.strOk w = true := by decide +kernel
        exact .inl ⟨w, rfl, h w hw⟩
      have p7 : PartS (.int 7) := .inr ⟨7, rfl, by decide⟩
      show gName 10 (V.str one) [some (.ref p), some (.ref h), some (.ref fa), some (.ref ls), some (.int r1), some (.ref hp), some (.ref hg), some (.ref he), some (.str nm), none, none, none, none] H6 _
      -- a place that isn't there
      refine ⟨_, rfl, rfl, _, rfl, ite2 (fun _ => ?_) (fun _ => ?_)⟩
      · refine ⟨_, rfl, _, rfl, _, rfl, ls, _, 0, _, rfl, rfl, SqT.of hls6, atI_nat (j := 0) rfl, (by show 5 ≤ sizeLine; decide), fun t3 n3 => ?_⟩
        have s7 := @same_new _ _ (.tup (Ent.swap nm 7 one far).vals) n3
        have e7 := @upd_same H6 t3 (.tup (Ent.swap nm 7 one far).vals)
        refine ⟨(by show 2 ≤ sizeLine; decide), fun t nt => fin _ _ _ _ (put_stray e7 (fun v hv => ?_) ?_) (pen6.same s7) (by omega) (btA.tr (.of s7)) t nt⟩
        · simp only [Ent.vals, Ent.rest, Ent.word, Ent.name, Ent.moment, List.mem_cons, List.not_mem_nil, or_false] at hv
          rcases hv with rfl | rfl | rfl | rfl | rfl
          · exact pW _ (by decide +kernel)
          · exact pN
          · exact p7
          · exact pO
          · exact pF
        · simp [ofB, goodOk, Ent.goodV, Ent.places, nfar]
      obtain ⟨g0, gr, rfl⟩ : ∃ g0 gr, G = g0 :: gr := by
        cases e : G with
        | nil => exact absurd e ok.g0
        | cons a b => exact ⟨a, b, rfl⟩
      have pG := part_name (ok.ng g0 List.mem_cons_self)
      -- a place or a good that isn't there
      refine ⟨_, rfl, rfl, _, rfl, ite2 (fun _ => ?_) (fun _ => ?_)⟩
      · refine ⟨_, rfl, _, rfl, hg, _, 0, _, rfl, rfl, SqT.of ho6.h2, atI_nat (j := 0) rfl, _, rfl, ls, _, 0, _, rfl, rfl, SqT.of hls6, atI_nat (j := 0) rfl, (by show 5 ≤ sizeLine; decide), fun t3 n3 => ?_⟩
        have s7 := @same_new _ _ (.tup (Ent.look nm 7 g0 far).vals) n3
        have e7 := @upd_same H6 t3 (.tup (Ent.look nm 7 g0 far).vals)
        refine ⟨_, rfl, _, rfl, ls, _, 1, _, rfl, rfl, SqT.of (s7 _ _ hls6), atI_nat (j := 1) rfl, _, rfl, (by show 5 ≤ sizeLine; decide), fun t4 n4 => ?_⟩
        have s8 := @same_new _ _ (.tup (Ent.look nm 7 kind one).vals) n4
        have e8 := @upd_same (upd H6 t3 (.tup (Ent.look nm 7 g0 far).vals)) t4 (.tup (Ent.look nm 7 kind one).vals)
        refine ⟨(by show 2 ≤ sizeLine; decide), fun L2 nL2 => ?_⟩
        have s9 := @same_new _ _ (.lst [V.ref t3, .ref t4]) nL2
        have e9 := @upd_same (upd (upd H6 t3 (.tup (Ent.look nm 7 g0 far).vals)) t4 (.tup (Ent.look nm 7 kind one).vals)) L2 (.lst [V.ref t3, .ref t4])
        have sB := s7.trans (s8.trans s9)
        have pn := pen6.same sB
        refine ⟨_, rfl, _, rfl, p, c, _, 2, rfl, pn, by omega, by decide, by decide, fun r5 H7 a5 b5 pen7 bt7 => ?_⟩
        obtain ⟨v, hv, mv⟩ := at_ex (xs := [V.ref t3, .ref t4]) a5 b5
        have k3 := pen_keep pn bt7 (s9 _ _ (s8 _ _ e7))
        have k4 := pen_keep pn bt7 (s9 _ _ e8)
        refine ⟨L2, _, r5, v, rfl, rfl, SqL.of (pen_keepL pn bt7 e9), hv, (by show 2 ≤ sizeLine; decide), fun t nt => fin _ _ _ _ ?_ pen7 (by omega) (btA.tr ((But.of sB).tr bt7)) t nt⟩
        simp only [List.mem_cons, List.not_mem_nil, or_false] at mv
        rcases mv with rfl | rfl
        · refine put_stray k3 (fun v hv => ?_) ?_
          · simp only [Ent.vals, Ent.rest, Ent.word, Ent.name, Ent.moment, List.mem_cons, List.not_mem_nil, or_false] at hv
            rcases hv with rfl | rfl | rfl | rfl | rfl
            · exact pW _ (by decide +kernel)
            · exact pN
            · exact p7
            · exact pG
            · exact pF
          · simp [ofB, goodOk, Ent.goodV, Ent.places, nfar]
        · refine put_stray k4 (fun v hv => ?_) ?_
          · simp only [Ent.vals, Ent.rest, Ent.word, Ent.name, Ent.moment, List.mem_cons, List.not_mem_nil, or_false] at hv
            rcases hv with rfl | rfl | rfl | rfl | rfl
            · exact pW _ (by decide +kernel)
            · exact pN
            · exact p7
            · exact pK
            · exact pO
          · have nk : ¬ kind ∈ g0 :: gr := nkind
            simp only [List.mem_cons, not_or] at nk
            simp [ofB, goodOk, Ent.goodV, Ent.places, nk.1, nk.2]
      -- a bool for a number
      refine ⟨_, rfl, rfl, _, rfl, ite2 (fun _ => ?_) (fun _ => ?_)⟩
      · refine ⟨_, rfl, _, rfl, p, c, he, _, pr, rfl, pen6, by omega, ho6.h3, fun x hx => ⟨ho6.e x hx, fine_parts (ok.f x hx).1⟩, by have := ok.le; omega, fun v H7 tw pen7 bt7 => ?_⟩
        refine ⟨(by show 2 ≤ sizeLine; decide), fun t nt => fin _ _ _ _ ?_ pen7 (by omega) (btA.tr bt7) t nt⟩
        rcases tw with rfl | ⟨a, us, rfl, tw⟩
        · exact ⟨shq_non, .inl ⟨rfl, no_sc .non (fun a => nofun) _ _⟩⟩
        · exact put_twin tw
      -- one that is none
      have pe := fine_parts ff
      refine ⟨(by show 0 ≤ sizeLine; decide), fun u3 nu3 => ?_⟩
      have s3 := @same_new _ _ (.tup []) nu3
      have e3 := @upd_same H6 u3 (.tup [])
      generalize upd H6 u3 (.tup []) = G3 at s3 e3 ⊢
      refine ⟨(by show 0 ≤ sizeLine; decide), fun u8 nu8 => ?_⟩
      have s9 := @same_new _ _ (.lst []) nu8
      have e9 := @upd_same G3 u8 (.lst [])
      generalize upd G3 u8 (.lst []) = G4 at s9 e9 ⊢
      refine fun u7 nu7 => ?_
      have s8 := @same_new _ _ (.dK []) nu7
      have e8 := @upd_same G4 u7 (.dK [])
      generalize upd G4 u7 (.dK []) = G5 at s8 e8 ⊢
      have s35 := s3.trans (s9.trans s8)
      refine ⟨_, rfl, fa, _, rfl, .inr (SqT.of (s35 _ _ hf6)), fun u4 nu4 => ?_⟩
      have s4 := @same_new _ _ (.lst f0.vals) nu4
      have e4 := @upd_same G5 u4 (.lst f0.vals)
      generalize upd G5 u4 (.lst f0.vals) = G6 at s4 e4 ⊢
      refine ⟨_, rfl, 1, rfl, _, rfl, fa, _, rfl, s4 _ _ (s35 _ _ hf6), fun u5 G7 s5 e5 => ?_⟩
      refine ⟨_, rfl, (by show 1 ≤ sizeLine; decide), fun t6 nt6 => ?_⟩
      have s6 := @same_new _ _ (.tup [V.int 1]) nt6
      have e6 := @upd_same G7 t6 (.tup [V.int 1])
      generalize upd G7 t6 (.tup [V.int 1]) = G8 at s6 e6 ⊢
      refine ⟨fa, t6, _, _, rfl, rfl, s6 _ _ (s5 _ _ (s4 _ _ (s35 _ _ hf6))), e6, (by simp only [List.length_cons, List.length_nil]; omega), fun u6 G9 s7 e7 => ?_⟩
      have s39 := s35.trans (s4.trans (s5.trans (s6.trans s7)))
      refine ⟨_, rfl, _, rfl, hg, _, 0, _, rfl, rfl, SqT.of (s39 _ _ ho6.h2), atI_nat (j := 0) rfl, _, rfl, (by show 5 ≤ sizeLine; decide), fun u9 nu9 => ?_⟩
      have s10 := @same_new _ _ (.tup [V.str "look", .str nm, .bl true, .str g0, .str one]) nu9
      have e10 := @upd_same G9 u9 (.tup [V.str "look", .str nm, .bl true, .str g0, .str one])
      generalize upd G9 u9 (.tup [V.str "look", .str nm, .bl true, .str g0, .str one]) = G10 at s10 e10 ⊢
      refine ⟨(by show 11 ≤ sizeLine; decide), fun L2 nL2 => ?_⟩
      have s11 := @same_new _ _ (.lst [V.non, .bl true, .int 7, .str "", .ref u3, .ref u8, .ref u7, .ref u4, .ref u5, .ref u6, .ref u9]) nL2
      have e11 := @upd_same G10 L2 (.lst [V.non, .bl true, .int 7, .str "", .ref u3, .ref u8, .ref u7, .ref u4, .ref u5, .ref u6, .ref u9])
      generalize upd G10 L2 (.lst [V.non, .bl true, .int 7, .str "", .ref u3, .ref u8, .ref u7, .ref u4, .ref u5, .ref u6, .ref u9]) = G11 at s11 e11 ⊢
      have sX := s39.trans (s10.trans s11)
      have pn := pen6.same sX
      refine ⟨_, rfl, _, rfl, _, rfl, L2, _, rfl, .inl (SqL.of e11), p, c, _, 11, rfl, pn, by omega, by decide, by decide, fun r5 H7 a5 b5 pen7 bt7 => ?_⟩
      obtain ⟨v, hv, mv⟩ := at_ex (xs := [V.non, .bl true, .int 7, .str "", .ref u3, .ref u8, .ref u7, .ref u4, .ref u5, .ref u6, .ref u9]) a5 b5
      refine ⟨L2, _, r5, v, rfl, rfl, SqL.of (pen_keepL pn bt7 e11), hv, (by show 2 ≤ sizeLine; decide), fun t nt => fin _ _ _ _ ?_ pen7 (by omega) (btA.tr ((But.of sX).tr bt7)) t nt⟩
      have kT : ∀ {a : Addr} {xs : List V}, G11 a = some (.tup xs) → H7 a = some (.tup xs) := fun h => pen_keep pn bt7 h
      have kL : ∀ {a : Addr} {xs : List V}, G11 a = some (.lst xs) → H7 a = some (.lst xs) := fun h => pen_keepL pn bt7 h
      have q3 := kT (s11 _ _ (s10 _ _ (s7 _ _ (s6 _ _ (s5 _ _ (s4 _ _ (s8 _ _ (s9 _ _ e3))))))))
      have q8 := kL (s11 _ _ (s10 _ _ (s7 _ _ (s6 _ _ (s5 _ _ (s4 _ _ (s8 _ _ e9)))))))
      have q7 := new_keep pen6 sX bt7 (s3.free (s9.free nu7)) (s11 _ _ (s10 _ _ (s7 _ _ (s6 _ _ (s5 _ _ (s4 _ _ e8))))))
      have q4 := kL (s11 _ _ (s10 _ _ (s7 _ _ (s6 _ _ (s5 _ _ e4)))))
      have q5 := kT (s11 _ _ (s10 _ _ (s7 _ _ (s6 _ _ e5))))
      have q6 := kT (s11 _ _ (s10 _ _ e7))
      have q9 := kT (s11 _ _ e10)
      have each : ∀ u ∈ f0.vals, Thg H7 u ∧ ShQ K H7 u 100 1 := fun u hu => part_thg (pe u hu)
      have tupQ : ∀ {a : Addr} {xs : List V}, H7 a = some (.tup xs) → (∀ x ∈ xs, ShQ K H7 x 100 1) → xs.length ≤ 20 → ShQ K H7 (.ref a) 3000 4 := fun h t l => (shq_tup (n := 100) (k := 1) (m := 3000) (SqT.of h) t (by omega)).mono (Nat.le_refl _) (by decide)
      have out : NoAny H7 v → ShQ K H7 v 3000 4 → PutR K H7 Ps (g0 :: gr) pr v "NoEntry" := fun nv sv => ⟨sv, .inl ⟨rfl, nv _ _⟩⟩
      have vals_eq : f0.vals = .str f0.word :: f0.parts := rfl
      have lp := f0.len_parts
      simp only [List.mem_cons, List.not_mem_nil, or_false] at mv
      rcases mv with rfl | rfl | rfl | rfl | rfl | rfl | rfl | rfl | rfl | rfl | rfl
      · exact out (no_sc .non fun a => nofun) shq_non
      · exact out (no_sc (.bl _) fun a => nofun) (shq_bl _)
      · exact out (no_sc (.int _) fun a => nofun) (shq_int (by decide))
      · exact out (no_sc (.str _ (by decide +kernel)) fun a => nofun) (shq_str (by decide +kernel) (by decide +kernel))
      · exact out (no_tup q3 (by decide) (fun x hx => nomatch hx) fun h => absurd (isE_five h) (by decide)) (tupQ q3 (fun x hx => nomatch hx) (by decide))
      · exact out (no_lst q8) ((shq_lst (n := 100) (k := 1) (m := 3000) (SqL.of q8) (fun u hu => nomatch hu) (by decide)).mono (Nat.le_refl _) (by decide))
      · exact out (no_dct q7) (shq_d0 (k := 3) q7)
      · exact out (no_lst q4) ((shq_lst (n := 100) (k := 1) (m := 3000) (SqL.of q4) (fun u hu => (each u hu).2) (by omega)).mono (Nat.le_refl _) (by decide))
      · have c5 : cutV f0.vals none (some (-1)) = .str f0.word :: f0.parts.take (f0.parts.length - 1) := by
          have pl : 4 ≤ f0.parts.length := by
            have : f0.vals.length = f0.parts.length + 1 := by rw [vals_eq, List.length_cons]
            omega
          unfold cutV
          have h1 : HT.sIx f0.vals.length f0.vals.length (some (-1)) = f0.parts.length := by
            rw [vals_eq, List.length_cons]
            unfold HT.sIx
            simp
            omega
          rw [h1]
          show (f0.vals.drop 0).take (f0.parts.length - 0) = _
          rw [List.drop_zero, Nat.sub_zero, vals_eq]
          obtain ⟨m, hm⟩ : ∃ m, f0.parts.length = m + 1 := ⟨f0.parts.length - 1, by omega⟩
          rw [hm, List.take_succ_cons, Nat.add_sub_cancel]
        have mem5 : ∀ u ∈ cutV f0.vals none (some (-1)), Thg H7 u ∧ ShQ K H7 u 100 1 := fun u hu => each u (List.mem_of_mem_drop (List.mem_of_mem_take hu))
        have l5 : (cutV f0.vals none (some (-1))).length ≤ 7 := Nat.le_trans (cutV_length _ _ _) l7.2
        refine out (no_tup q5 (by omega) (fun x hx => (mem5 x hx).1) ?_) (tupQ q5 (fun x hx => (mem5 x hx).2) (by omega))
        rw [c5]
        refine isE_cut ?_
        rw [List.length_take, ← lp]
        have : f0.vals.length = f0.parts.length + 1 := by rw [vals_eq, List.length_cons]
        omega
      · have mem6 : ∀ u ∈ f0.vals ++ [V.int 1], Thg H7 u ∧ ShQ K H7 u 100 1 := fun u hu => by
          rcases List.mem_append.mp hu with hu | hu
          · exact each u hu
          · rw [List.mem_singleton.mp hu]
            exact ⟨.int 1, shq_int (by decide)⟩
        have l6 : (f0.vals ++ [V.int 1]).length ≤ 8 := by
          rw [List.length_append]
          simp only [List.length_cons, List.length_nil]
          omega
        refine out (no_tup q6 (by omega) (fun x hx => (mem6 x hx).1) ?_) (tupQ q6 (fun x hx => (mem6 x hx).2) (by omega))
        rw [vals_eq, List.cons_append]
        refine isE_cut ?_
        rw [List.length_append, lp]
        simp only [List.length_cons, List.length_nil]
        omega
      · refine put_twin (us := [V.str "look", .str nm, .bl true, .str g0, .str one]) ⟨q9, Nat.le_of_ble_eq_true rfl, fun u hu => ?_, true, by simp⟩
        simp only [List.mem_cons, List.not_mem_nil, or_false] at hu
        rcases hu with rfl | rfl | rfl | rfl | rfl
        · exact .inl (pW _ (by decide +kernel))
        · exact .inl pN
        · exact .inr ⟨_, rfl⟩
        · exact .inl pG
        · exact .inl pO
end
/-! ### repr of data -/
theorem cr_repr {X : Cx} (hG : X.A.guards = some []) (hu : X.A.units + 64 < cLine) : CallR X (.builtin "repr") (fun vs H Q => ∃ (a : Addr) (d : PyData), vs = [.ref a] ∧ Dp X.K H (.ref a) d ∧ d.showable = true ∧ d.hasDict = false ∧ d.depth ≤ 60 ∧ d.shown.length ≤ sizeLine ∧ Q (.str d.shown) H) := by
  rintro pins s σ H vs us Q I r ⟨a, d, rfl, hd, sh, nd, dp, sz, q⟩
  rw [Vals.ref1 r]
  obtain ⟨as, rd⟩ := Dp.reads I d (.ref a) (.ref a) hd rfl
  exact repr_of_reads' rd sh (PyData.noDict_hsm nd) hG (by omega) (fun _ _ e => e) (fun h' u tk hk => ⟨.str d.shown, H, I.kept hk, ⟨_, rfl⟩, q⟩) sz
/-! ### lambdas, guards and tables -/
theorem okG_of {P : Program} {w : World} {K : PySem.W.Frag} {mg : Str → Option Value} {base : Heap} {x qual : Str} {st : Stmt} {f : Addr} {N ps : List Str} {k : Nat} {sp : Sp} {oc kV doc pm cdv ct : Value} {od an : Option Addr} {osl : Array (Option Value)}
    (lk : K.lookup f = some ⟨oc, od, .func (PySem.W.fnOf x qual (defArgs st) (defBody st) (defScope st) .none kV doc pm an cdv ct), osl⟩) (hcd : PySem.W.codeIn K cdv qual = true) (S : FnScope N ps (defScope st)) (many : ∀ vs H Q E, sp vs H Q E → vs.length = ps.length)
    (body : ∀ (B : Around) (fs : List Env) (s : Shared) (H : Hp) (vs : List V) (Q : VK) (E : XK), B.guards = some [] → Room k (B.deeper (envOfC qual (defScope st) s.heap.objs.size f cdv)) → sp vs H Q E →
      ∃ t, PSs (cxOf CX0 P w K mg base N qual (defScope st) f cdv B fs s H E).nox (defBody st) t ∧ t { nx := fun _ H' => Q .non H', rt := Q } (start N vs) H) : FnG P w K mg base (k + 1) f (PySem.W.fnOf x qual (defArgs st) (defBody st) (defScope st) .none kV doc pm an cdv ct) ps sp := by
  refine ⟨many, fun B fs s H as us vs Q E hg hr e0 hb r hsp => ?_⟩
  have old : ∀ b o, base.get? b = some o → s.heap.get? b = some o := fun b o e => (e0.bs b o e).1
  have KX := e0.mod.kin.keeps old
  obtain ⟨t, pt, ht⟩ := body B fs s H vs Q E hg (hr.deeper _) hsp
  refine codeAny_call_function hr.depth (KX _ _ lk) rfl S.co S.gen rfl (PySem.W.codeRec_of KX hcd) (hb _ _ _ _ ?_)
  refine wpAny_newFunctionEnv_cells S.kind ?_ ?_
  · rintro ⟨n, v⟩ hy
    have hn := (List.of_mem_zip hy).1
    exact (S.par n hn).imp id fun q => ⟨q, PySem.W.cellsFrom_some _ _ _ (.inl q)⟩
  · rintro env rfl s1 x
    have I := inv_start (CX := CX0) (E := E) S hr.hd e0 (many _ _ _ _ hsp) r x
    refine ⟨(e0.mod.nolimit.keeps old).keeps x.toInCall.keep, codeAny_func (wpAny_mono (pt.nox.run [] s1 _ H _ I ht) ?_ fun e s' hs => hs)⟩
    rintro fl s' hs
    cases fl with
    | ret u =>
      obtain ⟨v, σ', H', J, rv, q⟩ := hs
      exact ⟨v, H', J.os, J.bare, J.base, J.hok, rv, q⟩
    | next =>
      obtain ⟨σ', H', J, q⟩ := hs
      exact ⟨.non, H', J.os, J.bare, J.base, J.hok, rfl, q⟩
    | brk =>
      obtain ⟨_, _, _, q⟩ := hs
      exact False.elim q
    | cont =>
      obtain ⟨_, _, _, q⟩ := hs
      exact False.elim q
structure DefG (P : Program) (w : World) (K : PySem.W.Frag) (mg : Str → Option Value) (base : Heap) (x : Str) (k : Nat) (f : Addr) (fd : FuncData) (ps : List Str) (sp : Sp) : Prop where
  ok : FnG P w K mg base k f fd ps sp
  g : mg x = some (.ref f)
  kp : PySem.W.keepIn K (.ref f) = true
  b : Binds K fd ps []
theorem tabS_g {H : Hp} {Pt : Addr} {q : Str} (h : LamX.TabS H Pt q) : GxR.TabG H Pt := by
  obtain ⟨ps, h1, h2, _⟩ := h
  exact ⟨ps, h1, h2⟩
/-- all but the pen and the tables stays -/
structure Ch7 (Ts : List Addr) (p : Addr) (H H' : Hp) : Prop where
  kp : ∀ a o, H a = some o → (∀ ps, o ≠ .tbl ps) → a ≠ p → H' a = some o
  oth : ∀ a o, H a = some o → a ∉ Ts → a ≠ p → H' a = some o
  tg : TabsG Ts H'
theorem Ch7.tr {Ts : List Addr} {p : Addr} {H H1 H2 : Hp} (a : Ch7 Ts p H H1) (b : Ch7 Ts p H1 H2) : Ch7 Ts p H H2 :=
  ⟨fun x o e n q => b.kp x o (a.kp x o e n q) n q, fun x o e n q => b.oth x o (a.oth x o e n q) n q, b.tg⟩
theorem tabs_but7 {H H' : Hp} {Ts : List Addr} {p c : Addr} {n : Nat} (t : TabsG Ts H) (pen : PenAt H p c n) (b : But p H H') : TabsG Ts H' := fun T hT => by
  obtain ⟨ps, e, ok⟩ := t T hT
  obtain ⟨kvs, ns', a', x', g1, _⟩ := pen.ex
  exact ⟨ps, b T _ e (ne_of e g1 (by intro z; cases z)), ok⟩
theorem Ch7.but {Ts : List Addr} {p c : Addr} {n : Nat} {H H' : Hp} (t : TabsG Ts H) (pen : PenAt H p c n) (b : But p H H') : Ch7 Ts p H H' := ⟨fun a o e _ q => b a o e q, fun a o e _ q => b a o e q, tabs_but7 t pen b⟩
theorem Ch7.same {Ts : List Addr} {p : Addr} {H H' : Hp} (t : TabsG Ts H) (s : Same H H') : Ch7 Ts p H H' := ⟨fun a o e _ _ => s a o e, fun a o e _ _ => s a o e, tabs_sm s t⟩
theorem Ch7.tb {Ts : List Addr} {p : Addr} {H H' : Hp} (t : TB1 Ts H H') : Ch7 Ts p H H' := ⟨fun a o e n _ => t.2 a o e n, fun a o e n _ => t.oth a o e n, t.1⟩
theorem Ch7.tup {Ts : List Addr} {p c : Addr} {n : Nat} {H H' : Hp} (t : Ch7 Ts p H H') (pen : PenAt H p c n) : TK H H' := fun a xs e => t.kp a _ e (fun _ z => nomatch z) fun w => by
  obtain ⟨kvs, ns', a', x', g1, _⟩ := pen.ex
  rw [w, g1] at e
  exact nomatch e
theorem Ch7.lst {Ts : List Addr} {p c : Addr} {n : Nat} {H H' : Hp} (t : Ch7 Ts p H H') (pen : PenAt H p c n) {a : Addr} {xs : List V} (e : H a = some (.lst xs)) : H' a = some (.lst xs) := t.kp a _ e (fun _ z => nomatch z) fun w => by
  obtain ⟨kvs, ns', a', x', g1, _⟩ := pen.ex
  rw [w, g1] at e
  exact nomatch e
theorem tabS_by1 {H H' : Hp} {p c : Addr} {n : Nat} {Pt : Addr} {q : Str} (h : LamX.TabS H Pt q) (pen : PenAt H p c n) (b : But p H H') : LamX.TabS H' Pt q := by
  obtain ⟨kvs, ns', a', x', g1, _⟩ := pen.ex
  obtain ⟨ps, h1, h2, h3⟩ := h
  exact ⟨ps, b _ _ h1 (ne_of h1 g1 (by intro z; cases z)), h2, fun at' cv e => by
    obtain ⟨c, e1, e2⟩ := h3 at' cv e
    exact ⟨c, e1, b _ _ e2 (ne_of e2 g1 (by intro z; cases z))⟩⟩
/-- another table of lambdas stays -/
theorem Ch7.tabS {Ts : List Addr} {p c : Addr} {n : Nat} {H H' : Hp} {Pt : Addr} {q : Str} (t : Ch7 Ts p H H') (pen : PenAt H p c n) (nt : Pt ∉ Ts) (h : LamX.TabS H Pt q) : LamX.TabS H' Pt q := by
  obtain ⟨kvs, ns', a', x', g1, _⟩ := pen.ex
  obtain ⟨ps, h1, h2, h3⟩ := h
  exact ⟨ps, t.oth _ _ h1 nt (ne_of h1 g1 (by intro z; cases z)), h2, fun at' cv e => by
    obtain ⟨c, e1, e2⟩ := h3 at' cv e
    exact ⟨c, e1, t.kp _ _ e2 LamX.codeO_ne (ne_of e2 g1 (by intro z; cases z))⟩⟩
theorem tabs_pt {Ts : List Addr} {H : Hp} {Pt : Addr} {q : Str} (g : TabsG Ts H) (h : LamX.TabS H Pt q) : TabsG (Pt :: Ts) H := fun T hT => by
  rcases List.mem_cons.mp hT with rfl | hT
  · exact tabS_g h
  · exact g T hT
theorem Ch7.lam {Ts : List Addr} {p Pt : Addr} {q : Str} {H H' : Hp} (n : Pt ∉ Ts) (g : TabsG Ts H) (h : LamX.TabS H Pt q) (d : LamD Pt q H H') : Ch7 (Pt :: Ts) p H H' := by
  refine ⟨fun a o e nt _ => d.kp a o (fun z => ?_) e, fun a o e na _ => d.kp a o (fun z => na (z ▸ List.mem_cons_self)) e, tabs_pt (fun T hT => ?_) d.tab⟩
  · obtain ⟨ps, e', _⟩ := h
    rw [z, e'] at e
    exact nt ps (Option.some.inj e).symm
  · obtain ⟨ps, e, ok⟩ := g T hT
    exact ⟨ps, d.kp _ _ (fun z => n (z ▸ hT)) e, ok⟩
theorem Ch7.up {Ts : List Addr} {p Pt : Addr} {H H' : Hp} (t : Ch7 Ts p H H') (g : GxR.TabG H' Pt) : Ch7 (Pt :: Ts) p H H' :=
  ⟨t.kp, fun a o e na => t.oth a o e fun z => na (List.mem_cons_of_mem _ z), fun T hT => by
    rcases List.mem_cons.mp hT with rfl | hT
    · exact g
    · exact t.tg T hT⟩
theorem TabsG.tl {Ts : List Addr} {Pt : Addr} {H : Hp} (g : TabsG (Pt :: Ts) H) : TabsG Ts H := fun T hT => g T (List.mem_cons_of_mem _ hT)
/-! entries that are some, shown -/
theorem wh_short {lo hi : Int} (h0 : 0 ≤ lo) (h1 : hi ≤ 1000000000) {v : V} (h : whB lo hi v = true) : Short (dV v) 8 0 := by
  cases v with
  | int i =>
    obtain ⟨a, b⟩ := Bool.and_eq_true_iff.mp (show (decide (lo ≤ i) && decide (i ≤ hi)) = true from h)
    have a := of_decide_eq_true a
    have b := of_decide_eq_true b
    exact short_int (by omega) (by omega)
  | _ => exact nomatch h
theorem fit_short {v : V} {x : Str} (h : fitB v x = true) (hx : x ∈ sorts6) : Short (dV v) 8 0 := by
  simp only [sorts6, List.mem_cons, List.not_mem_nil, or_false] at hx
  rcases hx with rfl | rfl | rfl | rfl | rfl | rfl
  · rw [fit_n] at h
    obtain ⟨z, rfl, hz⟩ := nm_str h
    exact short_str (.inl hz)
  · rw [fit_e] at h
    rcases Bool.or_eq_true_iff.mp h with h | h
    · rw [of_decide_eq_true h]
      exact short_str (.inr (.inl rfl))
    · obtain ⟨z, rfl, hz⟩ := nm_str h
      exact short_str (.inl hz)
  · rw [fit_mo] at h
    exact wh_short (by decide) (by decide) h
  · rw [fit_ma] at h
    exact wh_short (by decide) (by decide) h
  · rw [fit_co] at h
    exact wh_short (by decide) (by decide) h
  · rw [fit_pr] at h
    exact wh_short (by decide) (by decide) h
theorem short_fine {e : Ent} (f : e.Fine) : Short (entD e) 70 1 := by
  have l7 := vals_len_e e
  refine short_tup (n := 8) (k := 0) (fun d hd => ?_) (by rw [List.length_map]; omega)
  obtain ⟨v, hv, rfl⟩ := List.mem_map.mp hd
  rcases List.mem_cons.mp hv with rfl | hv
  · exact short_str (.inr (.inr e.word_in))
  · obtain ⟨i, hi⟩ := List.mem_iff_getElem?.mp hv
    have lt := (List.getElem?_eq_some_iff.mp hi).1
    have l2 : i < e.sorts.length := by rw [← e.len_parts]; exact lt
    have hx := List.getElem?_eq_getElem l2
    exact fit_short (f.fit i v _ hi hx).2 (e.sorts_in _ (List.mem_of_getElem? hx))
theorem short_house {P G : List Str} {es : List Ent} (np : ∀ y ∈ P, nameB y = true) (ng : ∀ y ∈ G, nameB y = true) (lP : P.length ≤ 31) (lG : G.length ≤ 31) (f : ∀ e ∈ es, e.Fine) (l : es.length ≤ 32) : Short (houseD P G es) 10000 3 := by
  refine short_tup (n := 3000) (k := 2) (fun d hd => ?_) (by show 3 * 3001 ≤ 10000; decide)
  simp only [List.mem_cons, List.not_mem_nil, or_false] at hd
  rcases hd with rfl | rfl | rfl
  · exact (short_names np lP).mono (by decide) (by decide)
  · exact (short_names ng lG).mono (by decide) (by decide)
  · refine short_tup (n := 70) (k := 1) (fun d hd => ?_) (by rw [List.length_map]; omega)
    obtain ⟨e, he, rfl⟩ := List.mem_map.mp hd
    exact short_fine (f e he)
/-- a house and a thing, shown -/
theorem shq_house {K : PySem.W.Frag} {H : Hp} {h hp hg he : Addr} {P G : List Str} {pr : List (Addr × Ent)} (ho : Ho7 H h hp hg he P G pr) (ok : Ok7 P G pr) : ShQ K H (.ref h) 78000 5 := by
  have names : ∀ {l : Addr} {zs : List Str}, H l = some (.tup (zs.map V.str)) → (∀ y ∈ zs, nameB y = true) → zs.length ≤ 6 → ShQ K H (.ref l) 1000 4 := fun {l zs} h n le => (shq_tup (n := 100) (k := 3) (m := 1000) (SqT.of h) (fun v hv => by
    obtain ⟨y, hy, rfl⟩ := List.mem_map.mp hv
    have := name_len (n y hy)
    exact shq_str (by omega) (name_ok (n y hy))) (by rw [List.length_map]; omega))
  have s1 := names ho.h1 ok.np ok.p6
  have s2 := names ho.h2 ok.ng (by have := ok.g3; omega)
  have s3 : ShQ K H (.ref he) 66000 4 := shq_tup (n := 2100) (k := 3) (SqT.of ho.h3) (fun u hu => by
    obtain ⟨x, hx, rfl⟩ := List.mem_map.mp hu
    exact shq_ent (ho.e x hx) (ok.f x hx).1) (by rw [List.length_map]; have := ok.le; omega)
  obtain ⟨d1, q1, a1, b1, c1, e1⟩ := s1
  obtain ⟨d2, q2, a2, b2, c2, e2⟩ := s2
  obtain ⟨d3, q3, a3, b3, c3, e3⟩ := s3
  refine ⟨.tuple [d1, d2, d3], .tup (SqT.of ho.h0) (.cons q1 (.cons q2 (.cons q3 .nil))), ?_, ?_, ?_, ?_⟩
  · simp [PyData.showable, PyData.showableAll, a1, a2, a3]
  · simp [PyData.leavesShort, PyData.leavesShortAll, b1, b2, b3]
  · simp only [PyData.bulk, PyData.bulkAll]
    omega
  · simp only [PyData.depth, PyData.depthAll]
    omega
theorem shown_pair {K : PySem.W.Frag} {H : Hp} {u v : V} (s1 : ShQ K H u 78000 5) (s2 : ShQ K H v 3000 4) : ∃ d1 d2, Dq K H u d1 ∧ Dq K H v d2 ∧ (PyData.tuple [d1, d2]).showable = true ∧ (PyData.tuple [d1, d2]).depth ≤ 60 ∧ (PyData.tuple [d1, d2]).shown.length ≤ sizeLine := by
  obtain ⟨d1, q1, a1, b1, c1, e1⟩ := s1
  obtain ⟨d2, q2, a2, b2, c2, e2⟩ := s2
  refine ⟨d1, d2, q1, q2, ?_, ?_, ?_⟩
  · simp [PyData.showable, PyData.showableAll, a1, a2]
  · simp only [PyData.depth, PyData.depthAll]
    omega
  · have s := PyData.shown_le_bulk 70 (by decide) (.tuple [d1, d2]) (by simp [PyData.leavesShort, PyData.leavesShortAll, b1, b2])
    have : (PyData.tuple [d1, d2]).bulk ≤ 90000 := by
      simp only [PyData.bulk, PyData.bulkAll]
      omega
    rw [sizeLine_eq]
    omega
theorem PenAt.on {H H' : Hp} {p c : Addr} {n : Nat} (P : PenAt H p c n) (k : ∀ a o, H a = some o → (∀ ps, o ≠ .tbl ps) → H' a = some o) : PenAt H' p c n := by
  obtain ⟨kvs, ns, a, l, h1, h2, h3, h4, h5, h6, h7⟩ := P.ex
  exact ⟨kvs, ns, a, l, k _ _ h1 (fun ps z => nomatch z), h2, h3, h4, h5, k _ _ h6 (fun ps z => nomatch z), h7⟩
theorem tk_of {H H' : Hp} (k : ∀ a o, H a = some o → (∀ ps, o ≠ .tbl ps) → H' a = some o) : TK H H' := fun a xs e => k a _ e fun ps z => nomatch z
theorem lam_kp {Pt : Addr} {q : Str} {H H' : Hp} (h : LamX.TabS H Pt q) (d : LamD Pt q H H') : ∀ a o, H a = some o → (∀ ps, o ≠ .tbl ps) → H' a = some o := fun a o e n => d.kp a o (fun z => by
  obtain ⟨ps, e', _⟩ := h
  rw [z, e'] at e
  exact n ps (Option.some.inj e).symm) e
/-- the same data, told or refused -/
theorem data_two {K : PySem.W.Frag} {H : Hp} {t : Addr} {w z : Str} (h : H t = some (.lst [.str w, .str z])) : Dp K H (.ref t) (.list [.str w, .str z]) := .lst (SqL.of h) (.cons (.str w) (.cons (.str z) .nil))
theorem data_two_sh {w z : Str} (hw : PyData.strOk w = true) (hz : PyData.strOk z = true) : SeqAt.shaped (.list [.str w, .str z]) = true := by
  unfold SeqAt.shaped
  simp [PyData.canLay0, PyData.canLayAll0, PyData.depth, PyData.depthAll, hw, hz]
/-- the def that asks a lambda -/
structure ToldD (P : Program) (w : World) (K : PySem.W.Frag) (mg : Str → Option Value) (base : Heap) (A : Rc7) (O : Oc7) (CE f fC : Addr) (dC : FuncData) (oc kV doc pm cdv ct : Value) (od an : Option Addr) (osl : Array (Option Value)) : Prop where
  lk : K.lookup f = some ⟨oc, od, .func (PySem.W.fnOf "_law_told" "_law_told" (defArgs sLTold) (defBody sLTold) (defScope sLTold) .none kV doc pm an cdv ct), osl⟩
  cd : PySem.W.codeIn K cdv "_law_told" = true
  g : mg "_law_told" = some (.ref f)
  kp : PySem.W.keepIn K (.ref f) = true
  b : Binds K (PySem.W.fnOf "_law_told" "_law_told" (defArgs sLTold) (defBody sLTold) (defScope sLTold) .none kV doc pm an cdv ct) ["_law_ask"] []
  G : G7 mg A O CE
  D : D7 K A O CE
  CL : DefT P w K mg base "_law_class" 1 fC dC ["_law_caught"] (spClass A)
abbrev q1Lam : Str := (("_law_put_right" : Str) ++ ".<locals>.") ++ "<lambda>"
def spPutR (Ts : List Addr) (Pt : Addr) : Sp := fun vs H Q _ => ∃ (p c h hp hg he fa ls : Addr) (n : Nat) (P G : List Str) (pr : List (Addr × Ent)) (f0 : Ent) (far kind : Str), vs = [.ref p, .ref h, .ref fa, .ref ls] ∧ PenAt H p c n ∧ n ≤ 70000 ∧ Ho7 H h hp hg he P G pr ∧ Ok7 P G pr ∧ pr.length ≤ 30 ∧
  H fa = some (.tup f0.vals) ∧ f0.Fine ∧ ofB f0 P G = true ∧ (∀ y ∈ pr, y.2.name ≠ f0.name) ∧ H ls = some (.tup [.str far, .str kind]) ∧ far ∉ P ∧ kind ∉ G ∧ nameB far = true ∧ nameB kind = true ∧ TabsG Ts H ∧ LamX.TabS H Pt q1Lam ∧
  ∀ H', Ch7 (Pt :: Ts) p H H' → LamX.TabS H' Pt q1Lam → PenAt H' p c (n + 5) → Q (.bl true) H'
section
variable {P : Program} {w : World} {K : PySem.W.Frag} {mg : Str → Option Value} {base : Heap}
abbrev sPutRN : List Str := ["_law_pen_here", "_law_house", "_law_fresh", "_law_strange", "_law_thing", "_law_due", "_law_kept", "_law_found"]
theorem sc_sPutR : FnScope sPutRN ["_law_pen_here", "_law_house", "_law_fresh", "_law_strange"] (defScope sPutR) := ⟨rfl, rfl, rfl, by decide +kernel, rfl, by decide +kernel, by decide +kernel⟩
set_option maxHeartbeats 4000000 in
theorem ok_putR {f cR Pt fA fC fI fW fS : Addr} {dC dI dW dS : FuncData} {Ts : List Addr} {A : Rc7} {O : Oc7} {CE : Addr} {oc kV doc pm ct oc' kV' doc' pm' cdv' ct' : Value} {od an od' an' : Option Addr} {osl osl' : Array (Option Value)}
    (lk : K.lookup f = some ⟨oc, od, .func (PySem.W.fnOf "_law_put_right" "_law_put_right" (defArgs sPutR) (defBody sPutR) (defScope sPutR) .none kV doc pm an (.ref cR) ct), osl⟩) (cdI : PySem.W.codeIn K (.ref cR) "_law_put_right" = true)
    (TBL : LamX.TabB base mg cR Pt) (nPt : Pt ∉ Ts) (LT : ToldD P w K mg base A O CE fA fC dC oc' kV' doc' pm' cdv' ct' od' an' osl') (PI : DefT P w K mg base "_law_put_in" 3 fI dI ["_law_pen_here", "_law_house", "_law_fresh", "_law_strange"] (spPutIn K))
    (WE : DefX P w K mg base "with_entry" 6 fW dW ["house", "entry"] (spWithE Ts A.ne A.tw A.tm)) (LS : DefT P w K mg base "_law_sorted" 4 fS dS ["_law_house", "_law_entries"] spSorted) (mp : mg "repr" = none) (ml : mg "len" = none) :
    FnG P w K mg base 9 f (PySem.W.fnOf "_law_put_right" "_law_put_right" (defArgs sPutR) (defBody sPutR) (defScope sPutR) .none kV doc pm an (.ref cR) ct) ["_law_pen_here", "_law_house", "_law_fresh", "_law_strange"] (spPutR Ts Pt) := by
  refine okG_of lk cdI sc_sPutR (fun vs H Q E h => ?_) (fun B outer s H vs Q E hG hr h => ?_)
  · obtain ⟨p, c, h, hp, hg, he, fa, ls, n, Ps, G, pr, f0, far, kind, rfl, _⟩ := h
    rfl
  · obtain ⟨p, c, h, hp, hg, he, fa, ls, n, Ps, G, pr, f0, far, kind, rfl, pen, hn, ho, ok, l30, hf, ff, of0, nf0, hls, nfar, nkind, bfar, bkind, tg, tl, q⟩ := h
    have nd := sc_sPutR.nd
    have hr3 : Room 3 _ := hr.mono (by decide)
    have hr4 : Room 4 _ := hr.mono (by decide)
    refine ⟨_, pss_cons (ps_asg (pe_call PI.ok hr3 (by rfl) PI.g PI.kp PI.b .nil pass0 (pa_cons (pv 0) (pa_cons (pv 1) (pa_cons (pv 2) (pa_cons (pv 3) pa_nil))))) (pg_tup (by rfl) (pgs_cons (pg_name (i := 4) nd rfl (Or.inr rfl)) (pgs_cons (pg_name (i := 5) nd rfl (Or.inl rfl)) pgs_nil))))
      (pss_cons (ps_set (i := 6) nd rfl (Or.inl rfl) (pe_callB (cr_reprQ hG hr.units) (by rfl) mp (by decide +kernel) (pa_cons (pe_tup (pa_cons (pv 1) (pa_cons (pv 4) pa_nil))) pa_nil)))
      (C8.pss_cut (ps_set (i := 7) nd rfl (Or.inl rfl) (pe_capcallR (k := 6) (t := fun E2 => tCallS (spWithE Ts A.ne A.tw A.tm) (fun _ => E2) (tCons (tVar 1) (tCons (tVar 4) tNil)))  (by rfl) LT.g LT.kp LT.lk LT.cd LT.b sc_sLTold rfl (.inl rfl) (told_gives LT.G LT.D LT.CL) TBL rfl hr (LamX.lamS_by (sc := defScope sPutR) (by decide +kernel)) rfl (by intros; rfl) (fun A2 outer2 z2 G2 E2 f2 cc2 hrL => (pe_callS WE.ok (hrL.mono (by decide)) (by rfl) WE.g WE.kp WE.b (fun σ => passAt (takes_of rfl rfl rfl rfl) σ) (pa_cons (pv 1) (pa_cons (pv 4) pa_nil))))))
      (pss_cons (ps_if (pt_cmpR op_ne (pe_callB (cr_reprQ hG hr.units) (by rfl) mp (by decide +kernel) (pa_cons (pe_tup (pa_cons (pv 1) (pa_cons (pv 4) pa_nil))) pa_nil)) (pv 6) (nomark _)) (pss_one (ps_ret pe_bl)) pss_nil)
      (C8.pss_cut (ps_if (PW.pt (pw_and (pt_cmpR op_eq (pv 5) pe_str (nomark _)) (pw_and1 (pt_cmpR op_eq (pe_callB call_len_seq (by rfl) ml PySem.boot_len (pa_cons (pe_ix ix_tup (pv 1) pe_int (fun _ _ => rfl)) pa_nil)) pe_int (nomark _))))) (pss_one (ps_set (i := 5) nd rfl (Or.inl rfl) pe_str)) pss_nil)
      (pss_cons (ps_if (pt_cmpR op_ne (pv 5) pe_str (nomark _)) (pss_one (ps_ret (pe_cmpR (op_eqD hr.units) (pv 7) (pe_lst (pa_cons pe_str (pa_cons (pv 5) pa_nil))) (nomark _)))) pss_nil)
      (pss_one (ps_ret (pe_cmpR op_eq (pe_callB (cr_repr hG hr.units) (by rfl) mp (by decide +kernel) (pa_cons (pv 7) pa_nil)) (pe_callB (cr_repr hG hr.units) (by rfl) mp (by decide +kernel) (pa_cons (pe_lst (pa_cons pe_str (pa_cons (pe_call LS.ok hr4 (by rfl) LS.g LS.kp LS.b .nil pass0 (pa_cons (pv 1) (pa_cons (pe_op op_catW (pe_ix ix_tup (pv 1) pe_int (fun _ _ => rfl)) (pe_tup (pa_cons (pv 4) pa_nil))) pa_nil))) pa_nil))) pa_nil)) (nomark _))))))))), ?_⟩
    refine ⟨_, rfl, _, rfl, _, rfl, _, rfl, p, c, h, hp, hg, he, fa, ls, n, Ps, G, pr, f0, far, kind, rfl, pen, by omega, ho, ok, hf, ff, of0, nf0, hls, nfar, nkind, bfar, bkind, fun t v due H1 ht put pen1 bt1 => ?_⟩
    refine ⟨t, _, rfl, SqT.of ht, rfl, _, _, rfl, _, _, rfl, rfl, ?_⟩
    have ch1 : Ch7 (Pt :: Ts) p H H1 := .but (tabs_pt tg tl) pen bt1
    have ho1 := ho.on (ch1.tup pen)
    refine ⟨_, rfl, _, rfl, (by show 2 ≤ sizeLine; decide), fun U nU => ?_⟩
    have s2 := @same_new _ _ (.tup [V.ref h, v]) nU
    have e2 := @upd_same H1 U (.tup [V.ref h, v])
    generalize upd H1 U (.tup [V.ref h, v]) = H2 at s2 e2 ⊢
    have ch2 := ch1.tr (.same ch1.tg s2)
    have ho2 := ho1.on (TK.of s2)
    have tl2 : LamX.TabS H2 Pt q1Lam := (LamX.TabS.ext (tabS_by1 tl pen bt1) fun b o e => s2 b o e)
    have put2 := put.on fun a o e _ => s2 a o e
    have pen2 := pen1.same s2
    obtain ⟨dh, dv, qh, qv, x1, x2, x3⟩ := shown_pair (shq_house ho2 ok) put2.1
    refine ⟨U, _, rfl, .tup (SqT.of e2) (.cons qh (.cons qv .nil)), x1, x2, x3, ?_⟩
    refine ⟨fun σ H' => ∃ t2, σ = [some (.ref p), some (.ref h), some (.ref fa), some (.ref ls), some v, some (.str due), some (.str (PyData.tuple [dh, dv]).shown), some (.ref t2)] ∧ Ch7 (Pt :: Ts) p H H' ∧ LamX.TabS H' Pt q1Lam ∧ PenAt H' p c (n + 5) ∧ (∀ a o, H2 a = some o → (∀ ps, o ≠ .tbl ps) → H' a = some o) ∧
      ((∃ w, H' t2 = some (.lst [.str "refused", .str w]) ∧ PyData.strOk w = true ∧ ((due ≠ "told" ∧ due = w) ∨ (due = "told" ∧ w = "TooMany" ∧ pr.length = 30))) ∨
        (∃ (t3 he' : Addr) (x : Addr × Ent), H' t2 = some (.lst [.str "told", .ref t3]) ∧ due = "told" ∧ pr.length < 30 ∧ v = .ref x.1 ∧ H' x.1 = some (.tup x.2.vals) ∧ x.2.Fine ∧ Ho7 H' t3 hp hg he' Ps G (sortE (pr ++ [x])))), ?_, ?_⟩
    · refine ⟨tl2, fun G1 D W hv => ?_⟩
      have kL := lam_kp tl2 D
      have chL := ch2.tr (.lam nPt ch2.tg.tl tl2 D)
      have tgL := chL.tg.tl
      have penL := pen2.on kL
      have after : ∀ {H' H3 : Hp}, TB1 Ts G1 H' → Same H' H3 → Ch7 (Pt :: Ts) p H H3 ∧ LamX.TabS H3 Pt q1Lam ∧ PenAt H3 p c (n + 5) ∧ (∀ a o, H2 a = some o → (∀ ps, o ≠ .tbl ps) → H3 a = some o) := fun {H' H3} tb s3 => by
        have kk : ∀ a o, H2 a = some o → (∀ ps, o ≠ .tbl ps) → H3 a = some o := fun a o e n => s3 _ _ (tb.2 _ _ (kL a o e n) n)
        have tS : LamX.TabS H' Pt q1Lam := (Ch7.tb (p := p) tb).tabS penL nPt D.tab
        have tS3 : LamX.TabS H3 Pt q1Lam := LamX.TabS.ext tS fun b o e => s3 b o e
        have cT : Ch7 (Pt :: Ts) p G1 H' := (Ch7.tb tb).up (tabS_g tS)
        exact ⟨chL.tr (cT.tr (.same cT.tg s3)), tS3, pen2.on kk, kk⟩
      refine ⟨_, rfl, _, rfl, h, hp, hg, he, Ps, G, pr, v, rfl, ho2.on (tk_of kL), ok, tgL, ?_⟩
      rcases (put2.on kL).2 with ⟨rfl, no⟩ | ⟨x, rfl, hx, fi, of, tw⟩
      · refine .inl ⟨no, fun H' tb => ⟨.entry, rfl, rfl, fun t2 H3 s3 h3 => ?_⟩⟩
        obtain ⟨a1, a2, a3, a4⟩ := after tb s3
        exact ⟨t2, rfl, a1, a2, a3, a4, .inl ⟨_, h3, by decide +kernel, .inl ⟨by decide +kernel, rfl⟩⟩⟩
      · refine .inr ⟨x, rfl, hx, fi, of, fun ex H' tb => ?_, fun ne ge H' tb => ?_, fun ne lt t3 he' H' tb ho' => ?_⟩
        · rcases tw with ⟨rfl, _⟩ | ⟨_, ne⟩
          · refine ⟨.twice, rfl, rfl, fun t2 H3 s3 h3 => ?_⟩
            obtain ⟨a1, a2, a3, a4⟩ := after tb s3
            exact ⟨t2, rfl, a1, a2, a3, a4, .inl ⟨_, h3, by decide +kernel, .inl ⟨by decide +kernel, rfl⟩⟩⟩
          · obtain ⟨y, my, e⟩ := ex
            exact absurd e (ne y my)
        · rcases tw with ⟨_, y, my, e⟩ | ⟨rfl, _⟩
          · exact absurd e (ne y my)
          · refine ⟨.many, rfl, rfl, fun t2 H3 s3 h3 => ?_⟩
            obtain ⟨a1, a2, a3, a4⟩ := after tb s3
            exact ⟨t2, rfl, a1, a2, a3, a4, .inl ⟨_, h3, by decide +kernel, .inr ⟨rfl, rfl, by omega⟩⟩⟩
        · rcases tw with ⟨_, y, my, e⟩ | ⟨rfl, _⟩
          · exact absurd e (ne y my)
          · refine hv _ _ fun t2 H3 s3 h3 => ?_
            obtain ⟨a1, a2, a3, a4⟩ := after tb s3
            exact ⟨t2, rfl, a1, a2, a3, a4, .inr ⟨t3, he', x, h3, rfl, lt, rfl, s3 _ _ (tb.tk _ _ hx), fi, ho'.on (TK.of s3)⟩⟩
    · rintro σ H4 ⟨t2, rfl, ch4, tl4, pen4, k4, out⟩
      have ho4 := ho2.on (tk_of k4)
      refine ⟨_, rfl, _, rfl, (by show 2 ≤ sizeLine; decide), fun U2 nU2 => ?_⟩
      have s5 := @same_new _ _ (.tup [V.ref h, v]) nU2
      have e5 := @upd_same H4 U2 (.tup [V.ref h, v])
      generalize upd H4 U2 (.tup [V.ref h, v]) = H5 at s5 e5 ⊢
      have k5 : ∀ a o, H2 a = some o → (∀ ps, o ≠ .tbl ps) → H5 a = some o := fun a o e n => s5 _ _ (k4 a o e n)
      refine ⟨U2, _, rfl, .tup (SqT.of e5) (.cons (qh.on k5) (.cons (qv.on k5) .nil)), x1, x2, x3, _, rfl, rfl, false, ?_, iteF ?_⟩
      · rw [decide_eq_true rfl]
        rfl
      have ho5 := ho4.on (TK.of s5)
      have ch5 := ch4.tr (.same ch4.tg s5)
      have tl5 : LamX.TabS H5 Pt q1Lam := LamX.TabS.ext tl4 fun b o e => s5 b o e
      have pen5 := pen4.same s5
      have out5 : (∃ w, H5 t2 = some (.lst [.str "refused", .str w]) ∧ PyData.strOk w = true ∧ ((due ≠ "told" ∧ due = w) ∨ (due = "told" ∧ w = "TooMany" ∧ pr.length = 30))) ∨
        (∃ (t3 he' : Addr) (x : Addr × Ent), H5 t2 = some (.lst [.str "told", .ref t3]) ∧ due = "told" ∧ pr.length < 30 ∧ v = .ref x.1 ∧ H5 x.1 = some (.tup x.2.vals) ∧ x.2.Fine ∧ Ho7 H5 t3 hp hg he' Ps G (sortE (pr ++ [x]))) := by
        rcases out with ⟨w, h1, r⟩ | ⟨t3, he', x, h1, h2, h3, h4, h5, h6, h7⟩
        · exact .inl ⟨w, s5 _ _ h1, r⟩
        · exact .inr ⟨t3, he', x, s5 _ _ h1, h2, h3, h4, s5 _ _ h5, h6, h7.on (TK.of s5)⟩
      clear out ho4 k4 pen4 tl4 ch4 e5 k5 qh qv x1 x2 x3 put2 put ho1 pen1 bt1 ht
      refine ⟨fun σ H' => H' = H5 ∧ ∃ due', σ = [some (.ref p), some (.ref h), some (.ref fa), some (.ref ls), some v, some (.str due'), some (.str (PyData.tuple [dh, dv]).shown), some (.ref t2)] ∧
        ((H5 t2 = some (.lst [.str "refused", .str due']) ∧ PyData.strOk due' = true ∧ due' ≠ "told") ∨ (due' = "told" ∧ ∃ (t3 he' : Addr) (x : Addr × Ent), H5 t2 = some (.lst [.str "told", .ref t3]) ∧ pr.length < 30 ∧ v = .ref x.1 ∧ H5 x.1 = some (.tup x.2.vals) ∧ x.2.Fine ∧ Ho7 H5 t3 hp hg he' Ps G (sortE (pr ++ [x])))), ?_, ?_⟩
      · refine ⟨_, rfl, rfl, _, rfl, ite2 (fun z => ?_) (fun z => iteF ?_)⟩
        · have e : due = "told" := V.str.inj (of_decide_eq_true z)
          refine ⟨_, rfl, h, _, 2, _, rfl, rfl, SqT.of ho5.h0, atI_nat (j := 2) rfl, he, _, rfl, .inr (SqT.of ho5.h3), rfl, _, rfl, ite2 (fun z2 => ?_) (fun z2 => ?_)⟩
          · have l : pr.length = 30 := by
              have := V.int.inj (of_decide_eq_true z2)
              rw [List.length_map] at this
              omega
            refine ⟨rfl, _, rfl, .inl ?_⟩
            rcases out5 with ⟨w, h1, h2, h3⟩ | ⟨t3, he', x, h1, h2, h3, _⟩
            · rcases h3 with ⟨h3, _⟩ | ⟨_, rfl, _⟩
              · exact absurd e h3
              · exact ⟨h1, h2, by decide +kernel⟩
            · omega
          · have l : pr.length ≠ 30 := fun l => z2 (decide_eq_true (by rw [List.length_map, l]; rfl))
            refine ⟨rfl, _, rfl, .inr ⟨e, ?_⟩⟩
            rcases out5 with ⟨w, h1, h2, h3⟩ | ⟨t3, he', x, h1, h2, r⟩
            · rcases h3 with ⟨h3, _⟩ | ⟨_, _, h3⟩
              · exact absurd e h3
              · exact absurd h3 l
            · exact ⟨t3, he', x, h1, r⟩
        · have e : due ≠ "told" := fun e => z (decide_eq_true (congrArg V.str e))
          refine ⟨rfl, _, rfl, .inl ?_⟩
          rcases out5 with ⟨w, h1, h2, h3⟩ | ⟨t3, he', x, h1, h2, r⟩
          · rcases h3 with ⟨_, rfl⟩ | ⟨h3, _⟩
            · exact ⟨h1, h2, e⟩
            · exact absurd h3 e
          · exact absurd h2 e
      · rintro σ H6 ⟨rfl, due', rfl, out⟩
        rcases out with ⟨h1, h2, h3⟩ | ⟨rfl, t3, he', x, h1, lt, rfl, hx, fi, ho3⟩
        · refine ⟨_, rfl, rfl, _, rfl, ?_⟩
          rw [decide_eq_false (show ¬ V.str due' = V.str "told" from fun e => h3 (V.str.inj e))]
          refine iteT ⟨_, rfl, _, rfl, (by show 2 ≤ sizeLine; decide), fun L nL => ?_⟩
          have s6 := @same_new _ _ (.lst [V.str "refused", .str due']) nL
          have shd := data_two_sh (w := "refused") (z := due') (by decide +kernel) h2
          refine ⟨_, _, data_two (s6 _ _ h1), data_two upd_same, shd, shd, ?_⟩
          rw [SeqAt.eqv_refl _ (SeqAt.canLay_of_shaped shd)]
          exact q _ (ch5.tr (.same ch5.tg s6)) (LamX.TabS.ext tl5 fun b o e => s6 b o e) (pen5.same s6)
        · refine ⟨_, rfl, rfl, _, rfl, ?_⟩
          rw [decide_eq_true rfl]
          refine iteF ?_
          have mem : ∀ y ∈ pr ++ [x], y.2.Fine := fun y hy => (List.mem_append.mp hy).elim (fun h => (ok.f y h).1) fun h => by rw [List.mem_singleton.mp h]; exact fi
          have shH : Short (houseD Ps G ((sortE (pr ++ [x])).map (·.2))) 10000 3 := short_house ok.np ok.ng (by have := ok.p6; omega) (by have := ok.g3; omega) (fun e he => by
              obtain ⟨y, hy, rfl⟩ := List.mem_map.mp he
              exact mem y ((sortE_p _).mem_iff.mp hy)) (by rw [List.length_map, (sortE_p _).length_eq, List.length_append]; exact (show pr.length + 1 ≤ 32 by omega))
          have sh : Short (.list [.str "told", houseD Ps G ((sortE (pr ++ [x])).map (·.2))]) 21000 4 := short_lst (n := 10000) (k := 3) (fun d hd => by
            simp only [List.mem_cons, List.not_mem_nil, or_false] at hd
            rcases hd with rfl | rfl
            · exact Short.mono (short_str (.inl (by decide +kernel))) (by decide) (by decide)
            · exact shH) (by show 2 * 10001 ≤ 21000; decide)
          refine ⟨_, rfl, t2, _, rfl, .lst (SqL.of h1) (.cons (.str _) (.cons ho3.dp .nil)), sh.sh, sh.nd, Nat.le_trans sh.dp (by decide), sh.fits (by decide), ?_⟩
          refine ⟨_, rfl, _, rfl, h, _, 2, _, rfl, rfl, SqT.of ho5.h0, atI_nat (j := 2) rfl, _, rfl, (by show 1 ≤ sizeLine; decide), fun T1 nT1 => ?_⟩
          have s6 := @same_new _ _ (.tup [V.ref x.1]) nT1
          have e6 := @upd_same H6 T1 (.tup [V.ref x.1])
          generalize upd H6 T1 (.tup [V.ref x.1]) = H7 at s6 e6 ⊢
          refine ⟨he, T1, _, _, rfl, rfl, s6 _ _ ho5.h3, e6, by rw [List.length_map]; exact (show pr.length + 1 ≤ 30 by omega), fun T2 H8 s8 e8 => ?_⟩
          have s68 := s6.trans s8
          have ho8 := ho5.on (TK.of s68)
          refine ⟨h, hp, hg, T2, [.ref he], pr ++ [x], rfl, ho8.h0, .inr (by rw [e8, List.map_append]; rfl), fun y hy => ?_, fun t4 he4 H9 s9 e9 e10 => ?_⟩
          · rcases List.mem_append.mp hy with hy | hy
            · exact ho8.e y hy
            · rw [List.mem_singleton.mp hy]
              exact s68 _ _ hx
          · refine ⟨(by show 2 ≤ sizeLine; decide), fun L nL => ?_⟩
            have s10 := @same_new _ _ (.lst [V.str "told", .ref t4]) nL
            have e11 := @upd_same H9 L (.lst [V.str "told", .ref t4])
            have s69 := s68.trans (s9.trans s10)
            have ho10 := ho5.on (TK.of s69)
            have hoN : Ho7 (upd H9 L (.lst [V.str "told", .ref t4])) t4 hp hg he4 Ps G (sortE (pr ++ [x])) := ⟨s10 _ _ e9, ho10.h1, ho10.h2, s10 _ _ e10, fun y hy => by
              rcases List.mem_append.mp ((sortE_p _).mem_iff.mp hy) with hy | hy
              · exact ho10.e y hy
              · rw [List.mem_singleton.mp hy]
                exact s69 _ _ hx⟩
            refine ⟨L, _, rfl, .lst (SqL.of e11) (.cons (.str _) (.cons hoN.dp .nil)), sh.sh, sh.nd, Nat.le_trans sh.dp (by decide), sh.fits (by decide), rfl, ?_⟩
            rw [decide_eq_true rfl]
            exact q _ (ch5.tr (.same ch5.tg s69)) (LamX.TabS.ext tl5 fun b o e => s69 b o e) (pen5.same s69)
end
/-! ### entries in their order: one left out, put in, turned -/
theorem FnOk.calm {P : Program} {w : World} {K : PySem.W.Frag} {mg : Str → Option Value} {base : Heap} {k : Nat} {f : Addr} {fd : FuncData} {ps : List Str} {sp : Sp} (F : FnOk P w K mg base (L2.CX P w) k f fd ps sp) : FnOk P w K mg base CX0 k f fd ps (fun vs H Q _ => sp vs H Q (fun _ _ _ => False)) :=
  ⟨fun vs H Q E h => F.len vs H Q _ h, fun A outer s H args us vs Q E hr he hb hv hs => codeAny_mono (F.run A outer s H args us vs Q _ hr he hb hv hs) fun r s' h => by
    cases r with
    | ok fl => cases fl <;> exact h
    | error e =>
      obtain ⟨_, _, _, _, _, _, _, _, _, _, _, _, hE⟩ := h
      exact False.elim hE⟩
def sortEnt (es : List Ent) : List Ent := es.mergeSort fun a b => PySem.W.dataLe false id (ordD a) (ordD b)
theorem sortE_map (pr : List (Addr × Ent)) : (sortE pr).map (·.2) = sortEnt (pr.map (·.2)) := List.map_mergeSort fun _ _ _ _ => rfl
theorem sortEnt_perm {a b : List Ent} (p : a.Perm b) (nd : (a.map Ent.name).Nodup) : sortEnt a = sortEnt b := by
  have e : ∀ l : List Ent, sortEnt l = (sortE (l.map fun e => ((0 : Addr), e))).map (·.2) := fun l => by
    rw [sortE_map, List.map_map]
    show _ = sortEnt (l.map fun e => e)
    rw [List.map_id']
  rw [e a, e b]
  refine congrArg (List.map (·.2)) (sortE_perm (p.map _) fun x hx y hy en => name_tells ?_ hx hy en)
  rw [List.map_map]
  exact nd
theorem sortE_pw {pr : List (Addr × Ent)} (h : sortE pr = pr) : pr.Pairwise fun a b => ordLe a b = true := by
  have := List.pairwise_mergeSort ordLe_tr ordLe_tot pr
  rw [show pr.mergeSort ordLe = pr from h] at this
  exact this
theorem pw_sortE {pr : List (Addr × Ent)} (h : pr.Pairwise fun a b => ordLe a b = true) : sortE pr = pr := List.mergeSort_of_pairwise h
theorem pr_nodup {pr : List (Addr × Ent)} (nd : (pr.map fun x => x.2.name).Nodup) : pr.Nodup := List.Pairwise.of_map (fun x : Addr × Ent => x.2.name) (fun a b h e => h (congrArg (fun x : Addr × Ent => x.2.name) e)) nd
def outN (pr : List (Addr × Ent)) (n : Str) : List (Addr × Ent) := pr.filter fun y => decide (y.2.name ≠ n)
theorem outN_mem {pr : List (Addr × Ent)} {n : Str} {y : Addr × Ent} : y ∈ outN pr n ↔ y ∈ pr ∧ y.2.name ≠ n := by
  unfold outN
  rw [List.mem_filter, decide_eq_true_iff]
theorem outN_sort {pr : List (Addr × Ent)} {n : Str} (h : sortE pr = pr) : sortE (outN pr n) = outN pr n := pw_sortE ((sortE_pw h).filter _)
theorem outN_names {pr : List (Addr × Ent)} {n : Str} (nd : (pr.map fun x => x.2.name).Nodup) : ((outN pr n).map fun x => x.2.name).Nodup := (List.filter_sublist.map _).nodup nd
theorem outN_perm {pr : List (Addr × Ent)} (nd : (pr.map fun x => x.2.name).Nodup) {x : Addr × Ent} (hx : x ∈ pr) : (outN pr x.2.name ++ [x]).Perm pr := by
  have n1 := pr_nodup nd
  have n2 : (outN pr x.2.name ++ [x]).Nodup := List.nodup_append.mpr ⟨n1.filter _, List.nodup_cons.mpr ⟨fun z => (nomatch z), .nil⟩, fun a ha b hb z => by
    rw [List.mem_singleton.mp hb] at z
    exact (outN_mem.mp ha).2 (by rw [z])⟩
  refine (List.perm_ext_iff_of_nodup n2 n1).mpr fun y => ⟨fun h => ?_, fun h => ?_⟩
  · rcases List.mem_append.mp h with h | h
    · exact (outN_mem.mp h).1
    · rw [List.mem_singleton.mp h]
      exact hx
  · by_cases z : y.2.name = x.2.name
    · rw [name_tells nd h hx z]
      exact List.mem_append_right _ (List.mem_singleton.mpr rfl)
    · exact List.mem_append_left _ (outN_mem.mpr ⟨h, z⟩)
theorem outN_lt {pr : List (Addr × Ent)} (nd : (pr.map fun x => x.2.name).Nodup) {x : Addr × Ent} (hx : x ∈ pr) : (outN pr x.2.name).length + 1 = pr.length := by
  have := (outN_perm nd hx).length_eq
  rw [List.length_append] at this
  exact this
theorem outN_back {pr : List (Addr × Ent)} (so : sortE pr = pr) (nd : (pr.map fun x => x.2.name).Nodup) {x : Addr × Ent} (hx : x ∈ pr) : sortE (outN pr x.2.name ++ [x]) = pr := by
  rw [sortE_perm (outN_perm nd hx) fun y hy z hz e => name_tells nd ((outN_perm nd hx).mem_iff.mp hy) ((outN_perm nd hx).mem_iff.mp hz) e]
  exact so
/-- one exchanged for another of the same place in the order -/
def swN (pr : List (Addr × Ent)) (n : Str) (z : Addr × Ent) : List (Addr × Ent) := pr.map fun y => if y.2.name = n then z else y
theorem swN_ents {pr : List (Addr × Ent)} (so : sortE pr = pr) (nd : (pr.map fun x => x.2.name).Nodup) {x z : Addr × Ent} (hx : x ∈ pr) (oz : ordD z.2 = ordD x.2) (nz : z.2.name = x.2.name) : (swN pr x.2.name z).map (·.2) = sortEnt ((outN pr x.2.name).map (·.2) ++ [z.2]) := by
  have oy : ∀ y ∈ pr, ordD (if y.2.name = x.2.name then z else y).2 = ordD y.2 := fun y hy => by
    by_cases e : y.2.name = x.2.name
    · rw [if_pos e, name_tells nd hy hx e]
      exact oz
    · rw [if_neg e]
  have sA : sortE (swN pr x.2.name z) = swN pr x.2.name z := by
    refine pw_sortE ?_
    unfold swN
    rw [List.pairwise_map]
    refine (sortE_pw so).imp_of_mem fun {a b} ha hb h => ?_
    unfold ordLe at h ⊢
    rw [oy a ha, oy b hb]
    exact h
  have ny : ∀ y ∈ pr, (if y.2.name = x.2.name then z else y).2.name = y.2.name := fun y hy => by
    by_cases e : y.2.name = x.2.name
    · rw [if_pos e, nz, e]
    · rw [if_neg e]
  have nA : ((swN pr x.2.name z).map fun y => y.2.name) = pr.map fun y => y.2.name := by
    unfold swN
    rw [List.map_map]
    exact List.map_congr_left fun y hy => ny y hy
  rw [← sA, sortE_map]
  refine sortEnt_perm ?_ ?_
  · have p := ((outN_perm nd hx).map fun y => if y.2.name = x.2.name then z else y).symm
    have e : ((outN pr x.2.name ++ [x]).map fun y => if y.2.name = x.2.name then z else y) = outN pr x.2.name ++ [z] := by
      rw [List.map_append]
      congr 1
      · conv => rhs; rw [← List.map_id (outN pr x.2.name)]
        exact List.map_congr_left fun y hy => if_neg (outN_mem.mp hy).2
      · show [if x.2.name = x.2.name then z else x] = [z]
        rw [if_pos rfl]
    rw [e] at p
    have p2 := p.map (·.2)
    rw [List.map_append] at p2
    exact p2
  · rw [List.map_map]
    show ((swN pr x.2.name z).map fun y => y.2.name).Nodup
    rw [nA]
    exact nd
theorem turnE_ord (e : Ent) : ordD (turnE e) = ordD e := by cases e <;> rfl
theorem turnE_name (e : Ent) : (turnE e).name = e.name := by cases e <;> rfl
theorem turnE_twice (e : Ent) : turnE (turnE e) = e := by cases e <;> rfl
/-! ### each entry left out, put in again, turned -/
/-- all but the tables stays -/
structure St7 (Ts : List Addr) (H H' : Hp) : Prop where
  kp : ∀ a o, H a = some o → (∀ ps, o ≠ .tbl ps) → H' a = some o
  oth : ∀ a o, H a = some o → a ∉ Ts → H' a = some o
  tg : TabsG Ts H'
theorem St7.tr {Ts : List Addr} {H H1 H2 : Hp} (a : St7 Ts H H1) (b : St7 Ts H1 H2) : St7 Ts H H2 := ⟨fun x o e n => b.kp x o (a.kp x o e n) n, fun x o e n => b.oth x o (a.oth x o e n) n, b.tg⟩
theorem St7.same {Ts : List Addr} {H H' : Hp} (t : TabsG Ts H) (s : Same H H') : St7 Ts H H' := ⟨fun a o e _ => s a o e, fun a o e _ => s a o e, tabs_sm s t⟩
theorem St7.tb {Ts : List Addr} {H H' : Hp} (t : TB1 Ts H H') : St7 Ts H H' := ⟨t.2, t.oth, t.1⟩
theorem St7.tk {Ts : List Addr} {H H' : Hp} (t : St7 Ts H H') : TK H H' := tk_of t.kp
theorem St7.tabS {Ts : List Addr} {H H' : Hp} {Pt : Addr} {q : Str} (t : St7 Ts H H') (nt : Pt ∉ Ts) (h : LamX.TabS H Pt q) : LamX.TabS H' Pt q := by
  obtain ⟨ps, h1, h2, h3⟩ := h
  exact ⟨ps, t.oth _ _ h1 nt, h2, fun at' cv e => by
    obtain ⟨c, e1, e2⟩ := h3 at' cv e
    exact ⟨c, e1, t.kp _ _ e2 LamX.codeO_ne⟩⟩
theorem St7.lam {Ts : List Addr} {Pt : Addr} {q : Str} {H H' : Hp} (n : Pt ∉ Ts) (g : TabsG Ts H) (h : LamX.TabS H Pt q) (d : LamD Pt q H H') : St7 (Pt :: Ts) H H' := by
  refine ⟨lam_kp h d, fun a o e na => d.kp a o (fun z => na (z ▸ List.mem_cons_self)) e, tabs_pt (fun T hT => ?_) d.tab⟩
  obtain ⟨ps, e, ok⟩ := g T hT
  exact ⟨ps, d.kp _ _ (fun z => n (z ▸ hT)) e, ok⟩
theorem St7.up {Ts : List Addr} {Pt : Addr} {q : Str} {H H' : Hp} (t : St7 Ts H H') (nt : Pt ∉ Ts) (h : LamX.TabS H Pt q) : St7 (Pt :: Ts) H H' :=
  ⟨t.kp, fun a o e na => t.oth a o e fun z => na (List.mem_cons_of_mem _ z), tabs_pt t.tg (t.tabS nt h)⟩
/-- a state with its lambdas -/
structure Sl7 (Ts : List Addr) (Pt : Addr) (q : Str) (H H' : Hp) : Prop where
  st : St7 (Pt :: Ts) H H'
  tl : LamX.TabS H' Pt q
theorem Sl7.tr {Ts : List Addr} {Pt : Addr} {q : Str} {H H1 H2 : Hp} (a : Sl7 Ts Pt q H H1) (b : Sl7 Ts Pt q H1 H2) : Sl7 Ts Pt q H H2 := ⟨a.st.tr b.st, b.tl⟩
theorem Sl7.same {Ts : List Addr} {Pt : Addr} {q : Str} {H H1 H2 : Hp} (a : Sl7 Ts Pt q H H1) (s : Same H1 H2) : Sl7 Ts Pt q H H2 := ⟨a.st.tr (.same a.st.tg s), LamX.TabS.ext a.tl fun b o e => s b o e⟩
theorem Sl7.tb {Ts : List Addr} {Pt : Addr} {q : Str} {H H1 H2 : Hp} (nt : Pt ∉ Ts) (a : Sl7 Ts Pt q H H1) (t : TB1 Ts H1 H2) : Sl7 Ts Pt q H H2 := ⟨a.st.tr ((St7.tb t).up nt a.tl), (St7.tb t).tabS nt a.tl⟩
theorem Sl7.lam {Ts : List Addr} {Pt : Addr} {q : Str} {H H1 H2 : Hp} (nt : Pt ∉ Ts) (a : Sl7 Ts Pt q H H1) (d : LamD Pt q H1 H2) : Sl7 Ts Pt q H H2 := ⟨a.st.tr (.lam nt a.st.tg.tl a.tl d), d.tab⟩
theorem Sl7.init {Ts : List Addr} {Pt : Addr} {q : Str} {H : Hp} (g : TabsG Ts H) (h : LamX.TabS H Pt q) : Sl7 Ts Pt q H H := ⟨.same (tabs_pt g h) fun _ _ e => e, h⟩
theorem Sl7.tg {Ts : List Addr} {Pt : Addr} {q : Str} {H H1 : Hp} (a : Sl7 Ts Pt q H H1) : TabsG Ts H1 := a.st.tg.tl
theorem Sl7.tk {Ts : List Addr} {Pt : Addr} {q : Str} {H H1 : Hp} (a : Sl7 Ts Pt q H H1) : TK H H1 := a.st.tk
abbrev q2Lam : Str := (("_law_left_right" : Str) ++ ".<locals>.") ++ "<lambda>"
def spLeftR (Ts : List Addr) (Pt : Addr) : Sp := fun vs H Q _ => ∃ (h hp hg he : Addr) (P G : List Str) (pr : List (Addr × Ent)) (x : Addr × Ent), vs = [.ref h, .ref x.1] ∧ Ho7 H h hp hg he P G pr ∧ Ok7 P G pr ∧ sortE pr = pr ∧ pr.length ≤ 30 ∧ x ∈ pr ∧ TabsG Ts H ∧ LamX.TabS H Pt q2Lam ∧
  ∀ H', Sl7 Ts Pt q2Lam H H' → Q (.bl true) H'
theorem Ok7.sub {P G : List Str} {pr qr : List (Addr × Ent)} (ok : Ok7 P G pr) (nd : (qr.map fun x => x.2.name).Nodup) (le : qr.length ≤ 31) (f : ∀ x ∈ qr, x.2.Fine ∧ ofB x.2 P G = true) : Ok7 P G qr := ⟨ok.p0, ok.p6, ok.g0, ok.g3, ok.np, ok.ng, nd, le, f⟩
theorem short_ok {P G : List Str} {pr qr : List (Addr × Ent)} (ok : Ok7 P G pr) (f : ∀ y ∈ qr, y.2.Fine) (l : qr.length ≤ 32) : Short (houseD P G (qr.map (·.2))) 10000 3 := short_house ok.np ok.ng (by have := ok.p6; omega) (by have := ok.g3; omega) (fun e he => by
  obtain ⟨y, hy, rfl⟩ := List.mem_map.mp he
  exact f y hy) (by rw [List.length_map]; exact l)
theorem sortE_idem (pr : List (Addr × Ent)) : sortE (sortE pr) = sortE pr := pw_sortE (List.pairwise_mergeSort ordLe_tr ordLe_tot pr)
theorem turn_ok {e : Ent} {P G : List Str} (f : e.Fine) (o : ofB e P G = true) : (turnE e).Fine ∧ ofB (turnE e) P G = true := by
  cases e with
  | move n m g o' t k =>
    refine ⟨⟨fun i v x hv hx => ?_, ?_⟩, ?_⟩
    · match i with
      | 0 => exact f.fit 0 v x hv hx
      | 1 => exact f.fit 1 v x hv hx
      | 2 => exact f.fit 2 v x hv hx
      | 3 => exact f.fit 4 v x hv hx
      | 4 => exact f.fit 3 v x hv hx
      | 5 => exact f.fit 5 v x hv hx
      | i + 6 => exact nomatch hv
    · have a := f.apart
      simp only [turnE, Ent.places, List.nodup_cons, List.mem_singleton, List.not_mem_nil, not_false_eq_true, List.nodup_nil, and_true] at a ⊢
      exact fun e => a e.symm
    · unfold ofB goodOk at o ⊢
      simp only [turnE, Ent.goodV, Ent.places, List.all_cons, List.all_nil, Bool.and_true] at o ⊢
      rw [← o]
      congr 1
      exact Bool.and_comm _ _
  | come n m g p k r => exact ⟨f, o⟩
  | go n m g p k => exact ⟨f, o⟩
  | some_ n m g o' t => exact ⟨f, o⟩
  | swap n m o' t => exact ⟨f, o⟩
  | count n m g p k hd => exact ⟨f, o⟩
  | look n m g p => exact ⟨f, o⟩
theorem tng_str {K : PySem.W.Frag} {H : Hp} {z : Str} (ok : PyData.strOk z = true) : EqT.Tng K H (.str z) := .inl ⟨_, .str z, by unfold SeqAt.shaped; simp [PyData.canLay0, PyData.depth, ok]⟩
section
variable {P : Program} {w : World} {K : PySem.W.Frag} {mg : Str → Option Value} {base : Heap}
abbrev sLeftRN : List Str := ["_law_house", "_law_entry_here", "_law_name", "_law_rest", "_law_other", "_law_found", "_law_bent", "_law_due"]
theorem sc_sLeftR : FnScope sLeftRN ["_law_house", "_law_entry_here"] (defScope sLeftR) := ⟨rfl, rfl, rfl, by decide +kernel, rfl, by decide +kernel, by decide +kernel⟩
set_option maxHeartbeats 4000000 in
theorem ok_leftR {f cR Pt fA fC fI fW fS fO fN : Addr} {dC dI dW dS dO dN : FuncData} {Ts : List Addr} {A : Rc7} {O : Oc7} {CE : Addr} {oc kV doc pm ct oc' kV' doc' pm' cdv' ct' : Value} {od an od' an' : Option Addr} {osl osl' : Array (Option Value)}
    (lk : K.lookup f = some ⟨oc, od, .func (PySem.W.fnOf "_law_left_right" "_law_left_right" (defArgs sLeftR) (defBody sLeftR) (defScope sLeftR) .none kV doc pm an (.ref cR) ct), osl⟩) (cdI : PySem.W.codeIn K (.ref cR) "_law_left_right" = true)
    (TBL : LamX.TabB base mg cR Pt) (nPt : Pt ∉ Ts) (LT : ToldD P w K mg base A O CE fA fC dC oc' kV' doc' pm' cdv' ct' od' an' osl')
    (CA : DefT P w K mg base "entry_called" 1 fN dN ["house", "name"] (fun vs H Q _ => spCalled7 K A.nn vs H Q (fun _ _ _ => False)))
    (WE : DefT P w K mg base "with_entry" 6 fW dW ["house", "entry"] (fun vs H Q _ => spWithE Ts A.ne A.tw A.tm vs H Q (fun _ _ _ => False)))
    (WO : DefT P w K mg base "without_entry" 2 fO dO ["house", "name"] (fun vs H Q _ => spWithout K Ts A.nn vs H Q (fun _ _ _ => False)))
    (WTX : DefX P w K mg base "with_turned" 2 fI dI ["house", "name"] (spTurned K Ts A.nn A.nm)) (LS : DefT P w K mg base "_law_sorted" 4 fS dS ["_law_house", "_law_entries"] spSorted) (mp : mg "repr" = none) :
    FnG P w K mg base 9 f (PySem.W.fnOf "_law_left_right" "_law_left_right" (defArgs sLeftR) (defBody sLeftR) (defScope sLeftR) .none kV doc pm an (.ref cR) ct) ["_law_house", "_law_entry_here"] (spLeftR Ts Pt) := by
  have WT : DefT P w K mg base "with_turned" 2 fI dI ["house", "name"] (fun vs H Q _ => spTurned K Ts A.nn A.nm vs H Q (fun _ _ _ => False)) := ⟨FnOk.calm WTX.ok, WTX.g, WTX.kp, WTX.b⟩
  refine okG_of lk cdI sc_sLeftR (fun vs H Q E h => ?_) (fun B outer s H vs Q E hG hr h => ?_)
  · obtain ⟨h, hp, hg, he, Ps, G, pr, x, rfl, _⟩ := h
    rfl
  · obtain ⟨h, hp, hg, he, Ps, G, pr, x, rfl, ho, ok, so, l30, mx, tg, tl, q⟩ := h
    have hr6 : Room 6 _ := hr.mono (by decide)
    have nd := sc_sLeftR.nd
    have hr1 : Room 1 _ := hr.mono (by decide)
    have hr2 : Room 2 _ := hr.mono (by decide)
    have hr4 : Room 4 _ := hr.mono (by decide)
    refine ⟨_, pss_cons (ps_set (i := 2) nd rfl (Or.inr rfl) (pe_ix ix_tup (pv 1) pe_int (fun _ _ => rfl)))
      (pss_cons (ps_set (i := 3) nd rfl (Or.inl rfl) (pe_call LS.ok hr4 (by rfl) LS.g LS.kp LS.b .nil pass0 (pa_cons (pv 0) (pa_cons (pe_lc (own := [("_law_other", 4)]) (g := gName 4) (tt := tTest (tOp rNe (tOp (rIxT K) (tVar 4) (tC (V.int 1))) (tVar 2))) (te := tVar 4) rfl nd (pi_tup (pe_ix ix_tup (pv 0) pe_int (fun _ _ => rfl))) (blkOk_by (N := sLeftRN) (sc := defScope sLeftR) (by decide +kernel)) (fun _ _ _ _ _ => (pg_name (i := 4) nd rfl (Or.inl rfl))) (fun _ _ _ _ _ => (pts_one (pt_cmpR op_ne (pe_ix ix_tup (pv 4) pe_int (fun _ _ => rfl)) (pv 2) (nomark _)))) (fun _ _ _ _ _ => (pv 4))) pa_nil))))
      (pss_cons (ps_if (PW.pt (pw_or (pt_cmpR op_ne (pe_callB (cr_repr hG hr.units) (by rfl) mp (by decide +kernel) (pa_cons (pe_call CA.ok hr1 (by rfl) CA.g CA.kp CA.b .nil pass0 (pa_cons (pv 0) (pa_cons (pv 2) pa_nil))) pa_nil)) (pe_callB (cr_repr hG hr.units) (by rfl) mp (by decide +kernel) (pa_cons (pv 1) pa_nil)) (nomark _)) (pw_or1 (pt_cmpR op_ne (pe_callB (cr_repr hG hr.units) (by rfl) mp (by decide +kernel) (pa_cons (pe_call WO.ok hr2 (by rfl) WO.g WO.kp WO.b .nil pass0 (pa_cons (pv 0) (pa_cons (pv 2) pa_nil))) pa_nil)) (pe_callB (cr_repr hG hr.units) (by rfl) mp (by decide +kernel) (pa_cons (pv 3) pa_nil)) (nomark _))))) (pss_one (ps_ret pe_bl)) pss_nil)
      (pss_cons (ps_if (pt_cmpR op_ne (pe_callB (cr_repr hG hr.units) (by rfl) mp (by decide +kernel) (pa_cons (pe_call WE.ok hr6 (by rfl) WE.g WE.kp WE.b .nil pass0 (pa_cons (pv 3) (pa_cons (pv 1) pa_nil))) pa_nil)) (pe_callB (cr_repr hG hr.units) (by rfl) mp (by decide +kernel) (pa_cons (pv 0) pa_nil)) (nomark _)) (pss_one (ps_ret pe_bl)) pss_nil)
      (C8.pss_cut (ps_set (i := 5) nd rfl (Or.inl rfl) (pe_capcallR (k := 6) (t := fun E2 => tCallS (spTurned K Ts A.nn A.nm) (fun _ => E2) (tCons (tVar 0) (tCons (tVar 2) tNil)))  (by rfl) LT.g LT.kp LT.lk LT.cd LT.b sc_sLTold rfl (.inl rfl) (told_gives LT.G LT.D LT.CL) TBL rfl hr (LamX.lamS_by (sc := defScope sLeftR) (by decide +kernel)) rfl (by intros; rfl) (fun A2 outer2 z2 G2 E2 f2 cc2 hrL => (pe_callS WTX.ok (hrL.mono (by decide)) (by rfl) WTX.g WTX.kp WTX.b (fun σ => passAt (takes_of rfl rfl rfl rfl) σ) (pa_cons (pv 0) (pa_cons (pv 2) pa_nil))))))
      (pss_cons (ps_if (pt_cmpR op_ne (pe_ix ix_tup (pv 1) pe_int (fun _ _ => rfl)) pe_str (nomark _)) (pss_one (ps_ret (pe_cmpR (op_eqD hr.units) (pv 5) (pe_lst (pa_cons pe_str (pa_cons pe_str pa_nil))) (nomark _)))) pss_nil)
      (pss_cons (ps_set (i := 6) nd rfl (Or.inl rfl) (pe_op op_catW (pe_slice sl_S (pv 1) po_none (po_some pe_int)) (pe_tup (pa_cons (pe_ix ix_tup (pv 1) pe_int (fun _ _ => rfl)) (pa_cons (pe_ix ix_tup (pv 1) pe_int (fun _ _ => rfl)) (pa_cons (pe_ix ix_tup (pv 1) pe_int (fun _ _ => rfl)) pa_nil))))))
      (pss_cons (ps_set (i := 7) nd rfl (Or.inl rfl) (pe_call LS.ok hr4 (by rfl) LS.g LS.kp LS.b .nil pass0 (pa_cons (pv 0) (pa_cons (pe_op op_catW (pe_ix ix_tup (pv 3) pe_int (fun _ _ => rfl)) (pe_tup (pa_cons (pv 6) pa_nil))) pa_nil))))
      (pss_one (ps_ret (pe_and (pe_cmpR op_eq (pe_callB (cr_repr hG hr.units) (by rfl) mp (by decide +kernel) (pa_cons (pv 5) pa_nil)) (pe_callB (cr_repr hG hr.units) (by rfl) mp (by decide +kernel) (pa_cons (pe_lst (pa_cons pe_str (pa_cons (pv 7) pa_nil))) pa_nil)) (nomark _)) (pe_one (pe_cmpR op_eq (pe_callB (cr_repr hG hr.units) (by rfl) mp (by decide +kernel) (pa_cons (pe_call WT.ok hr2 (by rfl) WT.g WT.kp WT.b .nil pass0 (pa_cons (pv 7) (pa_cons (pv 2) pa_nil))) pa_nil)) (pe_callB (cr_repr hG hr.units) (by rfl) mp (by decide +kernel) (pa_cons (pv 0) pa_nil)) (nomark _))))))))))))), ?_⟩
    have hx := ho.e x mx
    have nmx := fine_name (ok.f x mx).1
    refine ⟨_, rfl, x.1, _, 1, _, rfl, rfl, SqT.of hx, at1 x.2, ?_⟩
    refine ⟨_, rfl, _, rfl, h, _, 2, _, rfl, rfl, SqT.of ho.h0, atI_nat (j := 2) rfl, he, rfl, ⟨_, SqT.of ho.h3⟩, fun D nD => ?_⟩
    refine lc_tup (K := K) (a := he) (xs := pr.map fun x => V.ref x.1) (fun i H' => Same H H' ∧ H' D = some (.lst ((outN (pr.take i) x.2.name).map fun x => V.ref x.1))) ⟨same_new nD, upd_same⟩ (fun i H' _ z => SqT.of (z.1 _ _ ho.h3)) ?_ ?_
    · rintro i v H' hv ⟨s', eD⟩
      rw [List.getElem?_map] at hv
      obtain ⟨y, hy, rfl⟩ := Option.map_eq_some_iff.mp hv
      have my := List.mem_of_getElem? hy
      refine ⟨rfl, _, rfl, y.1, _, 1, _, rfl, rfl, SqT.of (s' _ _ (ho.e y my)), at1 y.2, _, rfl, rfl, _, rfl, ?_⟩
      by_cases z : y.2.name = x.2.name
      · rw [decide_eq_true (congrArg V.str z)]
        refine iteF ⟨s', ?_⟩
        rw [eD, take_sn hy]
        unfold outN
        rw [List.filter_append, List.filter_cons_of_neg (by simp [z]), List.filter_nil, List.append_nil]
      · rw [decide_eq_false fun e => z (V.str.inj e)]
        refine iteT ⟨_, rfl, _, eD, (by
          rw [List.length_map]
          have := List.length_filter_le (fun y : Addr × Ent => decide (y.2.name ≠ x.2.name)) (pr.take i)
          rw [List.length_take] at this
          exact small1000 (show (outN (pr.take i) x.2.name).length ≤ 1000 by unfold outN; omega)), fun b o e => (upd_ne (ne_of_none e nD)).trans (s' b o e), ?_⟩
        rw [upd_same, take_sn hy]
        unfold outN
        rw [List.filter_append, List.filter_cons_of_pos (by simp [z]), List.filter_nil, List.map_append]
        rfl
    · rintro H1 ⟨s1, eD⟩
      rw [List.length_map, List.take_length] at eD
      have S1 := (Sl7.init tg tl).same s1
      have ho1 := ho.on S1.tk
      refine ⟨h, hp, hg, D, [.ref he], outN pr x.2.name, rfl, ho1.h0, .inl eD, fun y hy => ho1.e y (outN_mem.mp hy).1, fun tR heR H2 s2 e2 e3 => ?_⟩
      rw [outN_sort so] at e3
      have S2 := S1.same s2
      have ho2 := ho.on S2.tk
      have hoR : Ho7 H2 tR hp hg heR Ps G (outN pr x.2.name) := ⟨e2, ho2.h1, ho2.h2, e3, fun y hy => ho2.e y (outN_mem.mp hy).1⟩
      have hx2 := S2.tk _ _ hx
      have shx := short_fine (ok.f x mx).1
      have tng := tng_str (K := K) (H := H2) (name_ok nmx)
      have okF : Ok7 Ps G (outN pr x.2.name) := ok.sub (outN_names ok.nd) (by have := outN_lt ok.nd mx; omega) fun y hy => ok.f y (outN_mem.mp hy).1
      have lF := outN_lt ok.nd mx
      have shF : Short (houseD Ps G ((outN pr x.2.name).map (·.2))) 10000 3 := short_ok ok (fun y hy => (okF.f y hy).1) (by omega)
      have shP : Short (houseD Ps G (pr.map (·.2))) 10000 3 := short_ok ok (fun y hy => (ok.f y hy).1) (by omega)
      clear hx s1 s2 S1 ho1 eD e2 e3 nD
      show gName 3 (V.ref tR) [some (.ref h), some (.ref x.1), some (.str x.2.name), none, none, none, none, none] H2 _
      refine ⟨_, rfl, _, rfl, h, hp, hg, he, Ps, G, pr, _, rfl, ho2, ok, tng, .inl ⟨x, mx, rfl, ?_⟩⟩
      refine ⟨x.1, _, rfl, dp_ent hx2, shx.sh, shx.nd, Nat.le_trans shx.dp (by decide), shx.fits (by decide), _, rfl, x.1, _, rfl, dp_ent hx2, shx.sh, shx.nd, Nat.le_trans shx.dp (by decide), shx.fits (by decide), rfl, _, rfl, ?_⟩
      rw [decide_eq_true rfl]
      refine iteF ?_
      refine ⟨_, rfl, _, rfl, h, hp, hg, he, Ps, G, pr, _, rfl, ho2, ok, S2.tg, tng, .inl ⟨x, mx, rfl, fun t3 he3 H3 tb3 ho3 => ?_⟩⟩
      have S3 := S2.tb nPt tb3
      replace ho3 : Ho7 H3 t3 hp hg he3 Ps G (outN pr x.2.name) := ho3
      have hoR3 := hoR.on tb3.tk
      refine ⟨t3, _, rfl, ho3.dp, shF.sh, shF.nd, Nat.le_trans shF.dp (by decide), shF.fits (by decide), _, rfl, tR, _, rfl, hoR3.dp, shF.sh, shF.nd, Nat.le_trans shF.dp (by decide), shF.fits (by decide), rfl, _, rfl, ?_⟩
      rw [decide_eq_true rfl]
      refine iteF ?_
      have hx3 := tb3.tk _ _ hx2
      refine ⟨_, rfl, _, rfl, tR, hp, hg, heR, Ps, G, outN pr x.2.name, _, rfl, hoR3, okF, S3.tg, .inr ⟨x, rfl, hx3, (ok.f x mx).1, (ok.f x mx).2, fun ⟨y, my, e⟩ => absurd e (outN_mem.mp my).2, fun _ ge => absurd ge (by omega), fun _ _ t4 he4 H4 tb4 ho4 => ?_⟩⟩
      rw [outN_back so ok.nd mx] at ho4
      have S4 := S3.tb nPt tb4
      have ho4' := (ho2.on tb3.tk).on tb4.tk
      have hoR4 := hoR3.on tb4.tk
      have hx4 := tb4.tk _ _ hx3
      refine ⟨t4, _, rfl, ho4.dp, shP.sh, shP.nd, Nat.le_trans shP.dp (by decide), shP.fits (by decide), _, rfl, h, _, rfl, ho4'.dp, shP.sh, shP.nd, Nat.le_trans shP.dp (by decide), shP.fits (by decide), rfl, _, rfl, ?_⟩
      rw [decide_eq_true rfl]
      refine iteF ?_
      clear S3 hoR3 hx3 ho3 ho4 hoR ho2 hx2 S2
      refine ⟨fun σ H' => ∃ t5, σ = [some (.ref h), some (.ref x.1), some (.str x.2.name), some (.ref tR), none, some (.ref t5), none, none] ∧ Sl7 Ts Pt q2Lam H H' ∧ TK H4 H' ∧
        ((x.2.word ≠ "move" ∧ H' t5 = some (.lst [.str "refused", .str "NoMove"])) ∨ (x.2.word = "move" ∧ ∃ (t6 he6 b : Addr), H' t5 = some (.lst [.str "told", .ref t6]) ∧ Ho7 H' t6 hp hg he6 Ps G (swN pr x.2.name (b, turnE x.2)))), ?_, ?_⟩
      · refine ⟨S4.tl, fun G1 D W hv => ?_⟩
        have SL := S4.lam nPt D
        have kL := lam_kp S4.tl D
        refine ⟨_, rfl, _, rfl, h, hp, hg, he, Ps, G, pr, _, rfl, ho4'.on (tk_of kL), ok, SL.tg, tng_str (name_ok nmx), .inl ⟨x, mx, rfl, fun nm H' tb => ⟨.move, rfl, rfl, fun t5 H5 s5 h5 => ?_⟩, fun mv t6 he6 b H' tb ho6 => hv _ _ fun t5 H5 s5 h5 => ?_⟩⟩
        · exact ⟨t5, rfl, (SL.tb nPt tb).same s5, fun a xs e => s5 _ _ (tb.tk _ _ (tk_of kL _ _ e)), .inl ⟨nm, h5⟩⟩
        · exact ⟨t5, rfl, (SL.tb nPt tb).same s5, fun a xs e => s5 _ _ (tb.tk _ _ (tk_of kL _ _ e)), .inr ⟨mv, t6, he6, b, h5, ho6.on (TK.of s5)⟩⟩
      · rintro σ H5 ⟨t5, rfl, S5, k5, out⟩
        have hx5 := k5 _ _ hx4
        have ho5 := ho4'.on k5
        have hoR5 := hoR4.on k5
        rcases out with ⟨nm, h5⟩ | ⟨mv, t6, he6, b, h5, ho6⟩
        · refine ⟨_, rfl, x.1, _, 0, _, rfl, rfl, SqT.of hx5, at0 x.2, rfl, _, rfl, ?_⟩
          rw [decide_eq_false (show ¬ V.str x.2.word = V.str "move" from fun e => nm (V.str.inj e))]
          refine iteT ⟨_, rfl, (by show 2 ≤ sizeLine; decide), fun L nL => ?_⟩
          have s6 := @same_new _ _ (.lst [V.str "refused", .str "NoMove"]) nL
          have shd := data_two_sh (w := "refused") (z := "NoMove") (by decide +kernel) (by decide +kernel)
          refine ⟨_, _, data_two (s6 _ _ h5), data_two upd_same, shd, shd, ?_⟩
          rw [SeqAt.eqv_refl _ (SeqAt.canLay_of_shaped shd)]
          exact q _ (S5.same s6)
        · refine ⟨_, rfl, x.1, _, 0, _, rfl, rfl, SqT.of hx5, at0 x.2, rfl, _, rfl, ?_⟩
          rw [decide_eq_true (congrArg V.str mv)]
          refine iteF ?_
          obtain ⟨nm, mo, gd, o, t, k, ex⟩ := mv_ent mv
          have at5 : atI x.2.vals (5 : Int) = some (.str t) := by rw [ex]; rfl
          have at4 : atI x.2.vals (4 : Int) = some (.str o) := by rw [ex]; rfl
          have at6 : atI x.2.vals (6 : Int) = some (.int k) := by rw [ex]; rfl
          refine ⟨_, rfl, 4, rfl, x.1, _, rfl, hx5, fun t7 H7 s7 h7 => ?_⟩
          have hx7 := s7 _ _ hx5
          refine ⟨_, rfl, x.1, _, 5, _, rfl, rfl, SqT.of hx7, at5, _, rfl, x.1, _, 4, _, rfl, rfl, SqT.of hx7, at4, _, rfl, x.1, _, 6, _, rfl, rfl, SqT.of hx7, at6, (by show 3 ≤ sizeLine; decide), fun t8 n8 => ?_⟩
          have s8 := @same_new _ _ (.tup [V.str t, .str o, .int k]) n8
          have e8 := @upd_same H7 t8 (.tup [V.str t, .str o, .int k])
          generalize upd H7 t8 (.tup [V.str t, .str o, .int k]) = H8 at s8 e8 ⊢
          refine ⟨t7, t8, _, _, rfl, rfl, s8 _ _ h7, e8, (by
            have := cutV_length x.2.vals none (some (4 : Int))
            have := vals_len_e x.2
            simp only [List.length_cons, List.length_nil]
            omega), fun tb H9 s9 e9 => ?_⟩
          have hb : H9 tb = some (.tup (turnE x.2).vals) := by
            rw [e9]
            have c1 : cutV x.2.vals none (some (4 : Int)) = x.2.vals.take 4 := cut_head (k := 4)
            rw [c1, ex]
            rfl
          have s79 := s7.trans (s8.trans s9)
          have ho9 := ho5.on (TK.of s79)
          have hoR9 := hoR5.on (TK.of s79)
          refine ⟨_, rfl, _, rfl, tR, _, 2, _, rfl, rfl, SqT.of hoR9.h0, atI_nat (j := 2) rfl, _, rfl, (by show 1 ≤ sizeLine; decide), fun T1 nT1 => ?_⟩
          have s10 := @same_new _ _ (.tup [V.ref tb]) nT1
          have e10 := @upd_same H9 T1 (.tup [V.ref tb])
          generalize upd H9 T1 (.tup [V.ref tb]) = H10 at s10 e10 ⊢
          refine ⟨heR, T1, _, _, rfl, rfl, s10 _ _ hoR9.h3, e10, by rw [List.length_map]; exact (show (outN pr x.2.name).length + 1 ≤ 30 by omega), fun T2 H11 s11 e11 => ?_⟩
          have s711 := s79.trans (s10.trans s11)
          have ho11 := ho5.on (TK.of s711)
          have hoR11 := hoR5.on (TK.of s711)
          have hb11 := s11 _ _ (s10 _ _ hb)
          generalize hDl : sortE (outN pr x.2.name ++ [(tb, turnE x.2)]) = Dl
          have memD : ∀ y, y ∈ Dl ↔ y ∈ outN pr x.2.name ∨ y = (tb, turnE x.2) := fun y => by
            rw [← hDl, (sortE_p _).mem_iff, List.mem_append, List.mem_singleton]
          have ndA : ((outN pr x.2.name ++ [(tb, turnE x.2)]).map fun y => y.2.name).Nodup := by
            rw [List.map_append]
            refine List.nodup_append.mpr ⟨outN_names ok.nd, List.nodup_cons.mpr ⟨fun z => (nomatch z), .nil⟩, fun a ha b hb z => ?_⟩
            obtain ⟨y, hy, rfl⟩ := List.mem_map.mp ha
            rw [List.mem_singleton.mp hb] at z
            exact (outN_mem.mp hy).2 (z.trans (turnE_name _))
          have pD : Dl.Perm (outN pr x.2.name ++ [(tb, turnE x.2)]) := by rw [← hDl]; exact sortE_p _
          have ndD : (Dl.map fun y => y.2.name).Nodup := (pD.map _).nodup_iff.mpr ndA
          have soD : sortE Dl = Dl := by rw [← hDl]; exact sortE_idem _
          have fT : (turnE x.2).Fine ∧ ofB (turnE x.2) Ps G = true := turn_ok (ok.f x mx).1 (ok.f x mx).2
          have okD : Ok7 Ps G Dl := ok.sub ndD (by rw [pD.length_eq, List.length_append]; exact (show (outN pr x.2.name).length + 1 ≤ 31 by omega)) fun y hy => by
            rcases (memD y).mp hy with h | rfl
            · exact okF.f y h
            · exact fT
          refine ⟨h, hp, hg, T2, [.ref he], outN pr x.2.name ++ [(tb, turnE x.2)], rfl, ho11.h0, .inr (by rw [e11, List.map_append]; rfl), fun y hy => ?_, fun tD heD H12 s12 e12 e13 => ?_⟩
          · rcases List.mem_append.mp hy with hy | hy
            · exact hoR11.e y hy
            · rw [List.mem_singleton.mp hy]
              exact hb11
          · rw [hDl] at e13
            have s712 := s711.trans s12
            have ho12 := ho5.on (TK.of s712)
            have hoR12 := hoR5.on (TK.of s712)
            have hoD : Ho7 H12 tD hp hg heD Ps G Dl := ⟨e12, ho12.h1, ho12.h2, e13, fun y hy => by
              rcases (memD y).mp hy with h | rfl
              · exact hoR12.e y h
              · exact s12 _ _ hb11⟩
            have ho612 := ho6.on (TK.of s712)
            have h512 := s712 _ _ h5
            have eqD : (swN pr x.2.name (b, turnE x.2)).map (·.2) = Dl.map (·.2) := by
              rw [swN_ents so ok.nd mx (turnE_ord _) (turnE_name _), ← hDl, sortE_map, List.map_append]
              rfl
            have S12 := S5.same s712
            have dp6 : Dp K H12 (.ref t6) (houseD Ps G (Dl.map (·.2))) := eqD ▸ ho612.dp
            have shD : Short (houseD Ps G (Dl.map (·.2))) 10000 3 := short_ok ok (fun y hy => (okD.f y hy).1) (by have := okD.le; omega)
            have sh : Short (.list [.str "told", houseD Ps G (Dl.map (·.2))]) 21000 4 := short_lst (n := 10000) (k := 3) (fun d hd => by
              simp only [List.mem_cons, List.not_mem_nil, or_false] at hd
              rcases hd with rfl | rfl
              · exact Short.mono (short_str (.inl (by decide +kernel))) (by decide) (by decide)
              · exact shD) (by show 2 * 10001 ≤ 21000; decide)
            refine ⟨_, rfl, t5, _, rfl, .lst (SqL.of h512) (.cons (.str _) (.cons dp6 .nil)), sh.sh, sh.nd, Nat.le_trans sh.dp (by decide), sh.fits (by decide), ?_⟩
            refine ⟨_, rfl, (by show 2 ≤ sizeLine; decide), fun L nL => ?_⟩
            have s13 := @same_new _ _ (.lst [V.str "told", .ref tD]) nL
            have e14 := @upd_same H12 L (.lst [V.str "told", .ref tD])
            generalize upd H12 L (.lst [V.str "told", .ref tD]) = H13 at s13 e14 ⊢
            have hoD13 := hoD.on (TK.of s13)
            have ho13 := ho12.on (TK.of s13)
            have S13 := S12.same s13
            refine ⟨L, _, rfl, .lst (SqL.of e14) (.cons (.str _) (.cons hoD13.dp .nil)), sh.sh, sh.nd, Nat.le_trans sh.dp (by decide), sh.fits (by decide), rfl, _, rfl, ?_⟩
            rw [decide_eq_true rfl]
            refine iteT ?_
            have mD : (tb, turnE x.2) ∈ Dl := (memD _).mpr (.inr rfl)
            refine ⟨_, rfl, _, rfl, tD, hp, hg, heD, Ps, G, Dl, _, rfl, hoD13, okD, S13.tg, tng_str (name_ok nmx), .inl ⟨(tb, turnE x.2), mD, congrArg V.str (turnE_name _).symm, fun ne => absurd (show (turnE x.2).word = "move" by rw [ex]; rfl) ne, fun _ t9 he9 b9 H14 tb14 ho14 => ?_⟩⟩
            have ho14' := ho13.on tb14.tk
            replace ho14 : Ho7 H14 t9 hp hg he9 Ps G (swN Dl (tb, turnE x.2).2.name (b9, turnE (turnE x.2))) := ho14
            have eqE : (swN Dl (tb, turnE x.2).2.name (b9, turnE (turnE x.2))).map (·.2) = pr.map (·.2) := by
              rw [swN_ents soD ndD mD (turnE_ord _) (turnE_name _)]
              show sortEnt ((outN Dl (turnE x.2).name).map (·.2) ++ [turnE (turnE x.2)]) = _
              rw [turnE_twice, turnE_name]
              conv => rhs; rw [← so, sortE_map]
              have pF : (outN Dl x.2.name).Perm (outN pr x.2.name) := by
                have := pD.filter fun y => decide (y.2.name ≠ x.2.name)
                rw [List.filter_append, List.filter_cons_of_neg (by simp [turnE_name]), List.filter_nil, List.append_nil] at this
                refine this.trans ?_
                unfold outN
                rw [List.filter_filter]
                simp
              refine sortEnt_perm ?_ ?_
              · have p1 := (pF.map (·.2)).append_right [x.2]
                refine p1.trans ?_
                have p2 := (outN_perm ok.nd mx).map (·.2)
                rw [List.map_append] at p2
                exact p2
              · have p1 := ((pF.append_right [x]).trans (outN_perm ok.nd mx)).map fun y => y.2.name
                have := p1.nodup_iff.mpr ok.nd
                rw [List.map_append] at this ⊢
                rw [List.map_map]
                exact this
            have dp14 : Dp K H14 (.ref t9) (houseD Ps G (pr.map (·.2))) := eqE ▸ ho14.dp
            refine ⟨t9, _, rfl, dp14, shP.sh, shP.nd, Nat.le_trans shP.dp (by decide), shP.fits (by decide), _, rfl, h, _, rfl, ho14'.dp, shP.sh, shP.nd, Nat.le_trans shP.dp (by decide), shP.fits (by decide), rfl, ?_⟩
            rw [decide_eq_true rfl]
            exact q _ (S13.tb nPt tb14)
end
/-! ### what is no name of an entry -/
abbrev q3Lam : Str := (("_law_no_name" : Str) ++ ".<locals>.") ++ "<lambda>"
def spNoNm (K : PySem.W.Frag) (Ts : List Addr) (Pt : Addr) : Sp := fun vs H Q _ => ∃ (h hp hg he : Addr) (P G : List Str) (pr : List (Addr × Ent)) (v : V), vs = [.ref h, v] ∧ Ho7 H h hp hg he P G pr ∧ Ok7 P G pr ∧ EqT.Tng K H v ∧ (∀ x ∈ pr, v ≠ .str x.2.name) ∧ TabsG Ts H ∧ LamX.TabS H Pt q3Lam ∧
  ∀ H', Sl7 Ts Pt q3Lam H H' → Q (.bl true) H'
mutual
theorem Dp.keep {K : PySem.W.Frag} {H H' : Hp} (k : ∀ a o, H a = some o → (∀ ps, o ≠ .tbl ps) → H' a = some o) : ∀ {v : V} {d : PyData}, Dp K H v d → Dp K H' v d
  | _, _, .non => .non
  | _, _, .bl b => .bl b
  | _, _, .int i => .int i
  | _, _, .str z => .str z
  | _, _, .lst h a => .lst (SqL.keep k h) (DpAll.keep k a)
  | _, _, .tup h a => .tup (SqT.keep k h) (DpAll.keep k a)
theorem DpAll.keep {K : PySem.W.Frag} {H H' : Hp} (k : ∀ a o, H a = some o → (∀ ps, o ≠ .tbl ps) → H' a = some o) : ∀ {vs : List V} {ds : List PyData}, DpAll K H vs ds → DpAll K H' vs ds
  | _, _, .nil => .nil
  | _, _, .cons h t => .cons (Dp.keep k h) (DpAll.keep k t)
end
theorem tng_kept {K : PySem.W.Frag} {H H' : Hp} (k : ∀ a o, H a = some o → (∀ ps, o ≠ .tbl ps) → H' a = some o) {v : V} (h : EqT.Tng K H v) : EqT.Tng K H' v := by
  rcases h with ⟨d, hd, sh⟩ | ⟨a, kvs, rfl, ha⟩
  · exact .inl ⟨d, Dp.keep k hd, sh⟩
  · exact .inr ⟨a, kvs, rfl, k _ _ ha fun ps z => nomatch z⟩
section
variable {P : Program} {w : World} {K : PySem.W.Frag} {mg : Str → Option Value} {base : Heap}
abbrev sNoNameN : List Str := ["_law_house", "_law_name", "_law_due"]
theorem sc_sNoName : FnScope sNoNameN ["_law_house", "_law_name"] (defScope sNoName) := ⟨rfl, rfl, rfl, by decide +kernel, rfl, by decide +kernel, by decide +kernel⟩
set_option maxHeartbeats 4000000 in
theorem ok_noName {f cR Pt fA fC fI fO fN : Addr} {dC dI dO dN : FuncData} {Ts : List Addr} {A : Rc7} {O : Oc7} {CE : Addr} {oc kV doc pm ct oc' kV' doc' pm' cdv' ct' : Value} {od an od' an' : Option Addr} {osl osl' : Array (Option Value)}
    (lk : K.lookup f = some ⟨oc, od, .func (PySem.W.fnOf "_law_no_name" "_law_no_name" (defArgs sNoName) (defBody sNoName) (defScope sNoName) .none kV doc pm an (.ref cR) ct), osl⟩) (cdI : PySem.W.codeIn K (.ref cR) "_law_no_name" = true)
    (TBL : LamX.TabB base mg cR Pt) (nPt : Pt ∉ Ts) (LT : ToldD P w K mg base A O CE fA fC dC oc' kV' doc' pm' cdv' ct' od' an' osl')
    (CA : DefX P w K mg base "entry_called" 1 fN dN ["house", "name"] (spCalled7 K A.nn)) (WO : DefX P w K mg base "without_entry" 2 fO dO ["house", "name"] (spWithout K Ts A.nn)) (WT : DefX P w K mg base "with_turned" 2 fI dI ["house", "name"] (spTurned K Ts A.nn A.nm)) :
    FnOk P w K mg base CX0 9 f (PySem.W.fnOf "_law_no_name" "_law_no_name" (defArgs sNoName) (defBody sNoName) (defScope sNoName) .none kV doc pm an (.ref cR) ct) ["_law_house", "_law_name"] (spNoNm K Ts Pt) := by
  refine fn_of lk cdI sc_sNoName (fun vs H Q E h => ?_) (fun A' outer s H vs Q E hr h => ?_)
  · obtain ⟨h, hp, hg, he, Ps, G, pr, v, rfl, _⟩ := h
    rfl
  · obtain ⟨h, hp, hg, he, Ps, G, pr, v, rfl, ho, ok, tn, no, tg, tl, q⟩ := h
    have nd := sc_sNoName.nd
    refine ⟨_, pss_cons (ps_set (i := 2) nd rfl (Or.inl rfl) (pe_lst (pa_cons pe_str (pa_cons pe_str pa_nil))))
      (pss_cons (ps_if (pt_cmpR (op_neD hr.units) (pe_capcallR (k := 6) (t := fun E2 => tCallS (spCalled7 K A.nn) (fun _ => E2) (tCons (tVar 0) (tCons (tVar 1) tNil)))  (by rfl) LT.g LT.kp LT.lk LT.cd LT.b sc_sLTold rfl (.inl rfl) (told_gives LT.G LT.D LT.CL) TBL rfl hr (LamX.lamS_by (sc := defScope sNoName) (by decide +kernel)) rfl (by intros; rfl) (fun A2 outer2 z2 G2 E2 f2 cc2 hrL => (pe_callS CA.ok (hrL.mono (by decide)) (by rfl) CA.g CA.kp CA.b (fun σ => passAt (takes_of rfl rfl rfl rfl) σ) (pa_cons (pv 0) (pa_cons (pv 1) pa_nil))))) (pv 2) (nomark _)) (pss_one (ps_ret pe_bl)) pss_nil)
      (pss_cons (ps_if (pt_cmpR (op_neD hr.units) (pe_capcallR (k := 6) (t := fun E2 => tCallS (spWithout K Ts A.nn) (fun _ => E2) (tCons (tVar 0) (tCons (tVar 1) tNil)))  (by rfl) LT.g LT.kp LT.lk LT.cd LT.b sc_sLTold rfl (.inl rfl) (told_gives LT.G LT.D LT.CL) TBL rfl hr (LamX.lamS_by (sc := defScope sNoName) (by decide +kernel)) rfl (by intros; rfl) (fun A2 outer2 z2 G2 E2 f2 cc2 hrL => (pe_callS WO.ok (hrL.mono (by decide)) (by rfl) WO.g WO.kp WO.b (fun σ => passAt (takes_of rfl rfl rfl rfl) σ) (pa_cons (pv 0) (pa_cons (pv 1) pa_nil))))) (pv 2) (nomark _)) (pss_one (ps_ret pe_bl)) pss_nil)
      (pss_one (ps_ret (pe_cmpR (op_eqD hr.units) (pe_capcallR (k := 6) (t := fun E2 => tCallS (spTurned K Ts A.nn A.nm) (fun _ => E2) (tCons (tVar 0) (tCons (tVar 1) tNil)))  (by rfl) LT.g LT.kp LT.lk LT.cd LT.b sc_sLTold rfl (.inl rfl) (told_gives LT.G LT.D LT.CL) TBL rfl hr (LamX.lamS_by (sc := defScope sNoName) (by decide +kernel)) rfl (by intros; rfl) (fun A2 outer2 z2 G2 E2 f2 cc2 hrL => (pe_callS WT.ok (hrL.mono (by decide)) (by rfl) WT.g WT.kp WT.b (fun σ => passAt (takes_of rfl rfl rfl rfl) σ) (pa_cons (pv 0) (pa_cons (pv 1) pa_nil))))) (pv 2) (nomark _)))))), ?_⟩
    refine ⟨(by show 2 ≤ sizeLine; decide), fun L nL => ?_⟩
    have s1 := @same_new _ _ (.lst [V.str "refused", .str "NoName"]) nL
    have e1 := @upd_same H L (.lst [V.str "refused", .str "NoName"])
    generalize upd H L (.lst [V.str "refused", .str "NoName"]) = H1 at s1 e1 ⊢
    have S1 := (Sl7.init tg tl).same s1
    have shd := data_two_sh (w := "refused") (z := "NoName") (by decide +kernel) (by decide +kernel)
    refine ⟨S1.tl, fun G1 D1 W hv => ?_⟩
    have SL1 := S1.lam nPt D1
    refine ⟨_, rfl, _, rfl, h, hp, hg, he, Ps, G, pr, v, rfl, ho.on SL1.tk, ok, tng_kept SL1.st.kp tn, .inr ⟨no, .name, rfl, rfl, fun t2 H2 s2 h2 => ?_⟩⟩
    have S2 := SL1.same s2
    have e2 := s2 _ _ (lam_kp S1.tl D1 _ _ e1 fun ps z => nomatch z)
    replace h2 : H2 t2 = some (.lst [.str "refused", .str "NoName"]) := h2
    refine ⟨_, rfl, _, _, data_two h2, data_two e2, shd, shd, ?_⟩
    rw [SeqAt.eqv_refl _ (SeqAt.canLay_of_shaped shd)]
    refine ⟨_, rfl, iteF ?_⟩
    refine ⟨S2.tl, fun G3 D3 W hv => ?_⟩
    have SL3 := S2.lam nPt D3
    refine ⟨_, rfl, _, rfl, h, hp, hg, he, Ps, G, pr, v, rfl, ho.on SL3.tk, ok, SL3.tg, tng_kept SL3.st.kp tn, .inr ⟨no, fun H' tb => ⟨.name, rfl, rfl, fun t4 H4 s4 h4 => ?_⟩⟩⟩
    have S4 := (SL3.tb nPt tb).same s4
    have e4 := s4 _ _ (tb.2 _ _ (lam_kp S2.tl D3 _ _ e2 fun ps z => nomatch z) fun ps z => nomatch z)
    replace h4 : H4 t4 = some (.lst [.str "refused", .str "NoName"]) := h4
    refine ⟨_, rfl, _, _, data_two h4, data_two e4, shd, shd, ?_⟩
    rw [SeqAt.eqv_refl _ (SeqAt.canLay_of_shaped shd)]
    refine ⟨_, rfl, iteF ?_⟩
    refine ⟨S4.tl, fun G5 D5 W hv => ?_⟩
    have SL5 := S4.lam nPt D5
    refine ⟨_, rfl, _, rfl, h, hp, hg, he, Ps, G, pr, v, rfl, ho.on SL5.tk, ok, SL5.tg, tng_kept SL5.st.kp tn, .inr ⟨no, fun H' tb => ⟨.name, rfl, rfl, fun t6 H6 s6 h6 => ?_⟩⟩⟩
    have S6 := (SL5.tb nPt tb).same s6
    have e6 := s6 _ _ (tb.2 _ _ (lam_kp S4.tl D5 _ _ e4 fun ps z => nomatch z) fun ps z => nomatch z)
    replace h6 : H6 t6 = some (.lst [.str "refused", .str "NoName"]) := h6
    refine ⟨_, rfl, _, _, data_two h6, data_two e6, shd, shd, ?_⟩
    rw [SeqAt.eqv_refl _ (SeqAt.canLay_of_shaped shd)]
    exact q _ S6
end
/-! ### the law -/
theorem ofB_congr {e : Ent} {P P' G G' : List Str} (h1 : ∀ y, y ∈ P ↔ y ∈ P') (h2 : ∀ y, y ∈ G ↔ y ∈ G') : ofB e P G = ofB e P' G' := by
  have e1 : (fun y => decide (y ∈ P)) = fun y => decide (y ∈ P') := funext fun y => decide_eq_decide.mpr (h1 y)
  have e2 : goodOk e G = goodOk e G' := by
    unfold goodOk
    cases e.goodV with
    | str g => exact decide_eq_decide.mpr (h2 g)
    | _ => rfl
  unfold ofB
  rw [e1, e2]
theorem of_from {e : Ent} {P G HL : List Str} (h : e.From P G HL) : ofB e P G = true := by
  unfold ofB goodOk
  cases e with
  | come n m g p k r => simp [Ent.goodV, Ent.places, h.1, h.2.1]
  | go n m g p k => simp [Ent.goodV, Ent.places, h.1, h.2.1]
  | move n m g o t k => simp [Ent.goodV, Ent.places, h.1, h.2.1, h.2.2.1]
  | some_ n m g o t =>
    by_cases z : t = ""
    · simp [Ent.goodV, Ent.places, h.1, h.2.1, z]
    · simp [Ent.goodV, Ent.places, h.1, h.2.1, z, ((h.2.2).resolve_left z).1]
  | swap n m o t => simp [Ent.goodV, Ent.places, h.1, h.2.1]
  | count n m g p k hd => simp [Ent.goodV, Ent.places, h.1, h.2.1]
  | look n m g p => simp [Ent.goodV, Ent.places, h.1, h.2]
theorem not_in_take {ys : List Str} {j k : Nat} {y : Str} (nd : ys.Nodup) (h : ys[j]? = some y) (le : k ≤ j) : y ∉ ys.take k := fun m => by
  obtain ⟨i, hi⟩ := List.mem_iff_getElem?.mp m
  have li := (List.getElem?_eq_some_iff.mp hi).1
  rw [List.length_take] at li
  rw [List.getElem?_take_of_lt (by omega)] at hi
  have : i = j := (List.getElem?_inj (by omega) nd).mp (hi.trans h.symm)
  omega
theorem tabs_upL {H : Hp} {Ts : List Addr} {l : Addr} {xs : List V} {o : HO} (t : TabsG Ts H) (e : H l = some (.lst xs)) : TabsG Ts (upd H l o) := fun T hT => by
  obtain ⟨ps, e1, ok⟩ := t T hT
  exact ⟨ps, (upd_ne (ne_of e1 e (by intro z; cases z))).trans e1, ok⟩
theorem St7.ch {Ts : List Addr} {p : Addr} {H H' : Hp} (t : St7 Ts H H') : Ch7 Ts p H H' := ⟨fun a o e n _ => t.kp a o e n, fun a o e n _ => t.oth a o e n, t.tg⟩
theorem ch12kp (H1 H12 : Hp) (p : Addr) (Ts : List Addr) (ch : Ch7 Ts p H1 H12) (D : Addr) (o : HO) (e : H1 D = some o) (n : D ≠ p) : H12 D ≠ none := by
  by_cases t : ∃ ps, o = .tbl ps
  · by_cases m : D ∈ Ts
    · obtain ⟨ps, e', _⟩ := ch.tg D m
      rw [e']
      exact fun z => nomatch z
    · rw [ch.oth D o e m n]
      exact fun z => nomatch z
  · rw [ch.kp D o e (fun ps z => t ⟨ps, z⟩) n]
    exact fun z => nomatch z
/-- all that holds all along -/
structure LI7 (H : Hp) (p c : Addr) (n : Nat) (Ts : List Addr) (A1 A2 A3 h hp hg he fa ls D l4 : Addr) (P G : List Str) (pr : List (Addr × Ent)) (f0 : Ent) (far kind : Str) (us : List V) (EL : List Str) : Prop where
  pen : PenAt H p c n
  tg : TabsG Ts H
  t1 : LamX.TabS H A1 q1Lam
  t2 : LamX.TabS H A2 q2Lam
  t3 : LamX.TabS H A3 q3Lam
  ho : Ho7 H h hp hg he P G pr
  hf : H fa = some (.tup f0.vals)
  hls : H ls = some (.tup [.str far, .str kind])
  hD : H D = some (.lst us)
  hn : StrsAt H l4 EL
section
variable {H H' : Hp} {p c : Addr} {n m : Nat} {Ts : List Addr} {A1 A2 A3 h hp hg he fa ls D l4 : Addr} {P G : List Str} {pr : List (Addr × Ent)} {f0 : Ent} {far kind : Str} {us : List V} {EL : List Str}
theorem LI7.go {Pt : Addr} (i : LI7 H p c n Ts A1 A2 A3 h hp hg he fa ls D l4 P G pr f0 far kind us EL) (t : Ch7 (Pt :: Ts) p H H') (pen : PenAt H' p c m) (t1 : LamX.TabS H' A1 q1Lam) (t2 : LamX.TabS H' A2 q2Lam) (t3 : LamX.TabS H' A3 q3Lam) : LI7 H' p c m Ts A1 A2 A3 h hp hg he fa ls D l4 P G pr f0 far kind us EL :=
  ⟨pen, t.tg.tl, t1, t2, t3, i.ho.on (t.tup i.pen), t.tup i.pen _ _ i.hf, t.tup i.pen _ _ i.hls, t.lst i.pen i.hD, t.lst i.pen i.hn⟩
theorem LI7.same (i : LI7 H p c n Ts A1 A2 A3 h hp hg he fa ls D l4 P G pr f0 far kind us EL) (s : Same H H') : LI7 H' p c n Ts A1 A2 A3 h hp hg he fa ls D l4 P G pr f0 far kind us EL :=
  ⟨i.pen.same s, tabs_sm s i.tg, LamX.TabS.ext i.t1 fun b o e => s b o e, LamX.TabS.ext i.t2 fun b o e => s b o e, LamX.TabS.ext i.t3 fun b o e => s b o e, i.ho.on (TK.of s), s _ _ i.hf, s _ _ i.hls, s _ _ i.hD, s _ _ i.hn⟩
theorem LI7.mono (i : LI7 H p c n Ts A1 A2 A3 h hp hg he fa ls D l4 P G pr f0 far kind us EL) (q : n ≤ m) : LI7 H p c m Ts A1 A2 A3 h hp hg he fa ls D l4 P G pr f0 far kind us EL := ⟨i.pen.mono q, i.tg, i.t1, i.t2, i.t3, i.ho, i.hf, i.hls, i.hD, i.hn⟩
end
def spLaw (K : PySem.W.Frag) (Ts : List Addr) (A1 A2 A3 : Addr) : Sp := fun vs H Q _ => ∃ (a : Addr) (ns : List Int), vs = [.ref a] ∧ SqL K H a (ns.map V.int) ∧ TabsG Ts H ∧ LamX.TabS H A1 q1Lam ∧ LamX.TabS H A2 q2Lam ∧ LamX.TabS H A3 q3Lam ∧ ∀ H', Q (.bl true) H'
section
variable {P : Program} {w : World} {K : PySem.W.Frag} {mg : Str → Option Value} {base : Heap}
abbrev sLawN : List Str := ["_law_script", "_law_pen_here", "_law_many_here", "_law_places", "_law_goods", "_law_hands", "_law_names_here", "_law_strange", "_law_moments_here", "_law_entries", "_law_k", "_law_house", "_law_kept", "_law_turn", "_law_entry_here", "_law_name"]
theorem sc_sLaw : FnScope sLawN ["_law_script"] (defScope sLaw) := ⟨rfl, rfl, rfl, by decide +kernel, rfl, by decide +kernel, by decide +kernel⟩
set_option maxHeartbeats 8000000 in
theorem ok_law {f : Addr} {fd : FuncData} (F : Fun K "law" "law" sLaw f fd) {Ts : List Addr} {A1 A2 A3 : Addr}
    {fP fT fW fM fE fS fR fL fN : Addr} {dP dT dW dM dE dS dR dL dN : FuncData} (n1 : A1 ∉ Ts) (n2 : A2 ∉ Ts) (n3 : A3 ∉ Ts) (n12 : A1 ≠ A2) (n13 : A1 ≠ A3) (n23 : A2 ≠ A3)
    (GP : DefT P w K mg base "_law_pen" 1 fP dP ["_law_script"] (spPen K)) (T : TakeT P w K mg base fT dT)
    (W : DefT P w K mg base "_law_words" 3 fW dW ["_law_pen_here", "_law_places", "_law_goods", "_law_entries"] spWords)
    (M : DefT P w K mg base "_law_moments" 2 fM dM ["_law_pen_here", "_law_many_here"] spMoments)
    (EN : DefT P w K mg base "_law_entry" 4 fE dE ["_law_pen_here", "_law_name", "_law_moment", "_law_places", "_law_goods", "_law_hands"] spEntry)
    (LS : DefT P w K mg base "_law_sorted" 4 fS dS ["_law_house", "_law_entries"] spSorted)
    (PR : DefG P w K mg base "_law_put_right" 9 fR dR ["_law_pen_here", "_law_house", "_law_fresh", "_law_strange"] (spPutR Ts A1))
    (LR : DefG P w K mg base "_law_left_right" 9 fL dL ["_law_house", "_law_entry_here"] (spLeftR Ts A2))
    (NN : DefT P w K mg base "_law_no_name" 9 fN dN ["_law_house", "_law_name"] (spNoNm K Ts A3))
    (mr : mg "range" = none) (mt : mg "tuple" = none) (ms : mg "sorted" = none) (mp : mg "repr" = none) : FnG P w K mg base 10 f fd ["_law_script"] (spLaw K Ts A1 A2 A3) := by
  refine Fun.okG F sc_sLaw (fun vs H Q E h => ?_) (fun cdv A outer s H vs Q E hG hr h => ?_)
  · obtain ⟨a, ns, rfl, _⟩ := h
    rfl
  · obtain ⟨a, ns, rfl, hS, tg0, tl1, tl2, tl3, q⟩ := h
    have nd := sc_sLaw.nd
    have hr1 : Room 1 _ := hr.mono (by decide)
    have hr2 : Room 2 _ := hr.mono (by decide)
    have hr3 : Room 3 _ := hr.mono (by decide)
    have hr4 : Room 4 _ := hr.mono (by decide)
    refine ⟨_, pss_cons (ps_set (i := 1) nd rfl (Or.inr rfl) (pe_call GP.ok hr1 (by rfl) GP.g GP.kp GP.b .nil pass0 (pa_cons (pv 0) pa_nil)))
      (pss_cons (ps_set (i := 2) nd rfl (Or.inl rfl) (pe_ix ix_list (pe_lst (pa_cons pe_int (pa_cons pe_int (pa_cons (pe_call T.ok hr1 (by rfl) T.g T.kp T.b .nil pass0 (pa_cons (pv 1) (pa_cons pe_int pa_nil))) (pa_cons (pe_op op_add pe_int (pe_call T.ok hr1 (by rfl) T.g T.kp T.b .nil pass0 (pa_cons (pv 1) (pa_cons pe_int pa_nil)))) pa_nil))))) (pe_call T.ok hr1 (by rfl) T.g T.kp T.b .nil pass0 (pa_cons (pv 1) (pa_cons pe_int pa_nil))) (fun _ _ => rfl)))
      (pss_cons (ps_asg (pe_call W.ok hr3 (by rfl) W.g W.kp W.b .nil pass0 (pa_cons (pv 1) (pa_cons pe_int (pa_cons pe_int (pa_cons pe_int pa_nil))))) (pg_tup (by rfl) (pgs_cons (pg_name (i := 3) nd rfl (Or.inr rfl)) (pgs_cons (pg_name (i := 4) nd rfl (Or.inr rfl)) (pgs_cons (pg_name (i := 5) nd rfl (Or.inr rfl)) (pgs_cons (pg_name (i := 6) nd rfl (Or.inr rfl)) pgs_nil))))))
      (pss_cons (ps_set (i := 7) nd rfl (Or.inl rfl) (pe_tup (pa_cons (pe_ix ix_list (pv 3) pe_int (fun _ _ => rfl)) (pa_cons (pe_ix ix_list (pv 4) pe_int (fun _ _ => rfl)) pa_nil))))
      (pss_cons (ps_set (i := 3) nd rfl (Or.inr rfl) (pe_slice sl_list (pv 3) po_none (po_some (pe_op op_add pe_int (pe_call T.ok hr1 (by rfl) T.g T.kp T.b .nil pass0 (pa_cons (pv 1) (pa_cons pe_int pa_nil)))))))
      (pss_cons (ps_set (i := 4) nd rfl (Or.inr rfl) (pe_slice sl_list (pv 4) po_none (po_some (pe_op op_add pe_int (pe_call T.ok hr1 (by rfl) T.g T.kp T.b .nil pass0 (pa_cons (pv 1) (pa_cons pe_int pa_nil)))))))
      (pss_cons (ps_set (i := 8) nd rfl (Or.inr rfl) (pe_call M.ok hr2 (by rfl) M.g M.kp M.b .nil pass0 (pa_cons (pv 1) (pa_cons pe_int pa_nil))))
      (pss_cons (ps_setLc (i := 9) (own := [("_law_k", 10)]) (g := gName 10) (tt := tYes) (te := tCall spEntry [] E0 (tCons (tVar 1) (tCons (tOp (rIxL K) (tVar 6) (tVar 10)) (tCons (tOp (rIxL K) (tVar 8) (tVar 10)) (tCons (tVar 3) (tCons (tVar 4) (tCons (tVar 5) tNil))))))) rfl nd rfl rfl (sw_true rfl rfl rfl (by decide +kernel)) (pi_range1 rfl mr (pa_cons pe_int pa_nil)) (blkOk_by (N := sLawN) (sc := defScope sLaw) (by decide +kernel)) (fun _ _ _ _ _ => (pg_name (i := 10) nd rfl (Or.inl rfl))) (fun _ _ _ _ _ => pts_nil) (fun _ _ _ _ _ => (pe_call EN.ok hr4 (by rfl) EN.g EN.kp EN.b .nil pass0 (pa_cons (pv 1) (pa_cons (pe_ix ix_list (pv 6) (pv 10) (fun _ _ => rfl)) (pa_cons (pe_ix ix_list (pv 8) (pv 10) (fun _ _ => rfl)) (pa_cons (pv 3) (pa_cons (pv 4) (pa_cons (pv 5) pa_nil)))))))))
      (pss_cons (ps_set (i := 11) nd rfl (Or.inl rfl) (pe_call LS.ok hr4 (by rfl) LS.g LS.kp LS.b .nil pass0 (pa_cons (pe_tup (pa_cons (pe_callTy call_tuple_of (by rfl) mt (by decide +kernel) (pa_cons (pe_callB cr_sortedS (by rfl) ms (by decide +kernel) (pa_cons (pv 3) pa_nil)) pa_nil)) (pa_cons (pe_callTy call_tuple_of (by rfl) mt (by decide +kernel) (pa_cons (pe_callB cr_sortedS (by rfl) ms (by decide +kernel) (pa_cons (pv 4) pa_nil)) pa_nil)) pa_nil))) (pa_cons (pe_slice sl_list (pv 9) po_none (po_some (pv 2))) pa_nil))))
      (pss_cons (ps_set (i := 12) nd rfl (Or.inl rfl) (pe_callB (cr_repr hG hr.units) (by rfl) mp (by decide +kernel) (pa_cons (pv 11) pa_nil)))
      (pss_cons (ps_for PassesOwn.never rfl (pi_range1 rfl mr (pa_cons pe_int pa_nil)) (pg_name (i := 13) nd rfl (Or.inl rfl))
        (pss_one (ps_if (pt_not (pt_val (pe_callG PR.ok hG hr (by rfl) PR.g PR.kp PR.b (pa_cons (pv 1) (pa_cons (pv 11) (pa_cons (pe_ix ix_list (pv 9) pe_int (fun _ _ => rfl)) (pa_cons (pv 7) pa_nil))))))) (pss_one (ps_ret pe_bl)) pss_nil)))
      (pss_cons (ps_for PassesOwn.never rfl (pi_list (pe_slice sl_list (pv 9) po_none (po_some (pv 2)))) (pg_name (i := 14) nd rfl (Or.inl rfl))
        (pss_one (ps_if (pt_not (pt_val (pe_callG LR.ok hG hr (by rfl) LR.g LR.kp LR.b (pa_cons (pv 11) (pa_cons (pv 14) pa_nil))))) (pss_one (ps_ret pe_bl)) pss_nil)))
      (pss_cons (ps_for PassesOwn.never rfl (pi_tup (pe_tup (pa_cons (pe_ix ix_list (pv 6) pe_int (fun _ _ => rfl)) (pa_cons pe_str (pa_cons pe_non (pa_cons pe_bl (pa_cons pe_int (pa_cons (pe_tup pa_nil) (pa_cons (pe_lst pa_nil) (pa_cons pe_dnewK (pa_cons (pe_tup (pa_cons pe_str pa_nil)) (pa_cons (pe_ix ix_list (pv 9) pe_int (fun _ _ => rfl)) (pa_cons (pe_lst (pa_cons (pe_ix ix_list (pv 6) pe_int (fun _ _ => rfl)) pa_nil)) pa_nil))))))))))))) (pg_name (i := 15) nd rfl (Or.inl rfl))
        (pss_one (ps_if (pt_not (pt_val (pe_call NN.ok hr (by rfl) NN.g NN.kp NN.b .nil pass0 (pa_cons (pv 11) (pa_cons (pv 15) pa_nil))))) (pss_one (ps_ret pe_bl)) pss_nil)))
      (pss_one (ps_ret (pe_cmpR op_eq (pe_callB (cr_repr hG hr.units) (by rfl) mp (by decide +kernel) (pa_cons (pv 11) pa_nil)) (pv 12) (nomark _)))))))))))))))), ?_⟩
    refine ⟨_, rfl, a, ns, rfl, hS, fun p c H1 np nc pen1 sm1 => ?_⟩
    refine ⟨_, rfl, p, c, _, 31, rfl, pen1, by omega, by decide, by decide, fun r1 H2 a1 b1 pen2 bt2 => ?_⟩
    refine ⟨_, rfl, p, c, _, 6, rfl, pen2, by omega, by decide, by decide, fun r2 H3 a2 b2 pen3 bt3 => ?_⟩
    refine ⟨1, r2, rfl, rfl, (by show 4 ≤ sizeLine; decide), fun l nl => ?_⟩
    have sl := @same_new _ _ (.lst [V.int 30, .int 0, .int r1, .int (1 + r2)]) nl
    have el := @upd_same H3 l (.lst [V.int 30, .int 0, .int r1, .int (1 + r2)])
    generalize upd H3 l (.lst [V.int 30, .int 0, .int r1, .int (1 + r2)]) = H4 at sl el ⊢
    have pen4 := pen3.same sl
    refine ⟨_, rfl, p, c, _, 4, rfl, pen4, by omega, by decide, by decide, fun r3 H5 a3 b3 pen5 bt5 => ?_⟩
    obtain ⟨mo, hm1, hm2⟩ := at_ints (ns := [30, 0, r1, 1 + r2]) (r := r3) a3 (by show r3 < 4; omega)
    refine ⟨l, _, _, _, rfl, rfl, SqL.of (pen_keepL pen4 bt5 el), hm1, ?_⟩
    have hmo : 0 ≤ mo ∧ mo ≤ 30 := by
      simp only [List.mem_cons, List.not_mem_nil, or_false] at hm2
      rcases hm2 with rfl | rfl | rfl | rfl <;> omega
    obtain ⟨m, rfl⟩ : ∃ m : Nat, mo = m := ⟨mo.toNat, (Int.toNat_of_nonneg hmo.1).symm⟩
    have m30 : m ≤ 30 := by omega
    -- the tables, as they are now
    have ch5 : Ch7 Ts p H1 H5 := ((Ch7.but (tabs_sm sm1 tg0) pen1 (bt2.tr bt3)).tr (.same (tabs_but7 (tabs_sm sm1 tg0) pen1 (bt2.tr bt3)) sl)).tr (.but (tabs_sm sl (tabs_but7 (tabs_sm sm1 tg0) pen1 (bt2.tr bt3))) pen4 bt5)
    refine ⟨_, rfl, p, c, _, 7, 4, 31, rfl, pen5, by omega, by omega, by omega, by omega, fun tp l1 l2 l3 l4 PL GL HL EL H6 ntp ht h1 h2 h3 h4 n1' n2' n3' n4' pen6 bt6 => ?_⟩
    refine ⟨tp, _, rfl, SqT.of ht, rfl, _, _, rfl, _, _, rfl, _, _, rfl, _, _, rfl, rfl, ?_⟩
    have z1 : PL.length = 7 := n1'.len
    have z2 : GL.length = 4 := n2'.len
    have z3 : HL.length = 3 := n3'.len
    have z4 : EL.length = 31 := n4'.len
    obtain ⟨far, hf1, hf2⟩ : ∃ far, PL[6]? = some far ∧ far ∈ PL := ⟨PL[6], List.getElem?_eq_getElem (by omega), List.getElem_mem (by omega)⟩
    obtain ⟨kind, hk1, hk2⟩ : ∃ kind, GL[3]? = some kind ∧ kind ∈ GL := ⟨GL[3], List.getElem?_eq_getElem (by omega), List.getElem_mem (by omega)⟩
    have nP := n1'.nodup (by omega)
    have nG := n2'.nodup (by omega)
    have mP := n1'.names (by omega)
    have mG := n2'.names (by omega)
    have mH := n3'.names (by omega)
    have nE := n4'.nodup (by omega)
    have mE := n4'.names (by omega)
    refine ⟨_, rfl, l1, _, 6, _, rfl, rfl, SqL.of h1, atI_nat (j := 6) (by rw [List.getElem?_map, hf1]; rfl), _, rfl, l2, _, 3, _, rfl, rfl, SqL.of h2, atI_nat (j := 3) (by rw [List.getElem?_map, hk1]; rfl), (by show 2 ≤ sizeLine; decide), fun ls nls => ?_⟩
    have sS := @same_new _ _ (.tup [V.str far, .str kind]) nls
    have eS := @upd_same H6 ls (.tup [V.str far, .str kind])
    generalize upd H6 ls (.tup [V.str far, .str kind]) = H7 at sS eS ⊢
    have pen7 := pen6.same sS
    have cut1 : ∀ {ys : List Str} {k : Nat}, cutV (ys.map V.str) none (some (1 + (k : Int))) = (ys.take (1 + k)).map V.str := fun {ys k} => by
      rw [show (1 + (k : Int)) = ((1 + k : Nat) : Int) by omega, cut_take, List.map_take]
    refine ⟨_, rfl, _, rfl, p, c, _, 6, rfl, pen7, by omega, by decide, by decide, fun r4 H8 a4 b4 pen8 bt8 => ?_⟩
    obtain ⟨u1, rfl⟩ : ∃ u : Nat, r4 = u := ⟨r4.toNat, (Int.toNat_of_nonneg a4).symm⟩
    refine ⟨1, _, rfl, rfl, _, rfl, l1, _, rfl, SqL.of (pen_strs pen7 bt8 (sS _ _ h1)), fun q1 nq1 => ?_⟩
    rw [cut1]
    have s9 := @same_new _ _ (.lst ((PL.take (1 + u1)).map V.str)) nq1
    have e9 := @upd_same H8 q1 (.lst ((PL.take (1 + u1)).map V.str))
    generalize upd H8 q1 (.lst ((PL.take (1 + u1)).map V.str)) = H9 at s9 e9 ⊢
    have pen9 := pen8.same s9
    refine ⟨_, rfl, _, rfl, p, c, _, 3, rfl, pen9, by omega, by decide, by decide, fun r5 H10 a5 b5 pen10 bt10 => ?_⟩
    obtain ⟨u2, rfl⟩ : ∃ u : Nat, r5 = u := ⟨r5.toNat, (Int.toNat_of_nonneg a5).symm⟩
    refine ⟨1, _, rfl, rfl, _, rfl, l2, _, rfl, SqL.of (pen_strs pen9 bt10 (s9 _ _ (pen_strs pen7 bt8 (sS _ _ h2)))), fun q2 nq2 => ?_⟩
    rw [cut1]
    have s11 := @same_new _ _ (.lst ((GL.take (1 + u2)).map V.str)) nq2
    have e11 := @upd_same H10 q2 (.lst ((GL.take (1 + u2)).map V.str))
    generalize upd H10 q2 (.lst ((GL.take (1 + u2)).map V.str)) = H11 at s11 e11 ⊢
    have pen11 := pen10.same s11
    refine ⟨_, rfl, p, c, _, 31, rfl, pen11, by omega, by omega, fun l5 mos H12 nl5 h5 lm bm pen12 bt12 => ?_⟩
    have bt612 : But p H6 H12 := (But.of sS).tr (bt8.tr ((But.of s9).tr (bt10.tr ((But.of s11).tr bt12))))
    have y3 := pen_strs pen6 bt612 h3
    have y4 := pen_strs pen6 bt612 h4
    have w1 : StrsAt H12 q1 (PL.take (1 + u1)) := pen_keepL pen9 (bt10.tr ((But.of s11).tr bt12)) e9
    have w2 : StrsAt H12 q2 (GL.take (1 + u2)) := pen_keepL pen11 bt12 e11
    have wls := pen_keep pen7 (bt8.tr ((But.of s9).tr (bt10.tr ((But.of s11).tr bt12)))) eS
    have ch12 : Ch7 Ts p H1 H12 := (ch5.tr (.but ch5.tg pen5 bt6)).tr (.but (tabs_but7 ch5.tg pen5 bt6) pen6 bt612)
    have x1 : (PL.take (1 + u1)).length = 1 + u1 := by rw [List.length_take]; omega
    have x2 : (GL.take (1 + u2)).length = 1 + u2 := by rw [List.length_take]; omega
    have nx : ∀ y ∈ PL.take (1 + u1), nameB y = true := fun y hy => mP y (List.mem_of_mem_take hy)
    have ny : ∀ y ∈ GL.take (1 + u2), nameB y = true := fun y hy => mG y (List.mem_of_mem_take hy)
    have dx : (PL.take (1 + u1)).Nodup := (List.take_sublist _ _).nodup nP
    have nfx : far ∉ PL.take (1 + u1) := not_in_take nP hf1 (by omega)
    have nkx : kind ∉ GL.take (1 + u2) := not_in_take nG hk1 (by omega)
    generalize PL.take (1 + u1) = xs at x1 nx dx nfx w1 ⊢
    generalize GL.take (1 + u2) = ys at x2 ny nkx w2 ⊢
    clear sS s9 s11 eS e9 e11 h1 h2 h3 h4 pen4 pen6 pen7 pen8 pen9 pen10 pen11 bt2 bt3 bt5 bt6 bt8 bt10 bt12 bt612 sl el ht
    show gName 8 (V.ref l5) [some (.ref a), some (.ref p), some (.int (m : Int)), some (.ref q1), some (.ref q2), some (.ref l3), some (.ref l4), some (.ref ls), none, none, none, none, none, none, none, none] H12 _
    have np5 : ∀ {H' : Hp} {n : Nat} {l : Addr} {zs : List V}, PenAt H' p c n → H' l = some (.lst zs) → l ≠ p := fun pen h => by
      obtain ⟨kvs, ns', a', x', g1, _⟩ := pen.ex
      exact ne_of h g1 (by intro z; cases z)
    refine ⟨31, rfl, by decide, by decide, fun D nD => ?_⟩
    have sD := @same_new _ _ (.lst []) nD
    have nDp : D ≠ p := fun z => pen12.there (z ▸ nD)
    have nDc : D ≠ c := fun z => pen12.cells (z ▸ nD)
    refine lc_range (lo := 0) (n := 31) (fun i H' => PenAt H' p c (165 + 30 * i) ∧ Ch7 Ts p H1 H' ∧ (StrsAt H' q1 xs ∧ StrsAt H' q2 ys ∧ StrsAt H' l3 HL ∧ StrsAt H' l4 EL ∧ H' l5 = some (.lst (mos.map V.int))) ∧ H' ls = some (.tup [V.str far, .str kind]) ∧
        ∃ pr : List (Addr × Ent), (pr.length = i ∧ pr.map (fun x => x.2.name) = EL.take i) ∧ H' D = some (.lst (pr.map fun x => V.ref x.1)) ∧ ∀ x ∈ pr, H' x.1 = some (.tup x.2.vals) ∧ x.2.Fine ∧ ofB x.2 xs ys = true)
      ⟨(pen12.same sD).mono (by omega), ch12.tr (.same ch12.tg sD), ⟨sD _ _ w1, sD _ _ w2, sD _ _ y3, sD _ _ y4, sD _ _ h5⟩, sD _ _ wls, [], ⟨rfl, rfl⟩, upd_same, fun y hy => nomatch hy⟩ ?_ ?_
    · rintro i G1 hi ⟨pn, ch, ⟨g1, g2, g3, g4, g5⟩, gls, pr, ⟨gl, gm⟩, gD, gE⟩
      have lj : i < EL.length := by omega
      obtain ⟨nme, hnj, hn3⟩ : ∃ nme, EL[i]? = some nme ∧ nme ∈ EL := ⟨EL[i], List.getElem?_eq_getElem lj, List.getElem_mem lj⟩
      have hn1 : atI (EL.map V.str) (0 + (i : Int)) = some (.str nme) := by
        rw [Int.zero_add]
        exact atI_nat (by rw [List.getElem?_map, hnj]; rfl)
      obtain ⟨mo, hm1, hm2⟩ := at_ints (ns := mos) (r := 0 + (i : Int)) (by omega) (by omega)
      refine ⟨rfl, yesT ?_⟩
      refine ⟨_, rfl, _, rfl, _, rfl, l4, _, _, _, rfl, rfl, SqL.of g4, hn1, _, rfl, _, rfl, l5, _, _, _, rfl, rfl, SqL.of g5, hm1, _, rfl, _, rfl, _, rfl, p, c, _, nme, mo, q1, q2, l3, xs, ys, HL, rfl, pn, by omega, g1, g2, g3,
        (fun z => by subst z; simp at x1; omega), (fun z => by subst z; simp at x2; omega), (fun z => by subst z; simp at z3), by omega, by omega, by omega, fun te e G2 nte hte en em ef pn2 btA => ?_⟩
      have gD2 := btA D _ gD nDp
      have neD : ∀ {b : Addr} {o : HO}, G1 b = some o → (∀ zs, o ≠ .lst (zs : List V)) → b ≠ D := fun {b o} h n z => n _ (by rw [z, gD] at h; exact (Option.some.inj h).symm)
      have nLD : ∀ {b : Addr} {o : HO}, H12 b = some o → b ≠ D := fun h => ne_of_none h nD
      have ups : ∀ {b : Addr} {zs : List V} {o : HO}, G1 b = some (.lst zs) → b ≠ D → (upd G2 D o) b = some (.lst zs) := fun h n => (upd_ne n).trans (btA _ _ h (np5 pn h))
      have upt : ∀ {b : Addr} {zs : List V} {o : HO}, G1 b = some (.tup zs) → (upd G2 D o) b = some (.tup zs) := fun h => (upd_ne (neD h fun zs z => nomatch z)).trans (pen_keep pn btA h)
      have fine := (fine_of ef dx nx ny mH (en ▸ mE nme hn3) (em ▸ (bm mo hm2).1) (em ▸ (bm mo hm2).2)).1
      have chA := ch.tr (.but ch.tg pn btA)
      have d1 : ∀ b o, H1 b = some o → b ≠ D := fun b o e z => by
        rw [z] at e
        have : H12 D ≠ none := fun w => by
          have k := ch12kp H1 H12 p Ts ch12 D o e nDp
          exact k w
        exact this nD
      refine ⟨_, gD2, (by rw [List.length_map]; exact small1000 (by omega)), (pn2.mono (by omega)).upd nDp nDc, ⟨fun b o e n q => (upd_ne (d1 b o e)).trans (chA.kp b o e n q), fun b o e n q => (upd_ne (d1 b o e)).trans (chA.oth b o e n q), tabs_upL chA.tg gD2⟩, ⟨ups g1 (nLD w1), ups g2 (nLD w2), ups g3 (nLD y3), ups g4 (nLD y4), ups g5 (nLD h5)⟩, upt gls,
        pr ++ [(te, e)], ⟨by simp [gl], by rw [List.map_append, gm, take_sn hnj]; exact congrArg (fun z => EL.take i ++ [z]) en⟩, ?_, ?_⟩
      · rw [upd_same, List.map_append]
        rfl
      · intro x hx
        rcases List.mem_append.mp hx with h | h
        · exact ⟨upt (gE x h).1, (gE x h).2⟩
        · rw [List.mem_singleton.mp h]
          refine ⟨(upd_ne fun z => ?_).trans hte, fine, of_from ef⟩
          have z' : te = D := z
          rw [z', gD] at nte
          exact nomatch nte
    · rintro G1 ⟨pn, ch, ⟨g1, g2, g3, g4, g5⟩, gls, pr, ⟨gl, gm⟩, gD, gE⟩
      show gName 9 (V.ref D) [some (.ref a), some (.ref p), some (.int (m : Int)), some (.ref q1), some (.ref q2), some (.ref l3), some (.ref l4), some (.ref ls), some (.ref l5), none, none, none, none, none, none, none] G1 _
      have x0 : xs ≠ [] := fun z => by rw [z] at x1; simp at x1; omega
      have y0 : ys ≠ [] := fun z => by rw [z] at x2; simp at x2; omega
      have ndr : (pr.map fun x => x.2.name).Nodup := by rw [gm]; exact (List.take_sublist _ _).nodup nE
      refine ⟨_, rfl, q1, xs, rfl, SqL.of g1, by omega, fun P1 a1 pm1 so1 na1 => ⟨a1, _, rfl, .inl ⟨SqL.of upd_same, fun t1 nt1 => ?_⟩⟩⟩
      have s1 : Same G1 (upd (upd G1 a1 (.lst (P1.map V.str))) t1 (.tup (P1.map V.str))) := (same_new na1).trans (same_new nt1)
      have hp1 : (upd (upd G1 a1 (.lst (P1.map V.str))) t1 (.tup (P1.map V.str))) t1 = some (.tup (P1.map V.str)) := upd_same
      generalize upd (upd G1 a1 (.lst (P1.map V.str))) t1 (.tup (P1.map V.str)) = G2 at s1 hp1
      refine ⟨_, rfl, q2, ys, rfl, SqL.of (s1 _ _ g2), by omega, fun K1 a2 pm2 so2 na2 => ⟨a2, _, rfl, .inl ⟨SqL.of upd_same, fun t2 nt2 => ?_⟩⟩⟩
      have s2 : Same G2 (upd (upd G2 a2 (.lst (K1.map V.str))) t2 (.tup (K1.map V.str))) := (same_new na2).trans (same_new nt2)
      have hp2 : (upd (upd G2 a2 (.lst (K1.map V.str))) t2 (.tup (K1.map V.str))) t2 = some (.tup (K1.map V.str)) := upd_same
      generalize upd (upd G2 a2 (.lst (K1.map V.str))) t2 (.tup (K1.map V.str)) = G3 at s2 hp2
      refine ⟨(by show 2 ≤ sizeLine; decide), fun S nS => ?_⟩
      have s3 := @same_new _ _ (.tup [V.ref t1, .ref t2]) nS
      have e3 := @upd_same G3 S (.tup [V.ref t1, .ref t2])
      generalize upd G3 S (.tup [V.ref t1, .ref t2]) = G4 at s3 e3 ⊢
      have s14 := s1.trans (s2.trans s3)
      refine ⟨_, rfl, _, rfl, (m : Int), rfl, D, _, rfl, SqL.of (s14 _ _ gD), fun L3 nL3 => ?_⟩
      rw [cut_take, ← List.map_take]
      have s5 := @same_new _ _ (.lst ((pr.take m).map fun x => V.ref x.1)) nL3
      have e5 := @upd_same G4 L3 (.lst ((pr.take m).map fun x => V.ref x.1))
      generalize upd G4 L3 (.lst ((pr.take m).map fun x => V.ref x.1)) = G5 at s5 e5 ⊢
      have s15 := s14.trans s5
      have szm : (pr.take m).length = m := by rw [List.length_take]; omega
      refine ⟨S, t1, t2, L3, [], pr.take m, rfl, s5 _ _ e3, .inl e5, fun x hx => s15 _ _ (gE x (List.mem_of_mem_take hx)).1, fun h he G6 s6 e6 e7 => ?_⟩
      have s16 := s15.trans s6
      have hoH : Ho7 G6 h t1 t2 he P1 K1 (sortE (pr.take m)) := ⟨e6, s6 _ _ (s5 _ _ (s3 _ _ (s2 _ _ hp1))), s6 _ _ (s5 _ _ (s3 _ _ hp2)), e7, fun x hx => s16 _ _ (gE x (List.mem_of_mem_take ((sortE_p _).mem_iff.mp hx))).1⟩
      obtain ⟨x30, h30, m30'⟩ : ∃ x, pr[30]? = some x ∧ x ∈ pr := ⟨pr[30], List.getElem?_eq_getElem (by omega), List.getElem_mem (by omega)⟩
      have at30 : atI (pr.map fun x => V.ref x.1) (30 : Int) = some (.ref x30.1) := atI_nat (j := 30) (by rw [List.getElem?_map, h30]; rfl)
      obtain ⟨n30, hn30, mn30⟩ : ∃ y, EL[30]? = some y ∧ y ∈ EL := ⟨EL[30], List.getElem?_eq_getElem (by omega), List.getElem_mem (by omega)⟩
      have atN : atI (EL.map V.str) (30 : Int) = some (.str n30) := atI_nat (j := 30) (by rw [List.getElem?_map, hn30]; rfl)
      have en30 : x30.2.name = n30 := by
        have e1 : (pr.map fun x => x.2.name)[30]? = some x30.2.name := by rw [List.getElem?_map, h30]; rfl
        rw [gm, List.getElem?_take_of_lt (by omega), hn30] at e1
        exact (Option.some.inj e1).symm
      generalize hqr : sortE (pr.take m) = qr at hoH
      have memq : ∀ y, y ∈ qr ↔ y ∈ pr.take m := fun y => by rw [← hqr]; exact (sortE_p _).mem_iff
      have lq : qr.length = m := by rw [← hqr, (sortE_p _).length_eq, szm]
      have ndq : (qr.map fun x => x.2.name).Nodup := by
        have p1 : (qr.map fun x => x.2.name).Perm ((pr.take m).map fun x => x.2.name) := by rw [← hqr]; exact (sortE_p _).map _
        refine p1.nodup_iff.mpr ?_
        rw [List.map_take]
        exact (List.take_sublist _ _).nodup ndr
      have soq : sortE qr = qr := by rw [← hqr]; exact sortE_idem _
      have no30 : ∀ y ∈ qr, y.2.name ≠ n30 := fun y hy e => by
        obtain ⟨j, hj⟩ := List.mem_iff_getElem?.mp ((memq y).mp hy)
        have lj := (List.getElem?_eq_some_iff.mp hj).1
        rw [szm] at lj
        rw [List.getElem?_take_of_lt lj] at hj
        have : j = 30 := (List.getElem?_inj (by rw [List.length_map]; omega) ndr).mp (by rw [List.getElem?_map, List.getElem?_map, hj, h30]; exact congrArg some (e.trans en30.symm))
        omega
      have ofc : ∀ {e : Ent}, ofB e xs ys = true → ofB e P1 K1 = true := fun {e} o => by
        rw [← o]
        exact ofB_congr (fun y => pm1.mem_iff) fun y => pm2.mem_iff
      have okH : Ok7 P1 K1 qr := ⟨fun z => by have := pm1.length_eq; rw [z, x1] at this; exact absurd this (by simp; omega), by rw [pm1.length_eq]; omega, fun z => by have := pm2.length_eq; rw [z, x2] at this; exact absurd this (by simp; omega), by rw [pm2.length_eq]; omega,
        fun y hy => nx y (pm1.mem_iff.mp hy), fun y hy => ny y (pm2.mem_iff.mp hy), ndq, by omega, fun y hy => ⟨(gE y (List.mem_of_mem_take ((memq y).mp hy))).2.1, ofc (gE y (List.mem_of_mem_take ((memq y).mp hy))).2.2⟩⟩
      have ch6 : Ch7 Ts p H1 G6 := ch.tr (.same ch.tg s16)
      have I6 : LI7 G6 p c 1200 Ts A1 A2 A3 h t1 t2 he x30.1 ls D l4 P1 K1 qr x30.2 far kind (pr.map fun x => V.ref x.1) EL :=
        ⟨(pn.same s16).mono (by omega), ch6.tg, ch6.tabS pen1 n1 (LamX.TabS.ext tl1 fun b o e => sm1 b o e), ch6.tabS pen1 n2 (LamX.TabS.ext tl2 fun b o e => sm1 b o e), ch6.tabS pen1 n3 (LamX.TabS.ext tl3 fun b o e => sm1 b o e), hoH, s16 _ _ (gE x30 m30').1, s16 _ _ gls, s16 _ _ gD, s16 _ _ g4⟩
      have f30 := (gE x30 m30').2
      have nfP : far ∉ P1 := fun z => nfx (pm1.mem_iff.mp z)
      have nkK : kind ∉ K1 := fun z => nkx (pm2.mem_iff.mp z)
      have shH : Short (houseD P1 K1 (qr.map (·.2))) 10000 3 := short_ok okH (fun y hy => (okH.f y hy).1) (by omega)
      clear hoH s16 s15 s14 s6 s5 s3 s2 s1 e3 e5 e6 e7 hp1 hp2 gE gD gls g1 g2 g3 g4 g5 ch pn ch6 na1 nt1 na2 nt2 nS nL3
      show gName 11 (V.ref h) [some (.ref a), some (.ref p), some (.int (m : Int)), some (.ref q1), some (.ref q2), some (.ref l3), some (.ref l4), some (.ref ls), some (.ref l5), some (.ref D), none, none, none, none, none, none] G6 _
      refine ⟨_, rfl, h, _, rfl, I6.ho.dp, shH.sh, shH.nd, Nat.le_trans shH.dp (by decide), shH.fits (by decide), ?_⟩
      have n21 : A2 ∉ A1 :: Ts := fun z => (List.mem_cons.mp z).elim (fun e => n12 e.symm) n2
      have n31 : A3 ∉ A1 :: Ts := fun z => (List.mem_cons.mp z).elim (fun e => n13 e.symm) n3
      have n1_2 : A1 ∉ A2 :: Ts := fun z => (List.mem_cons.mp z).elim n12 n1
      have n32 : A3 ∉ A2 :: Ts := fun z => (List.mem_cons.mp z).elim (fun e => n23 e.symm) n3
      have n1_3 : A1 ∉ A3 :: Ts := fun z => (List.mem_cons.mp z).elim n13 n1
      have n2_3 : A2 ∉ A3 :: Ts := fun z => (List.mem_cons.mp z).elim n23 n2
      refine ⟨10, rfl, by decide, by decide, for_range (lo := 0) (n := 10) (fun j σ H' => ∃ y13 y14 y15, σ = [some (.ref a), some (.ref p), some (.int (m : Int)), some (.ref q1), some (.ref q2), some (.ref l3), some (.ref l4), some (.ref ls), some (.ref l5), some (.ref D), none, some (.ref h), some (.str (houseD P1 K1 (qr.map (·.2))).shown), y13, y14, y15] ∧
        LI7 H' p c (1200 + 5 * j) Ts A1 A2 A3 h t1 t2 he x30.1 ls D l4 P1 K1 qr x30.2 far kind (pr.map fun x => V.ref x.1) EL) ⟨_, _, _, rfl, I6⟩ ?_ ?_⟩
      · rintro j σ H' hj ⟨y13, y14, y15, rfl, i⟩
        refine ⟨_, rfl, _, rfl, _, rfl, D, _, 30, _, rfl, rfl, SqL.of i.hD, at30, _, rfl, p, c, h, t1, t2, he, x30.1, ls, _, P1, K1, qr, x30.2, far, kind, rfl, i.pen, by omega, i.ho, okH, by omega, i.hf, f30.1, ofc f30.2, fun y hy => by rw [en30]; exact no30 y hy, i.hls, nfP, nkK, mP far hf2, mG kind hk2, i.tg, i.t1, fun H'' ch t1' pen' => ⟨true, rfl, iteF ?_⟩⟩
        exact ⟨_, _, _, rfl, (i.go ch pen' t1' (ch.tabS i.pen n21 i.t2) (ch.tabS i.pen n31 i.t3)).mono (by omega)⟩
      · rintro σ H7 ⟨y13, y14, y15, rfl, i7⟩
        refine ⟨_, rfl, _, rfl, (m : Int), rfl, D, _, rfl, SqL.of i7.hD, fun L4 nL4 => ?_⟩
        rw [cut_take, ← List.map_take]
        have s8 := @same_new _ _ (.lst ((pr.take m).map fun x => V.ref x.1)) nL4
        have e8 := @upd_same H7 L4 (.lst ((pr.take m).map fun x => V.ref x.1))
        generalize upd H7 L4 (.lst ((pr.take m).map fun x => V.ref x.1)) = H8 at s8 e8 ⊢
        refine ⟨L4, rfl, ⟨_, SqL.of e8⟩, for_list (K := K) (a := L4) (xs := (pr.take m).map fun x => V.ref x.1) (fun j σ H' => ∃ y14 y15, σ = [some (.ref a), some (.ref p), some (.int (m : Int)), some (.ref q1), some (.ref q2), some (.ref l3), some (.ref l4), some (.ref ls), some (.ref l5), some (.ref D), none, some (.ref h), some (.str (houseD P1 K1 (qr.map (·.2))).shown), y13, y14, y15] ∧
          H' L4 = some (.lst ((pr.take m).map fun x => V.ref x.1)) ∧ LI7 H' p c 1250 Ts A1 A2 A3 h t1 t2 he x30.1 ls D l4 P1 K1 qr x30.2 far kind (pr.map fun x => V.ref x.1) EL) ⟨_, _, rfl, e8, i7.same s8⟩ (fun j σ H' _ z => by obtain ⟨_, _, _, z, _⟩ := z; exact SqL.of z) ?_ ?_⟩
        · rintro j v σ H' hv ⟨y14, y15, rfl, hL, i⟩
          rw [List.getElem?_map] at hv
          obtain ⟨x, hx, rfl⟩ := Option.map_eq_some_iff.mp hv
          have mx := (memq x).mpr (List.mem_of_getElem? hx)
          refine ⟨_, rfl, _, rfl, h, t1, t2, he, P1, K1, qr, x, rfl, i.ho, okH, soq, by omega, mx, i.tg, i.t2, fun H'' S'' => ⟨true, rfl, iteF ?_⟩⟩
          have chS : Ch7 (A2 :: Ts) p H' H'' := S''.st.ch
          exact ⟨_, _, rfl, S''.st.kp _ _ hL (fun _ z => nomatch z), i.go chS (i.pen.on S''.st.kp) (chS.tabS i.pen n1_2 i.t1) S''.tl (chS.tabS i.pen n32 i.t3)⟩
        · rintro σ H9 ⟨y14, y15, rfl, _, i9⟩
          refine ⟨_, rfl, l4, _, 30, _, rfl, rfl, SqL.of i9.hn, atN, ?_⟩
          refine ⟨(by show 0 ≤ sizeLine; decide), fun b1 nb1 => ?_⟩
          have r1 := @same_new _ _ (.tup []) nb1
          have f1 := @upd_same H9 b1 (.tup [])
          generalize upd H9 b1 (.tup []) = B1 at r1 f1 ⊢
          refine ⟨(by show 0 ≤ sizeLine; decide), fun b2 nb2 => ?_⟩
          have r2 := @same_new _ _ (.lst []) nb2
          have f2 := @upd_same B1 b2 (.lst [])
          generalize upd B1 b2 (.lst []) = B2 at r2 f2 ⊢
          refine fun b3 nb3 => ?_
          have r3 := @same_new _ _ (.dK []) nb3
          have f3 := @upd_same B2 b3 (.dK [])
          generalize upd B2 b3 (.dK []) = B3 at r3 f3 ⊢
          refine ⟨(by show 1 ≤ sizeLine; decide), fun b4 nb4 => ?_⟩
          have r4 := @same_new _ _ (.tup [V.str "look"]) nb4
          have f4 := @upd_same B3 b4 (.tup [V.str "look"])
          generalize upd B3 b4 (.tup [V.str "look"]) = B4 at r4 f4 ⊢
          have r14 := r1.trans (r2.trans (r3.trans r4))
          have i10 := i9.same r14
          refine ⟨_, rfl, D, _, 30, _, rfl, rfl, SqL.of i10.hD, at30, _, rfl, l4, _, 30, _, rfl, rfl, SqL.of i10.hn, atN, (by show 1 ≤ sizeLine; decide), fun b5 nb5 => ?_⟩
          have r5 := @same_new _ _ (.lst [V.str n30]) nb5
          have f5 := @upd_same B4 b5 (.lst [V.str n30])
          generalize upd B4 b5 (.lst [V.str n30]) = B5 at r5 f5 ⊢
          refine ⟨(by show 11 ≤ sizeLine; decide), fun b6 nb6 => ?_⟩
          have r6 := @same_new _ _ (.tup [V.str n30, .str "", .non, .bl true, .int 0, .ref b1, .ref b2, .ref b3, .ref b4, .ref x30.1, .ref b5]) nb6
          have f6 := @upd_same B5 b6 (.tup [V.str n30, .str "", .non, .bl true, .int 0, .ref b1, .ref b2, .ref b3, .ref b4, .ref x30.1, .ref b5])
          generalize upd B5 b6 (.tup [V.str n30, .str "", .non, .bl true, .int 0, .ref b1, .ref b2, .ref b3, .ref b4, .ref x30.1, .ref b5]) = B6 at r6 f6 ⊢
          have i11 := (i10.same r5).same r6
          have g1 := r6 _ _ (r5 _ _ (r4 _ _ (r3 _ _ (r2 _ _ f1))))
          have g2 := r6 _ _ (r5 _ _ (r4 _ _ (r3 _ _ f2)))
          have g3 := r6 _ _ (r5 _ _ (r4 _ _ f3))
          have g4 := r6 _ _ (r5 _ _ f4)
          have g5 := r6 _ _ f5
          have bn30 := name_ok (mE n30 mn30)
          have sh1 : ∀ {z : Str}, PyData.strOk z = true → SeqAt.shaped (.tuple [.str z]) = true ∧ SeqAt.shaped (.list [.str z]) = true := fun {z} ok => by
            unfold SeqAt.shaped
            simp [PyData.canLay0, PyData.canLayAll0, PyData.depth, PyData.depthAll, ok]
          have f30' := f30.1
          have all : ∀ x ∈ [V.str n30, .str "", .non, .bl true, .int 0, .ref b1, .ref b2, .ref b3, .ref b4, .ref x30.1, .ref b5], EqT.Tng K B6 x ∧ ∀ y ∈ qr, x ≠ .str y.2.name := by
            intro x hx
            simp only [List.mem_cons, List.not_mem_nil, or_false] at hx
            rcases hx with rfl | rfl | rfl | rfl | rfl | rfl | rfl | rfl | rfl | rfl | rfl
            · exact ⟨tng_str bn30, fun y hy e => no30 y hy (V.str.inj e).symm⟩
            · refine ⟨tng_str (by decide +kernel), fun y hy e => ?_⟩
              have := fine_name (okH.f y hy).1
              rw [← V.str.inj e] at this
              exact absurd this (by decide +kernel)
            · exact ⟨.inl ⟨_, .non, by decide +kernel⟩, fun y hy e => nomatch e⟩
            · exact ⟨.inl ⟨_, .bl _, by decide +kernel⟩, fun y hy e => nomatch e⟩
            · exact ⟨.inl ⟨_, .int _, by decide +kernel⟩, fun y hy e => nomatch e⟩
            · exact ⟨.inl ⟨_, .tup (SqT.of g1) .nil, by decide +kernel⟩, fun y hy e => nomatch e⟩
            · exact ⟨.inl ⟨_, .lst (SqL.of g2) .nil, by decide +kernel⟩, fun y hy e => nomatch e⟩
            · exact ⟨.inr ⟨b3, [], rfl, g3⟩, fun y hy e => nomatch e⟩
            · exact ⟨.inl ⟨_, .tup (SqT.of g4) (.cons (.str _) .nil), by decide +kernel⟩, fun y hy e => nomatch e⟩
            · exact ⟨.inl ⟨_, dp_ent i11.hf, shaped_ent (fine_parts f30')⟩, fun y hy e => nomatch e⟩
            · exact ⟨.inl ⟨_, .lst (SqL.of g5) (.cons (.str _) .nil), (sh1 bn30).2⟩, fun y hy e => nomatch e⟩
          refine ⟨b6, rfl, ⟨_, SqT.of f6⟩, for_tup (K := K) (a := b6) (xs := [V.str n30, .str "", .non, .bl true, .int 0, .ref b1, .ref b2, .ref b3, .ref b4, .ref x30.1, .ref b5]) (fun j σ H' => ∃ y15, σ = [some (.ref a), some (.ref p), some (.int (m : Int)), some (.ref q1), some (.ref q2), some (.ref l3), some (.ref l4), some (.ref ls), some (.ref l5), some (.ref D), none, some (.ref h), some (.str (houseD P1 K1 (qr.map (·.2))).shown), y13, y14, y15] ∧
            H' b6 = some (.tup [V.str n30, .str "", .non, .bl true, .int 0, .ref b1, .ref b2, .ref b3, .ref b4, .ref x30.1, .ref b5]) ∧ (∀ x ∈ [V.str n30, .str "", .non, .bl true, .int 0, .ref b1, .ref b2, .ref b3, .ref b4, .ref x30.1, .ref b5], EqT.Tng K H' x ∧ ∀ y ∈ qr, x ≠ .str y.2.name) ∧
            LI7 H' p c 1250 Ts A1 A2 A3 h t1 t2 he x30.1 ls D l4 P1 K1 qr x30.2 far kind (pr.map fun x => V.ref x.1) EL) ⟨_, rfl, f6, all, i11⟩ (fun j σ H' _ z => by obtain ⟨_, _, z, _⟩ := z; exact SqT.of z) ?_ ?_⟩
          · rintro j v σ H' hv ⟨y15, rfl, hT, al, i⟩
            obtain ⟨tv, nv⟩ := al v (List.mem_of_getElem? hv)
            refine ⟨_, rfl, _, rfl, h, t1, t2, he, P1, K1, qr, v, rfl, i.ho, okH, tv, nv, i.tg, i.t3, fun H'' S'' => ⟨true, rfl, iteF ?_⟩⟩
            have chS : Ch7 (A3 :: Ts) p H' H'' := S''.st.ch
            exact ⟨_, rfl, S''.st.kp _ _ hT (fun _ z => nomatch z), fun x hx => ⟨tng_kept S''.st.kp (al x hx).1, (al x hx).2⟩, i.go chS (i.pen.on S''.st.kp) (chS.tabS i.pen n1_3 i.t1) (chS.tabS i.pen n2_3 i.t2) S''.tl⟩
          · rintro σ H' ⟨y15, rfl, _, _, i⟩
            refine ⟨_, rfl, h, _, rfl, i.ho.dp, shH.sh, shH.nd, Nat.le_trans shH.dp (by decide), shH.fits (by decide), _, rfl, rfl, ?_⟩
            rw [decide_eq_true rfl]
            exact q H'
end
theorem tab_is {K : PySem.W.Frag} {x : Str} {f c T : Addr} {oc occ : Value} {od odc : Option Addr} {sl slc : Array (Option Value)} {fd : FuncData} {vs : Array Value}
    (a : PySem.W.nsIn K mainGlobals x = some (some (.ref f))) (l : K.lookup f = some ⟨oc, od, .func fd, sl⟩) (hc : fd.code = .ref c) (lc : K.lookup c = some ⟨occ, odc, .fields vs, slc⟩) (hv : (vs[11]? : Option Value) = some (.ref T)) :
    PySem.W.tabIn K x = some (c, T) := by
  unfold PySem.W.tabIn
  simp only [a, l, hc, lc, hv]
set_option maxHeartbeats 4000000 in
theorem all_mk {l : PySem.W.OpenLaw} {q : Program} {loose : List Str} {XP : (Str → Option Value) → Heap → Prop} {w : World} {s0 : Shared} {K : PySem.W.Frag} {h : Heap} {mg mb : Str → Option Value} {fa cE cxNe cxTw cxTm cxNn cxNm cxCl cxCd cxNd cxNf cxNg cxNgd cxNh cxNp cxNr cxNt cxNth cxNti f1 f2 f3 f4 f5 f6 f7 f8 f9 f10 f11 f12 f13 f14 f15 f16 f17 f18 f19 f20 f21 f22 f23 f24 f25 f26 f27 f28 f29 f30 f31 f32 c1 T1 c3 T3 c5 T5 c12 T12 c13 T13 c14 T14 c29 T29 c30 T30 c31 T31 aFo aBo aRa aFo1 aFo2 aFo3 aFo4 aFo5 aFo6 aFo7 aBo1 aBo2 aBo3 aBo4 : Addr} {dr1 : PySem.DefRec} {dr3 : PySem.DefRec} {dr5 : PySem.DefRec} {dr12 : PySem.DefRec} {dr13 : PySem.DefRec} {dr14 : PySem.DefRec} {dr29 : PySem.DefRec} {dr30 : PySem.DefRec} {dr31 : PySem.DefRec}
    (G : PySem.W.Ground q loose [] XP w s0 mg mb h) (X : K.In h) (hfa : mg "law" = some (.ref fa))
    {od1 an1 odc1 od2 an2 od3 an3 odc3 od4 an4 od5 an5 odc5 od6 an6 od7 an7 od8 an8 od9 an9 od10 an10 od11 an11 od12 an12 odc12 od13 an13 odc13 od14 an14 odc14 od15 an15 od16 an16 od17 an17 od18 an18 od19 an19 od20 an20 od21 an21 od22 an22 od23 an23 od24 an24 od25 an25 od26 an26 od27 an27 od28 an28 od29 an29 odc29 od30 an30 odc30 od31 an31 odc31 od32 an32 odFo1 odFo2 odFo3 odFo4 odFo5 odFo6 odFo7 odBo1 odBo2 odBo3 odBo4 : Option Addr} {sl1 slc1 sl2 sl3 slc3 sl4 sl5 slc5 sl6 sl7 sl8 sl9 sl10 sl11 sl12 slc12 sl13 slc13 sl14 slc14 sl15 sl16 sl17 sl18 sl19 sl20 sl21 sl22 sl23 sl24 sl25 sl26 sl27 sl28 sl29 slc29 sl30 slc30 sl31 slc31 sl32 slFo1 slFo2 slFo3 slFo4 slFo5 slFo6 slFo7 slBo1 slBo2 slBo3 slBo4 : Array (Option Value)} {oc1 kV1 dc1 pm1 ct1 occ1 oc2 kV2 dc2 pm2 ct2 cd2 oc3 kV3 dc3 pm3 ct3 occ3 oc4 kV4 dc4 pm4 ct4 cd4 oc5 kV5 dc5 pm5 ct5 occ5 oc6 kV6 dc6 pm6 ct6 cd6 oc7 kV7 dc7 pm7 ct7 cd7 oc8 kV8 dc8 pm8 ct8 cd8 oc9 kV9 dc9 pm9 ct9 cd9 oc10 kV10 dc10 pm10 ct10 cd10 oc11 kV11 dc11 pm11 ct11 cd11 oc12 kV12 dc12 pm12 ct12 occ12 oc13 kV13 dc13 pm13 ct13 occ13 oc14 kV14 dc14 pm14 ct14 occ14 oc15 kV15 dc15 pm15 ct15 cd15 oc16 kV16 dc16 pm16 ct16 cd16 oc17 kV17 dc17 pm17 ct17 cd17 oc18 kV18 dc18 pm18 ct18 cd18 oc19 kV19 dc19 pm19 ct19 cd19 oc20 kV20 dc20 pm20 ct20 cd20 oc21 kV21 dc21 pm21 ct21 cd21 oc22 kV22 dc22 pm22 ct22 cd22 oc23 kV23 dc23 pm23 ct23 cd23 oc24 kV24 dc24 pm24 ct24 cd24 oc25 kV25 dc25 pm25 ct25 cd25 oc26 kV26 dc26 pm26 ct26 cd26 oc27 kV27 dc27 pm27 ct27 cd27 oc28 kV28 dc28 pm28 ct28 cd28 oc29 kV29 dc29 pm29 ct29 occ29 oc30 kV30 dc30 pm30 ct30 occ30 oc31 kV31 dc31 pm31 ct31 occ31 oc32 kV32 dc32 pm32 ct32 cd32 : Value}
    {nFo nFo1 nFo2 nFo3 nFo4 nFo5 nFo6 nFo7 nBo nBo1 nBo2 nBo3 nBo4 nRa : Nat}
    {itFo1 itFo2 itFo3 itFo4 itFo5 itFo6 itFo7 itBo1 itBo2 itBo3 itBo4 vsc1 vsc3 vsc5 vsc12 vsc13 vsc14 vsc29 vsc30 vsc31 : Array Value}
    {esFo esBo esRa : Array DictEntry}
    {tRa1 tRa2 tRa3 tRa4 tRa5 tRa6 tRa7 tL tN tME : Tok}
    (a1 : PySem.W.nsIn K mainGlobals "is_name" = some (some (.ref f1)))
    (l1 : K.lookup f1 = some ⟨oc1, od1, .func (PySem.W.fnOf "is_name" "is_name" (defArgs sName) (defBody sName) (defScope sName) .none kV1 dc1 pm1 an1 (.ref c1) ct1), sl1⟩)
    (c_1 : PySem.W.codeIn K (.ref c1) "is_name" = true)
    (k1 : PySem.W.keepIn K (.ref f1) = true)
    (lc1 : K.lookup c1 = some ⟨occ1, odc1, .fields vsc1, slc1⟩)
    (hv1 : (vsc1[11]? : Option Value) = some (.ref T1))
    (nT1 : K.lookup T1 = none)
    (r1 : (PyProof.Rows.recsOf q).find? (fun e => e.name == ("is_name" : Str)) = some dr1)
    (a2 : PySem.W.nsIn K mainGlobals "is_whole" = some (some (.ref f2)))
    (l2 : K.lookup f2 = some ⟨oc2, od2, .func (PySem.W.fnOf "is_whole" "is_whole" (defArgs sWhole) (defBody sWhole) (defScope sWhole) .none kV2 dc2 pm2 an2 cd2 ct2), sl2⟩)
    (c_2 : PySem.W.codeIn K cd2 "is_whole" = true)
    (k2 : PySem.W.keepIn K (.ref f2) = true)
    (a3 : PySem.W.nsIn K mainGlobals "is_entry" = some (some (.ref f3)))
    (l3 : K.lookup f3 = some ⟨oc3, od3, .func (PySem.W.fnOf "is_entry" "is_entry" (defArgs sIsEntry) (defBody sIsEntry) (defScope sIsEntry) .none kV3 dc3 pm3 an3 (.ref c3) ct3), sl3⟩)
    (c_3 : PySem.W.codeIn K (.ref c3) "is_entry" = true)
    (k3 : PySem.W.keepIn K (.ref f3) = true)
    (lc3 : K.lookup c3 = some ⟨occ3, odc3, .fields vsc3, slc3⟩)
    (hv3 : (vsc3[11]? : Option Value) = some (.ref T3))
    (nT3 : K.lookup T3 = none)
    (r3 : (PyProof.Rows.recsOf q).find? (fun e => e.name == ("is_entry" : Str)) = some dr3)
    (a4 : PySem.W.nsIn K mainGlobals "fits" = some (some (.ref f4)))
    (l4 : K.lookup f4 = some ⟨oc4, od4, .func (PySem.W.fnOf "fits" "fits" (defArgs sFits) (defBody sFits) (defScope sFits) .none kV4 dc4 pm4 an4 cd4 ct4), sl4⟩)
    (c_4 : PySem.W.codeIn K cd4 "fits" = true)
    (k4 : PySem.W.keepIn K (.ref f4) = true)
    (a5 : PySem.W.nsIn K mainGlobals "is_entry_of" = some (some (.ref f5)))
    (l5 : K.lookup f5 = some ⟨oc5, od5, .func (PySem.W.fnOf "is_entry_of" "is_entry_of" (defArgs sIsEntryOf) (defBody sIsEntryOf) (defScope sIsEntryOf) .none kV5 dc5 pm5 an5 (.ref c5) ct5), sl5⟩)
    (c_5 : PySem.W.codeIn K (.ref c5) "is_entry_of" = true)
    (k5 : PySem.W.keepIn K (.ref f5) = true)
    (lc5 : K.lookup c5 = some ⟨occ5, odc5, .fields vsc5, slc5⟩)
    (hv5 : (vsc5[11]? : Option Value) = some (.ref T5))
    (nT5 : K.lookup T5 = none)
    (r5 : (PyProof.Rows.recsOf q).find? (fun e => e.name == ("is_entry_of" : Str)) = some dr5)
    (a6 : PySem.W.nsIn K mainGlobals "good_of" = some (some (.ref f6)))
    (l6 : K.lookup f6 = some ⟨oc6, od6, .func (PySem.W.fnOf "good_of" "good_of" (defArgs sGood) (defBody sGood) (defScope sGood) .none kV6 dc6 pm6 an6 cd6 ct6), sl6⟩)
    (c_6 : PySem.W.codeIn K cd6 "good_of" = true)
    (k6 : PySem.W.keepIn K (.ref f6) = true)
    (a7 : PySem.W.nsIn K mainGlobals "places_of" = some (some (.ref f7)))
    (l7 : K.lookup f7 = some ⟨oc7, od7, .func (PySem.W.fnOf "places_of" "places_of" (defArgs sPlacesOf) (defBody sPlacesOf) (defScope sPlacesOf) .none kV7 dc7 pm7 an7 cd7 ct7), sl7⟩)
    (c_7 : PySem.W.codeIn K cd7 "places_of" = true)
    (k7 : PySem.W.keepIn K (.ref f7) = true)
    (a8 : PySem.W.nsIn K mainGlobals "order_of" = some (some (.ref f8)))
    (l8 : K.lookup f8 = some ⟨oc8, od8, .func (PySem.W.fnOf "order_of" "order_of" (defArgs sOrd) (defBody sOrd) (defScope sOrd) .none kV8 dc8 pm8 an8 cd8 ct8), sl8⟩)
    (c_8 : PySem.W.codeIn K cd8 "order_of" = true)
    (k8 : PySem.W.keepIn K (.ref f8) = true)
    (a9 : PySem.W.nsIn K mainGlobals "with_places" = some (some (.ref f9)))
    (l9 : K.lookup f9 = some ⟨oc9, od9, .func (PySem.W.fnOf "with_places" "with_places" (defArgs sWithPlaces) (defBody sWithPlaces) (defScope sWithPlaces) .none kV9 dc9 pm9 an9 cd9 ct9), sl9⟩)
    (c_9 : PySem.W.codeIn K cd9 "with_places" = true)
    (k9 : PySem.W.keepIn K (.ref f9) = true)
    (a10 : PySem.W.nsIn K mainGlobals "in_order" = some (some (.ref f10)))
    (l10 : K.lookup f10 = some ⟨oc10, od10, .func (PySem.W.fnOf "in_order" "in_order" (defArgs sInOrder) (defBody sInOrder) (defScope sInOrder) .none kV10 dc10 pm10 an10 cd10 ct10), sl10⟩)
    (c_10 : PySem.W.codeIn K cd10 "in_order" = true)
    (k10 : PySem.W.keepIn K (.ref f10) = true)
    (a11 : PySem.W.nsIn K mainGlobals "entry_called" = some (some (.ref f11)))
    (l11 : K.lookup f11 = some ⟨oc11, od11, .func (PySem.W.fnOf "entry_called" "entry_called" (defArgs sCalled) (defBody sCalled) (defScope sCalled) .none kV11 dc11 pm11 an11 cd11 ct11), sl11⟩)
    (c_11 : PySem.W.codeIn K cd11 "entry_called" = true)
    (k11 : PySem.W.keepIn K (.ref f11) = true)
    (a12 : PySem.W.nsIn K mainGlobals "with_entry" = some (some (.ref f12)))
    (l12 : K.lookup f12 = some ⟨oc12, od12, .func (PySem.W.fnOf "with_entry" "with_entry" (defArgs sWithE) (defBody sWithE) (defScope sWithE) .none kV12 dc12 pm12 an12 (.ref c12) ct12), sl12⟩)
    (c_12 : PySem.W.codeIn K (.ref c12) "with_entry" = true)
    (k12 : PySem.W.keepIn K (.ref f12) = true)
    (lc12 : K.lookup c12 = some ⟨occ12, odc12, .fields vsc12, slc12⟩)
    (hv12 : (vsc12[11]? : Option Value) = some (.ref T12))
    (nT12 : K.lookup T12 = none)
    (r12 : (PyProof.Rows.recsOf q).find? (fun e => e.name == ("with_entry" : Str)) = some dr12)
    (a13 : PySem.W.nsIn K mainGlobals "without_entry" = some (some (.ref f13)))
    (l13 : K.lookup f13 = some ⟨oc13, od13, .func (PySem.W.fnOf "without_entry" "without_entry" (defArgs sWithoutE) (defBody sWithoutE) (defScope sWithoutE) .none kV13 dc13 pm13 an13 (.ref c13) ct13), sl13⟩)
    (c_13 : PySem.W.codeIn K (.ref c13) "without_entry" = true)
    (k13 : PySem.W.keepIn K (.ref f13) = true)
    (lc13 : K.lookup c13 = some ⟨occ13, odc13, .fields vsc13, slc13⟩)
    (hv13 : (vsc13[11]? : Option Value) = some (.ref T13))
    (nT13 : K.lookup T13 = none)
    (r13 : (PyProof.Rows.recsOf q).find? (fun e => e.name == ("without_entry" : Str)) = some dr13)
    (a14 : PySem.W.nsIn K mainGlobals "with_turned" = some (some (.ref f14)))
    (l14 : K.lookup f14 = some ⟨oc14, od14, .func (PySem.W.fnOf "with_turned" "with_turned" (defArgs sTurned) (defBody sTurned) (defScope sTurned) .none kV14 dc14 pm14 an14 (.ref c14) ct14), sl14⟩)
    (c_14 : PySem.W.codeIn K (.ref c14) "with_turned" = true)
    (k14 : PySem.W.keepIn K (.ref f14) = true)
    (lc14 : K.lookup c14 = some ⟨occ14, odc14, .fields vsc14, slc14⟩)
    (hv14 : (vsc14[11]? : Option Value) = some (.ref T14))
    (nT14 : K.lookup T14 = none)
    (r14 : (PyProof.Rows.recsOf q).find? (fun e => e.name == ("with_turned" : Str)) = some dr14)
    (a15 : PySem.W.nsIn K mainGlobals "_law_pen" = some (some (.ref f15)))
    (l15 : K.lookup f15 = some ⟨oc15, od15, .func (PySem.W.fnOf "_law_pen" "_law_pen" (defArgs sPen) (defBody sPen) (defScope sPen) .none kV15 dc15 pm15 an15 cd15 ct15), sl15⟩)
    (c_15 : PySem.W.codeIn K cd15 "_law_pen" = true)
    (k15 : PySem.W.keepIn K (.ref f15) = true)
    (a16 : PySem.W.nsIn K mainGlobals "_law_take" = some (some (.ref f16)))
    (l16 : K.lookup f16 = some ⟨oc16, od16, .func (PySem.W.fnOf "_law_take" "_law_take" (defArgs sTake) (defBody sTake) (defScope sTake) .none kV16 dc16 pm16 an16 cd16 ct16), sl16⟩)
    (c_16 : PySem.W.codeIn K cd16 "_law_take" = true)
    (k16 : PySem.W.keepIn K (.ref f16) = true)
    (a17 : PySem.W.nsIn K mainGlobals "_law_names" = some (some (.ref f17)))
    (l17 : K.lookup f17 = some ⟨oc17, od17, .func (PySem.W.fnOf "_law_names" "_law_names" (defArgs sNames) (defBody sNames) (defScope sNames) .none kV17 dc17 pm17 an17 cd17 ct17), sl17⟩)
    (c_17 : PySem.W.codeIn K cd17 "_law_names" = true)
    (k17 : PySem.W.keepIn K (.ref f17) = true)
    (a18 : PySem.W.nsIn K mainGlobals "_law_words" = some (some (.ref f18)))
    (l18 : K.lookup f18 = some ⟨oc18, od18, .func (PySem.W.fnOf "_law_words" "_law_words" (defArgs sWords) (defBody sWords) (defScope sWords) .none kV18 dc18 pm18 an18 cd18 ct18), sl18⟩)
    (c_18 : PySem.W.codeIn K cd18 "_law_words" = true)
    (k18 : PySem.W.keepIn K (.ref f18) = true)
    (a19 : PySem.W.nsIn K mainGlobals "_law_moments" = some (some (.ref f19)))
    (l19 : K.lookup f19 = some ⟨oc19, od19, .func (PySem.W.fnOf "_law_moments" "_law_moments" (defArgs sMoments) (defBody sMoments) (defScope sMoments) .none kV19 dc19 pm19 an19 cd19 ct19), sl19⟩)
    (c_19 : PySem.W.codeIn K cd19 "_law_moments" = true)
    (k19 : PySem.W.keepIn K (.ref f19) = true)
    (a20 : PySem.W.nsIn K mainGlobals "_law_many" = some (some (.ref f20)))
    (l20 : K.lookup f20 = some ⟨oc20, od20, .func (PySem.W.fnOf "_law_many" "_law_many" (defArgs sMany) (defBody sMany) (defScope sMany) .none kV20 dc20 pm20 an20 cd20 ct20), sl20⟩)
    (c_20 : PySem.W.codeIn K cd20 "_law_many" = true)
    (k20 : PySem.W.keepIn K (.ref f20) = true)
    (a21 : PySem.W.nsIn K mainGlobals "_law_entry_of" = some (some (.ref f21)))
    (l21 : K.lookup f21 = some ⟨oc21, od21, .func (PySem.W.fnOf "_law_entry_of" "_law_entry_of" (defArgs sEntryOf) (defBody sEntryOf) (defScope sEntryOf) .none kV21 dc21 pm21 an21 cd21 ct21), sl21⟩)
    (c_21 : PySem.W.codeIn K cd21 "_law_entry_of" = true)
    (k21 : PySem.W.keepIn K (.ref f21) = true)
    (a22 : PySem.W.nsIn K mainGlobals "_law_entry" = some (some (.ref f22)))
    (l22 : K.lookup f22 = some ⟨oc22, od22, .func (PySem.W.fnOf "_law_entry" "_law_entry" (defArgs sEntry) (defBody sEntry) (defScope sEntry) .none kV22 dc22 pm22 an22 cd22 ct22), sl22⟩)
    (c_22 : PySem.W.codeIn K cd22 "_law_entry" = true)
    (k22 : PySem.W.keepIn K (.ref f22) = true)
    (a23 : PySem.W.nsIn K mainGlobals "_law_order" = some (some (.ref f23)))
    (l23 : K.lookup f23 = some ⟨oc23, od23, .func (PySem.W.fnOf "_law_order" "_law_order" (defArgs sOwn) (defBody sOwn) (defScope sOwn) .none kV23 dc23 pm23 an23 cd23 ct23), sl23⟩)
    (c_23 : PySem.W.codeIn K cd23 "_law_order" = true)
    (k23 : PySem.W.keepIn K (.ref f23) = true)
    (a24 : PySem.W.nsIn K mainGlobals "_law_class" = some (some (.ref f24)))
    (l24 : K.lookup f24 = some ⟨oc24, od24, .func (PySem.W.fnOf "_law_class" "_law_class" (defArgs sClass) (defBody sClass) (defScope sClass) .none kV24 dc24 pm24 an24 cd24 ct24), sl24⟩)
    (c_24 : PySem.W.codeIn K cd24 "_law_class" = true)
    (k24 : PySem.W.keepIn K (.ref f24) = true)
    (a25 : PySem.W.nsIn K mainGlobals "_law_told" = some (some (.ref f25)))
    (l25 : K.lookup f25 = some ⟨oc25, od25, .func (PySem.W.fnOf "_law_told" "_law_told" (defArgs sLTold) (defBody sLTold) (defScope sLTold) .none kV25 dc25 pm25 an25 cd25 ct25), sl25⟩)
    (c_25 : PySem.W.codeIn K cd25 "_law_told" = true)
    (k25 : PySem.W.keepIn K (.ref f25) = true)
    (a26 : PySem.W.nsIn K mainGlobals "_law_sorted" = some (some (.ref f26)))
    (l26 : K.lookup f26 = some ⟨oc26, od26, .func (PySem.W.fnOf "_law_sorted" "_law_sorted" (defArgs sSorted) (defBody sSorted) (defScope sSorted) .none kV26 dc26 pm26 an26 cd26 ct26), sl26⟩)
    (c_26 : PySem.W.codeIn K cd26 "_law_sorted" = true)
    (k26 : PySem.W.keepIn K (.ref f26) = true)
    (a27 : PySem.W.nsIn K mainGlobals "_law_twin" = some (some (.ref f27)))
    (l27 : K.lookup f27 = some ⟨oc27, od27, .func (PySem.W.fnOf "_law_twin" "_law_twin" (defArgs sTwin) (defBody sTwin) (defScope sTwin) .none kV27 dc27 pm27 an27 cd27 ct27), sl27⟩)
    (c_27 : PySem.W.codeIn K cd27 "_law_twin" = true)
    (k27 : PySem.W.keepIn K (.ref f27) = true)
    (a28 : PySem.W.nsIn K mainGlobals "_law_put_in" = some (some (.ref f28)))
    (l28 : K.lookup f28 = some ⟨oc28, od28, .func (PySem.W.fnOf "_law_put_in" "_law_put_in" (defArgs sPutIn) (defBody sPutIn) (defScope sPutIn) .none kV28 dc28 pm28 an28 cd28 ct28), sl28⟩)
    (c_28 : PySem.W.codeIn K cd28 "_law_put_in" = true)
    (k28 : PySem.W.keepIn K (.ref f28) = true)
    (a29 : PySem.W.nsIn K mainGlobals "_law_put_right" = some (some (.ref f29)))
    (l29 : K.lookup f29 = some ⟨oc29, od29, .func (PySem.W.fnOf "_law_put_right" "_law_put_right" (defArgs sPutR) (defBody sPutR) (defScope sPutR) .none kV29 dc29 pm29 an29 (.ref c29) ct29), sl29⟩)
    (c_29 : PySem.W.codeIn K (.ref c29) "_law_put_right" = true)
    (k29 : PySem.W.keepIn K (.ref f29) = true)
    (lc29 : K.lookup c29 = some ⟨occ29, odc29, .fields vsc29, slc29⟩)
    (hv29 : (vsc29[11]? : Option Value) = some (.ref T29))
    (nT29 : K.lookup T29 = none)
    (r29 : (PyProof.Rows.recsOf q).find? (fun e => e.name == ("_law_put_right" : Str)) = some dr29)
    (a30 : PySem.W.nsIn K mainGlobals "_law_left_right" = some (some (.ref f30)))
    (l30 : K.lookup f30 = some ⟨oc30, od30, .func (PySem.W.fnOf "_law_left_right" "_law_left_right" (defArgs sLeftR) (defBody sLeftR) (defScope sLeftR) .none kV30 dc30 pm30 an30 (.ref c30) ct30), sl30⟩)
    (c_30 : PySem.W.codeIn K (.ref c30) "_law_left_right" = true)
    (k30 : PySem.W.keepIn K (.ref f30) = true)
    (lc30 : K.lookup c30 = some ⟨occ30, odc30, .fields vsc30, slc30⟩)
    (hv30 : (vsc30[11]? : Option Value) = some (.ref T30))
    (nT30 : K.lookup T30 = none)
    (r30 : (PyProof.Rows.recsOf q).find? (fun e => e.name == ("_law_left_right" : Str)) = some dr30)
    (a31 : PySem.W.nsIn K mainGlobals "_law_no_name" = some (some (.ref f31)))
    (l31 : K.lookup f31 = some ⟨oc31, od31, .func (PySem.W.fnOf "_law_no_name" "_law_no_name" (defArgs sNoName) (defBody sNoName) (defScope sNoName) .none kV31 dc31 pm31 an31 (.ref c31) ct31), sl31⟩)
    (c_31 : PySem.W.codeIn K (.ref c31) "_law_no_name" = true)
    (k31 : PySem.W.keepIn K (.ref f31) = true)
    (lc31 : K.lookup c31 = some ⟨occ31, odc31, .fields vsc31, slc31⟩)
    (hv31 : (vsc31[11]? : Option Value) = some (.ref T31))
    (nT31 : K.lookup T31 = none)
    (r31 : (PyProof.Rows.recsOf q).find? (fun e => e.name == ("_law_no_name" : Str)) = some dr31)
    (a32 : PySem.W.nsIn K mainGlobals "law" = some (some (.ref f32)))
    (l32 : K.lookup f32 = some ⟨oc32, od32, .func (PySem.W.fnOf "law" "law" (defArgs sLaw) (defBody sLaw) (defScope sLaw) .none kV32 dc32 pm32 an32 cd32 ct32), sl32⟩)
    (c_32 : PySem.W.codeIn K cd32 "law" = true)
    (k32 : PySem.W.keepIn K (.ref f32) = true)
    (ne13 : T1 ≠ T3)
    (ne15 : T1 ≠ T5)
    (ne35 : T3 ≠ T5)
    (ne112 : T1 ≠ T12)
    (ne312 : T3 ≠ T12)
    (ne512 : T5 ≠ T12)
    (ne113 : T1 ≠ T13)
    (ne313 : T3 ≠ T13)
    (ne513 : T5 ≠ T13)
    (ne1213 : T12 ≠ T13)
    (ne114 : T1 ≠ T14)
    (ne314 : T3 ≠ T14)
    (ne514 : T5 ≠ T14)
    (ne1214 : T12 ≠ T14)
    (ne1314 : T13 ≠ T14)
    (ne129 : T1 ≠ T29)
    (ne329 : T3 ≠ T29)
    (ne529 : T5 ≠ T29)
    (ne1229 : T12 ≠ T29)
    (ne1329 : T13 ≠ T29)
    (ne1429 : T14 ≠ T29)
    (ne130 : T1 ≠ T30)
    (ne330 : T3 ≠ T30)
    (ne530 : T5 ≠ T30)
    (ne1230 : T12 ≠ T30)
    (ne1330 : T13 ≠ T30)
    (ne1430 : T14 ≠ T30)
    (ne2930 : T29 ≠ T30)
    (ne131 : T1 ≠ T31)
    (ne331 : T3 ≠ T31)
    (ne531 : T5 ≠ T31)
    (ne1231 : T12 ≠ T31)
    (ne1331 : T13 ≠ T31)
    (ne1431 : T14 ≠ T31)
    (ne2931 : T29 ≠ T31)
    (ne3031 : T30 ≠ T31)
    (AFo : PySem.W.nsIn K mainGlobals "FORMS" = some (some (.ref aFo)))
    (LFo : K.lookup aFo = some ⟨.type "dict", none, .dict esFo nFo, #[]⟩)
    (litFo : PySem.W.KeysLit w.params esFo.toList)
    (lowFo : (aFo == sysModules) = false)
    (gFo1 : PySem.W.nsIn K aFo "come" = some (some (.ref aFo1)))
    (LFo1 : K.lookup aFo1 = some ⟨.type "tuple", odFo1, .seq itFo1 nFo1, slFo1⟩)
    (zFo1 : itFo1.size ≤ sizeLine)
    (vFo1 : Vals ([.str "name", .str "moment", .str "name", .str "name", .str "many", .str "price"] : List V) itFo1.toList)
    (gFo2 : PySem.W.nsIn K aFo "go" = some (some (.ref aFo2)))
    (LFo2 : K.lookup aFo2 = some ⟨.type "tuple", odFo2, .seq itFo2 nFo2, slFo2⟩)
    (zFo2 : itFo2.size ≤ sizeLine)
    (vFo2 : Vals ([.str "name", .str "moment", .str "name", .str "name", .str "many"] : List V) itFo2.toList)
    (gFo3 : PySem.W.nsIn K aFo "move" = some (some (.ref aFo3)))
    (LFo3 : K.lookup aFo3 = some ⟨.type "tuple", odFo3, .seq itFo3 nFo3, slFo3⟩)
    (zFo3 : itFo3.size ≤ sizeLine)
    (vFo3 : Vals ([.str "name", .str "moment", .str "name", .str "name", .str "name", .str "many"] : List V) itFo3.toList)
    (gFo4 : PySem.W.nsIn K aFo "some" = some (some (.ref aFo4)))
    (LFo4 : K.lookup aFo4 = some ⟨.type "tuple", odFo4, .seq itFo4 nFo4, slFo4⟩)
    (zFo4 : itFo4.size ≤ sizeLine)
    (vFo4 : Vals ([.str "name", .str "moment", .str "name", .str "name", .str "end"] : List V) itFo4.toList)
    (gFo5 : PySem.W.nsIn K aFo "swap" = some (some (.ref aFo5)))
    (LFo5 : K.lookup aFo5 = some ⟨.type "tuple", odFo5, .seq itFo5 nFo5, slFo5⟩)
    (zFo5 : itFo5.size ≤ sizeLine)
    (vFo5 : Vals ([.str "name", .str "moment", .str "name", .str "name"] : List V) itFo5.toList)
    (gFo6 : PySem.W.nsIn K aFo "count" = some (some (.ref aFo6)))
    (LFo6 : K.lookup aFo6 = some ⟨.type "tuple", odFo6, .seq itFo6 nFo6, slFo6⟩)
    (zFo6 : itFo6.size ≤ sizeLine)
    (vFo6 : Vals ([.str "name", .str "moment", .str "name", .str "name", .str "counted", .str "name"] : List V) itFo6.toList)
    (gFo7 : PySem.W.nsIn K aFo "look" = some (some (.ref aFo7)))
    (LFo7 : K.lookup aFo7 = some ⟨.type "tuple", odFo7, .seq itFo7 nFo7, slFo7⟩)
    (zFo7 : itFo7.size ≤ sizeLine)
    (vFo7 : Vals ([.str "name", .str "moment", .str "name", .str "name"] : List V) itFo7.toList)
    (ABo : PySem.W.nsIn K mainGlobals "BOUNDS" = some (some (.ref aBo)))
    (LBo : K.lookup aBo = some ⟨.type "dict", none, .dict esBo nBo, #[]⟩)
    (litBo : PySem.W.KeysLit w.params esBo.toList)
    (lowBo : (aBo == sysModules) = false)
    (gBo1 : PySem.W.nsIn K aBo "moment" = some (some (.ref aBo1)))
    (LBo1 : K.lookup aBo1 = some ⟨.type "tuple", odBo1, .seq itBo1 nBo1, slBo1⟩)
    (zBo1 : itBo1.size ≤ sizeLine)
    (vBo1 : Vals ([.int 0, .int 9999] : List V) itBo1.toList)
    (gBo2 : PySem.W.nsIn K aBo "many" = some (some (.ref aBo2)))
    (LBo2 : K.lookup aBo2 = some ⟨.type "tuple", odBo2, .seq itBo2 nBo2, slBo2⟩)
    (zBo2 : itBo2.size ≤ sizeLine)
    (vBo2 : Vals ([.int 1, .int 1000000000] : List V) itBo2.toList)
    (gBo3 : PySem.W.nsIn K aBo "counted" = some (some (.ref aBo3)))
    (LBo3 : K.lookup aBo3 = some ⟨.type "tuple", odBo3, .seq itBo3 nBo3, slBo3⟩)
    (zBo3 : itBo3.size ≤ sizeLine)
    (vBo3 : Vals ([.int 0, .int 1000000000] : List V) itBo3.toList)
    (gBo4 : PySem.W.nsIn K aBo "price" = some (some (.ref aBo4)))
    (LBo4 : K.lookup aBo4 = some ⟨.type "tuple", odBo4, .seq itBo4 nBo4, slBo4⟩)
    (zBo4 : itBo4.size ≤ sizeLine)
    (vBo4 : Vals ([.int 0, .int 1000000000] : List V) itBo4.toList)
    (ARa : PySem.W.nsIn K mainGlobals "RANKS" = some (some (.ref aRa)))
    (LRa : K.lookup aRa = some ⟨.type "dict", none, .dict esRa nRa, #[]⟩)
    (litRa : PySem.W.KeysLit w.params esRa.toList)
    (lowRa : (aRa == sysModules) = false)
    (gRa1 : PySem.W.nsIn K aRa "come" = some (some (.int 1 tRa1)))
    (gRa2 : PySem.W.nsIn K aRa "go" = some (some (.int 1 tRa2)))
    (gRa3 : PySem.W.nsIn K aRa "move" = some (some (.int 1 tRa3)))
    (gRa4 : PySem.W.nsIn K aRa "some" = some (some (.int 1 tRa4)))
    (gRa5 : PySem.W.nsIn K aRa "swap" = some (some (.int 0 tRa5)))
    (gRa6 : PySem.W.nsIn K aRa "count" = some (some (.int 2 tRa6)))
    (gRa7 : PySem.W.nsIn K aRa "look" = some (some (.int 2 tRa7)))
    (zL : PySem.W.nsIn K mainGlobals "LETTERS" = some (some (.str abc tL)))
    (zN : PySem.W.nsIn K mainGlobals "LONGEST_NAME" = some (some (.int 8 tN)))
    (zME : PySem.W.nsIn K mainGlobals "MOST_ENTRIES" = some (some (.int 30 tME)))
    (xFo : (esFo.toList.all fun e => match e.key with | .str s _ => words7.any fun y => s == y | _ => false) = true)
    (HE : PySem.W.nsIn K mainGlobals "CountError" = some (some (.ref cE)))
    (HNe : PySem.W.nsIn K mainGlobals "NoEntry" = some (some (.ref cxNe)))
    (HTw : PySem.W.nsIn K mainGlobals "Twice" = some (some (.ref cxTw)))
    (HTm : PySem.W.nsIn K mainGlobals "TooMany" = some (some (.ref cxTm)))
    (HNn : PySem.W.nsIn K mainGlobals "NoName" = some (some (.ref cxNn)))
    (HNm : PySem.W.nsIn K mainGlobals "NoMove" = some (some (.ref cxNm)))
    (HCl : PySem.W.nsIn K mainGlobals "Clash" = some (some (.ref cxCl)))
    (HCd : PySem.W.nsIn K mainGlobals "Closed" = some (some (.ref cxCd)))
    (HNd : PySem.W.nsIn K mainGlobals "NoDay" = some (some (.ref cxNd)))
    (HNf : PySem.W.nsIn K mainGlobals "NoFilling" = some (some (.ref cxNf)))
    (HNg : PySem.W.nsIn K mainGlobals "NoGo" = some (some (.ref cxNg)))
    (HNgd : PySem.W.nsIn K mainGlobals "NoGood" = some (some (.ref cxNgd)))
    (HNh : PySem.W.nsIn K mainGlobals "NoHouse" = some (some (.ref cxNh)))
    (HNp : PySem.W.nsIn K mainGlobals "NoPlace" = some (some (.ref cxNp)))
    (HNr : PySem.W.nsIn K mainGlobals "NoRow" = some (some (.ref cxNr)))
    (HNt : PySem.W.nsIn K mainGlobals "NoText" = some (some (.ref cxNt)))
    (HNth : PySem.W.nsIn K mainGlobals "NoThen" = some (some (.ref cxNth)))
    (HNti : PySem.W.nsIn K mainGlobals "NoTie" = some (some (.ref cxNti)))
    (e6 : PySem.W.specialIn K (.builtin "object.__class__") "__get__" = some (some (.builtin "getset_descriptor.__get__")))
    (e7 : PySem.W.takesIn K (.builtin "object.__class__") = some true)
    (exNe : PySem.W.excIn K cxNe [.type "ValueError", .type "Exception", .type "BaseException", .type "object"] "ValueError.__new__" = true)
    (kpNe : PySem.W.keepIn K (.ref cxNe) = true)
    (sbNe : PySem.W.subIn K (.ref cxNe) (.type "BaseException") = some true)
    (tyNe : PySem.W.typeIn K (.ref cxNe) = some (.type "type"))
    (e1Ne : PySem.W.findIn K (.ref cxNe) "__getattribute__" = some (some (.builtin "BaseException.__getattribute__")))
    (e2Ne : PySem.W.findIn K (.ref cxNe) "__getattr__" = some none)
    (e4Ne : PySem.W.hasDictIn K cxNe = true)
    (e5Ne : PySem.W.findIn K (.ref cxNe) "__class__" = some (some (.builtin "object.__class__")))
    (e8Ne : PySem.W.mroIn K cxNe (.type "object") = some true)
    (qNeNe : PySem.W.kitOne K (.ref cxNe) (.ref cxNe) = some true)
    (qNeTw : PySem.W.kitOne K (.ref cxNe) (.ref cxTw) = some false)
    (qNeTm : PySem.W.kitOne K (.ref cxNe) (.ref cxTm) = some false)
    (qNeNn : PySem.W.kitOne K (.ref cxNe) (.ref cxNn) = some false)
    (qNeNm : PySem.W.kitOne K (.ref cxNe) (.ref cxNm) = some false)
    (oaNe : PySem.W.kitAny K (.ref cxNe) [.ref cxCl, .ref cxCd, .ref cxNd, .ref cxNf, .ref cxNg, .ref cxNgd, .ref cxNh, .ref cxNp, .ref cxNr, .ref cxNt] = some false)
    (obNe : PySem.W.kitAny K (.ref cxNe) [.ref cxNth, .ref cxNti] = some false)
    (vNe : PySem.W.kitOne K (.ref cxNe) (.type "ValueError") = some true)
    (cmNe : PySem.W.exmOne K (.ref cxNe) (.ref cE) = some true)
    (exTw : PySem.W.excIn K cxTw [.type "ValueError", .type "Exception", .type "BaseException", .type "object"] "ValueError.__new__" = true)
    (kpTw : PySem.W.keepIn K (.ref cxTw) = true)
    (sbTw : PySem.W.subIn K (.ref cxTw) (.type "BaseException") = some true)
    (tyTw : PySem.W.typeIn K (.ref cxTw) = some (.type "type"))
    (e1Tw : PySem.W.findIn K (.ref cxTw) "__getattribute__" = some (some (.builtin "BaseException.__getattribute__")))
    (e2Tw : PySem.W.findIn K (.ref cxTw) "__getattr__" = some none)
    (e4Tw : PySem.W.hasDictIn K cxTw = true)
    (e5Tw : PySem.W.findIn K (.ref cxTw) "__class__" = some (some (.builtin "object.__class__")))
    (e8Tw : PySem.W.mroIn K cxTw (.type "object") = some true)
    (qTwNe : PySem.W.kitOne K (.ref cxTw) (.ref cxNe) = some false)
    (qTwTw : PySem.W.kitOne K (.ref cxTw) (.ref cxTw) = some true)
    (qTwTm : PySem.W.kitOne K (.ref cxTw) (.ref cxTm) = some false)
    (qTwNn : PySem.W.kitOne K (.ref cxTw) (.ref cxNn) = some false)
    (qTwNm : PySem.W.kitOne K (.ref cxTw) (.ref cxNm) = some false)
    (oaTw : PySem.W.kitAny K (.ref cxTw) [.ref cxCl, .ref cxCd, .ref cxNd, .ref cxNf, .ref cxNg, .ref cxNgd, .ref cxNh, .ref cxNp, .ref cxNr, .ref cxNt] = some false)
    (obTw : PySem.W.kitAny K (.ref cxTw) [.ref cxNth, .ref cxNti] = some false)
    (vTw : PySem.W.kitOne K (.ref cxTw) (.type "ValueError") = some true)
    (cmTw : PySem.W.exmOne K (.ref cxTw) (.ref cE) = some true)
    (exTm : PySem.W.excIn K cxTm [.type "ValueError", .type "Exception", .type "BaseException", .type "object"] "ValueError.__new__" = true)
    (kpTm : PySem.W.keepIn K (.ref cxTm) = true)
    (sbTm : PySem.W.subIn K (.ref cxTm) (.type "BaseException") = some true)
    (tyTm : PySem.W.typeIn K (.ref cxTm) = some (.type "type"))
    (e1Tm : PySem.W.findIn K (.ref cxTm) "__getattribute__" = some (some (.builtin "BaseException.__getattribute__")))
    (e2Tm : PySem.W.findIn K (.ref cxTm) "__getattr__" = some none)
    (e4Tm : PySem.W.hasDictIn K cxTm = true)
    (e5Tm : PySem.W.findIn K (.ref cxTm) "__class__" = some (some (.builtin "object.__class__")))
    (e8Tm : PySem.W.mroIn K cxTm (.type "object") = some true)
    (qTmNe : PySem.W.kitOne K (.ref cxTm) (.ref cxNe) = some false)
    (qTmTw : PySem.W.kitOne K (.ref cxTm) (.ref cxTw) = some false)
    (qTmTm : PySem.W.kitOne K (.ref cxTm) (.ref cxTm) = some true)
    (qTmNn : PySem.W.kitOne K (.ref cxTm) (.ref cxNn) = some false)
    (qTmNm : PySem.W.kitOne K (.ref cxTm) (.ref cxNm) = some false)
    (oaTm : PySem.W.kitAny K (.ref cxTm) [.ref cxCl, .ref cxCd, .ref cxNd, .ref cxNf, .ref cxNg, .ref cxNgd, .ref cxNh, .ref cxNp, .ref cxNr, .ref cxNt] = some false)
    (obTm : PySem.W.kitAny K (.ref cxTm) [.ref cxNth, .ref cxNti] = some false)
    (vTm : PySem.W.kitOne K (.ref cxTm) (.type "ValueError") = some true)
    (cmTm : PySem.W.exmOne K (.ref cxTm) (.ref cE) = some true)
    (exNn : PySem.W.excIn K cxNn [.type "ValueError", .type "Exception", .type "BaseException", .type "object"] "ValueError.__new__" = true)
    (kpNn : PySem.W.keepIn K (.ref cxNn) = true)
    (sbNn : PySem.W.subIn K (.ref cxNn) (.type "BaseException") = some true)
    (tyNn : PySem.W.typeIn K (.ref cxNn) = some (.type "type"))
    (e1Nn : PySem.W.findIn K (.ref cxNn) "__getattribute__" = some (some (.builtin "BaseException.__getattribute__")))
    (e2Nn : PySem.W.findIn K (.ref cxNn) "__getattr__" = some none)
    (e4Nn : PySem.W.hasDictIn K cxNn = true)
    (e5Nn : PySem.W.findIn K (.ref cxNn) "__class__" = some (some (.builtin "object.__class__")))
    (e8Nn : PySem.W.mroIn K cxNn (.type "object") = some true)
    (qNnNe : PySem.W.kitOne K (.ref cxNn) (.ref cxNe) = some false)
    (qNnTw : PySem.W.kitOne K (.ref cxNn) (.ref cxTw) = some false)
    (qNnTm : PySem.W.kitOne K (.ref cxNn) (.ref cxTm) = some false)
    (qNnNn : PySem.W.kitOne K (.ref cxNn) (.ref cxNn) = some true)
    (qNnNm : PySem.W.kitOne K (.ref cxNn) (.ref cxNm) = some false)
    (oaNn : PySem.W.kitAny K (.ref cxNn) [.ref cxCl, .ref cxCd, .ref cxNd, .ref cxNf, .ref cxNg, .ref cxNgd, .ref cxNh, .ref cxNp, .ref cxNr, .ref cxNt] = some false)
    (obNn : PySem.W.kitAny K (.ref cxNn) [.ref cxNth, .ref cxNti] = some false)
    (vNn : PySem.W.kitOne K (.ref cxNn) (.type "ValueError") = some true)
    (cmNn : PySem.W.exmOne K (.ref cxNn) (.ref cE) = some true)
    (exNm : PySem.W.excIn K cxNm [.type "ValueError", .type "Exception", .type "BaseException", .type "object"] "ValueError.__new__" = true)
    (kpNm : PySem.W.keepIn K (.ref cxNm) = true)
    (sbNm : PySem.W.subIn K (.ref cxNm) (.type "BaseException") = some true)
    (tyNm : PySem.W.typeIn K (.ref cxNm) = some (.type "type"))
    (e1Nm : PySem.W.findIn K (.ref cxNm) "__getattribute__" = some (some (.builtin "BaseException.__getattribute__")))
    (e2Nm : PySem.W.findIn K (.ref cxNm) "__getattr__" = some none)
    (e4Nm : PySem.W.hasDictIn K cxNm = true)
    (e5Nm : PySem.W.findIn K (.ref cxNm) "__class__" = some (some (.builtin "object.__class__")))
    (e8Nm : PySem.W.mroIn K cxNm (.type "object") = some true)
    (qNmNe : PySem.W.kitOne K (.ref cxNm) (.ref cxNe) = some false)
    (qNmTw : PySem.W.kitOne K (.ref cxNm) (.ref cxTw) = some false)
    (qNmTm : PySem.W.kitOne K (.ref cxNm) (.ref cxTm) = some false)
    (qNmNn : PySem.W.kitOne K (.ref cxNm) (.ref cxNn) = some false)
    (qNmNm : PySem.W.kitOne K (.ref cxNm) (.ref cxNm) = some true)
    (oaNm : PySem.W.kitAny K (.ref cxNm) [.ref cxCl, .ref cxCd, .ref cxNd, .ref cxNf, .ref cxNg, .ref cxNgd, .ref cxNh, .ref cxNp, .ref cxNr, .ref cxNt] = some false)
    (obNm : PySem.W.kitAny K (.ref cxNm) [.ref cxNth, .ref cxNti] = some false)
    (vNm : PySem.W.kitOne K (.ref cxNm) (.type "ValueError") = some true)
    (cmNm : PySem.W.exmOne K (.ref cxNm) (.ref cE) = some true)
    (y_abs : PySem.W.nsIn K mainGlobals "abs" = some none)
    (y_all : PySem.W.nsIn K mainGlobals "all" = some none)
    (y_any : PySem.W.nsIn K mainGlobals "any" = some none)
    (y_bool : PySem.W.nsIn K mainGlobals "bool" = some none)
    (y_int : PySem.W.nsIn K mainGlobals "int" = some none)
    (y_isinstance : PySem.W.nsIn K mainGlobals "isinstance" = some none)
    (y_len : PySem.W.nsIn K mainGlobals "len" = some none)
    (y_list : PySem.W.nsIn K mainGlobals "list" = some none)
    (y_range : PySem.W.nsIn K mainGlobals "range" = some none)
    (y_repr : PySem.W.nsIn K mainGlobals "repr" = some none)
    (y_set : PySem.W.nsIn K mainGlobals "set" = some none)
    (y_sorted : PySem.W.nsIn K mainGlobals "sorted" = some none)
    (y_str : PySem.W.nsIn K mainGlobals "str" = some none)
    (y_tuple : PySem.W.nsIn K mainGlobals "tuple" = some none)
    (y_zip : PySem.W.nsIn K mainGlobals "zip" = some none)
    (y_ValueError : PySem.W.nsIn K mainGlobals "ValueError" = some none) :
    LawG l w K 10 63 "_law_script" mg fa h := by
  have Gg := G.T.g
  have e := hfa.symm.trans (PySem.W.mg_of X Gg a32)
  cases e
  have n_abs := PySem.W.mg_none_of X Gg y_abs
  have n_all := PySem.W.mg_none_of X Gg y_all
  have n_any := PySem.W.mg_none_of X Gg y_any
  have n_bool := PySem.W.mg_none_of X Gg y_bool
  have n_int := PySem.W.mg_none_of X Gg y_int
  have n_isinstance := PySem.W.mg_none_of X Gg y_isinstance
  have n_len := PySem.W.mg_none_of X Gg y_len
  have n_list := PySem.W.mg_none_of X Gg y_list
  have n_range := PySem.W.mg_none_of X Gg y_range
  have n_repr := PySem.W.mg_none_of X Gg y_repr
  have n_set := PySem.W.mg_none_of X Gg y_set
  have n_sorted := PySem.W.mg_none_of X Gg y_sorted
  have n_str := PySem.W.mg_none_of X Gg y_str
  have n_tuple := PySem.W.mg_none_of X Gg y_tuple
  have n_zip := PySem.W.mg_none_of X Gg y_zip
  have n_ValueError := PySem.W.mg_none_of X Gg y_ValueError
  have m_L := PySem.W.mg_of X Gg zL
  have m_N := PySem.W.mg_of X Gg zN
  have m_ME := PySem.W.mg_of X Gg zME
  have m_Fo := PySem.W.mg_of X Gg AFo
  have m_Bo := PySem.W.mg_of X Gg ABo
  have m_Ra := PySem.W.mg_of X Gg ARa
  have F1 := fun_mk (st := sName) l1 c_1 k1
  have b1 := F1.binds (ps := ["thing"]) fun _ _ _ _ _ _ us hl => match us, hl with | [_], _ => rfl
  have g1 := PySem.W.mg_of X Gg a1
  have F2 := fun_mk (st := sWhole) l2 c_2 k2
  have b2 := F2.binds (ps := ["thing"]) fun _ _ _ _ _ _ us hl => match us, hl with | [_], _ => rfl
  have g2 := PySem.W.mg_of X Gg a2
  have F3 := fun_mk (st := sIsEntry) l3 c_3 k3
  have b3 := F3.binds (ps := ["thing"]) fun _ _ _ _ _ _ us hl => match us, hl with | [_], _ => rfl
  have g3 := PySem.W.mg_of X Gg a3
  have F4 := fun_mk (st := sFits) l4 c_4 k4
  have b4 := F4.binds (ps := ["part", "sort"]) fun _ _ _ _ _ _ us hl => match us, hl with | [_, _], _ => rfl
  have g4 := PySem.W.mg_of X Gg a4
  have F5 := fun_mk (st := sIsEntryOf) l5 c_5 k5
  have b5 := F5.binds (ps := ["thing", "places", "goods"]) fun _ _ _ _ _ _ us hl => match us, hl with | [_, _, _], _ => rfl
  have g5 := PySem.W.mg_of X Gg a5
  have F6 := fun_mk (st := sGood) l6 c_6 k6
  have b6 := F6.binds (ps := ["entry"]) fun _ _ _ _ _ _ us hl => match us, hl with | [_], _ => rfl
  have g6 := PySem.W.mg_of X Gg a6
  have F7 := fun_mk (st := sPlacesOf) l7 c_7 k7
  have b7 := F7.binds (ps := ["entry"]) fun _ _ _ _ _ _ us hl => match us, hl with | [_], _ => rfl
  have g7 := PySem.W.mg_of X Gg a7
  have F8 := fun_mk (st := sOrd) l8 c_8 k8
  have b8 := F8.binds (ps := ["entry"]) fun _ _ _ _ _ _ us hl => match us, hl with | [_], _ => rfl
  have g8 := PySem.W.mg_of X Gg a8
  have F9 := fun_mk (st := sWithPlaces) l9 c_9 k9
  have b9 := F9.binds (ps := ["entry", "places"]) fun _ _ _ _ _ _ us hl => match us, hl with | [_, _], _ => rfl
  have g9 := PySem.W.mg_of X Gg a9
  have F10 := fun_mk (st := sInOrder) l10 c_10 k10
  have b10 := F10.binds (ps := ["entries"]) fun _ _ _ _ _ _ us hl => match us, hl with | [_], _ => rfl
  have g10 := PySem.W.mg_of X Gg a10
  have F11 := fun_mk (st := sCalled) l11 c_11 k11
  have b11 := F11.binds (ps := ["house", "name"]) fun _ _ _ _ _ _ us hl => match us, hl with | [_, _], _ => rfl
  have g11 := PySem.W.mg_of X Gg a11
  have F12 := fun_mk (st := sWithE) l12 c_12 k12
  have b12 := F12.binds (ps := ["house", "entry"]) fun _ _ _ _ _ _ us hl => match us, hl with | [_, _], _ => rfl
  have g12 := PySem.W.mg_of X Gg a12
  have F13 := fun_mk (st := sWithoutE) l13 c_13 k13
  have b13 := F13.binds (ps := ["house", "name"]) fun _ _ _ _ _ _ us hl => match us, hl with | [_, _], _ => rfl
  have g13 := PySem.W.mg_of X Gg a13
  have F14 := fun_mk (st := sTurned) l14 c_14 k14
  have b14 := F14.binds (ps := ["house", "name"]) fun _ _ _ _ _ _ us hl => match us, hl with | [_, _], _ => rfl
  have g14 := PySem.W.mg_of X Gg a14
  have F15 := fun_mk (st := sPen) l15 c_15 k15
  have b15 := F15.binds (ps := ["_law_script"]) fun _ _ _ _ _ _ us hl => match us, hl with | [_], _ => rfl
  have g15 := PySem.W.mg_of X Gg a15
  have F16 := fun_mk (st := sTake) l16 c_16 k16
  have b16 := F16.binds (ps := ["_law_pen_here", "_law_many_here"]) fun _ _ _ _ _ _ us hl => match us, hl with | [_, _], _ => rfl
  have g16 := PySem.W.mg_of X Gg a16
  have F17 := fun_mk (st := sNames) l17 c_17 k17
  have b17 := F17.binds (ps := ["_law_pen_here", "_law_many_here"]) fun _ _ _ _ _ _ us hl => match us, hl with | [_, _], _ => rfl
  have g17 := PySem.W.mg_of X Gg a17
  have F18 := fun_mk (st := sWords) l18 c_18 k18
  have b18 := F18.binds (ps := ["_law_pen_here", "_law_places", "_law_goods", "_law_entries"]) fun _ _ _ _ _ _ us hl => match us, hl with | [_, _, _, _], _ => rfl
  have g18 := PySem.W.mg_of X Gg a18
  have F19 := fun_mk (st := sMoments) l19 c_19 k19
  have b19 := F19.binds (ps := ["_law_pen_here", "_law_many_here"]) fun _ _ _ _ _ _ us hl => match us, hl with | [_, _], _ => rfl
  have g19 := PySem.W.mg_of X Gg a19
  have F20 := fun_mk (st := sMany) l20 c_20 k20
  have b20 := F20.binds (ps := ["_law_pen_here"]) fun _ _ _ _ _ _ us hl => match us, hl with | [_], _ => rfl
  have g20 := PySem.W.mg_of X Gg a20
  have F21 := fun_mk (st := sEntryOf) l21 c_21 k21
  have b21 := F21.binds (ps := ["_law_pen_here", "_law_word", "_law_name", "_law_moment", "_law_places", "_law_goods", "_law_hands"]) fun _ _ _ _ _ _ us hl => match us, hl with | [_, _, _, _, _, _, _], _ => rfl
  have g21 := PySem.W.mg_of X Gg a21
  have F22 := fun_mk (st := sEntry) l22 c_22 k22
  have b22 := F22.binds (ps := ["_law_pen_here", "_law_name", "_law_moment", "_law_places", "_law_goods", "_law_hands"]) fun _ _ _ _ _ _ us hl => match us, hl with | [_, _, _, _, _, _], _ => rfl
  have g22 := PySem.W.mg_of X Gg a22
  have F23 := fun_mk (st := sOwn) l23 c_23 k23
  have b23 := F23.binds (ps := ["_law_entry_here"]) fun _ _ _ _ _ _ us hl => match us, hl with | [_], _ => rfl
  have g23 := PySem.W.mg_of X Gg a23
  have F24 := fun_mk (st := sClass) l24 c_24 k24
  have b24 := F24.binds (ps := ["_law_caught"]) fun _ _ _ _ _ _ us hl => match us, hl with | [_], _ => rfl
  have g24 := PySem.W.mg_of X Gg a24
  have F25 := fun_mk (st := sLTold) l25 c_25 k25
  have b25 := F25.binds (ps := ["_law_ask"]) fun _ _ _ _ _ _ us hl => match us, hl with | [_], _ => rfl
  have g25 := PySem.W.mg_of X Gg a25
  have F26 := fun_mk (st := sSorted) l26 c_26 k26
  have b26 := F26.binds (ps := ["_law_house", "_law_entries"]) fun _ _ _ _ _ _ us hl => match us, hl with | [_, _], _ => rfl
  have g26 := PySem.W.mg_of X Gg a26
  have F27 := fun_mk (st := sTwin) l27 c_27 k27
  have b27 := F27.binds (ps := ["_law_pen_here", "_law_entries"]) fun _ _ _ _ _ _ us hl => match us, hl with | [_, _], _ => rfl
  have g27 := PySem.W.mg_of X Gg a27
  have F28 := fun_mk (st := sPutIn) l28 c_28 k28
  have b28 := F28.binds (ps := ["_law_pen_here", "_law_house", "_law_fresh", "_law_strange"]) fun _ _ _ _ _ _ us hl => match us, hl with | [_, _, _, _], _ => rfl
  have g28 := PySem.W.mg_of X Gg a28
  have F29 := fun_mk (st := sPutR) l29 c_29 k29
  have b29 := F29.binds (ps := ["_law_pen_here", "_law_house", "_law_fresh", "_law_strange"]) fun _ _ _ _ _ _ us hl => match us, hl with | [_, _, _, _], _ => rfl
  have g29 := PySem.W.mg_of X Gg a29
  have F30 := fun_mk (st := sLeftR) l30 c_30 k30
  have b30 := F30.binds (ps := ["_law_house", "_law_entry_here"]) fun _ _ _ _ _ _ us hl => match us, hl with | [_, _], _ => rfl
  have g30 := PySem.W.mg_of X Gg a30
  have F31 := fun_mk (st := sNoName) l31 c_31 k31
  have b31 := F31.binds (ps := ["_law_house", "_law_name"]) fun _ _ _ _ _ _ us hl => match us, hl with | [_, _], _ => rfl
  have g31 := PySem.W.mg_of X Gg a31
  have F32 := fun_mk (st := sLaw) l32 c_32 k32
  have t1 := tab_is a1 l1 rfl lc1 hv1
  obtain ⟨hd1, tb1⟩ := PySem.W.tab_of G.T X r1 t1
  have t3 := tab_is a3 l3 rfl lc3 hv3
  obtain ⟨hd3, tb3⟩ := PySem.W.tab_of G.T X r3 t3
  have t5 := tab_is a5 l5 rfl lc5 hv5
  obtain ⟨hd5, tb5⟩ := PySem.W.tab_of G.T X r5 t5
  have t12 := tab_is a12 l12 rfl lc12 hv12
  obtain ⟨hd12, tb12⟩ := PySem.W.tab_of G.T X r12 t12
  have t13 := tab_is a13 l13 rfl lc13 hv13
  obtain ⟨hd13, tb13⟩ := PySem.W.tab_of G.T X r13 t13
  have t14 := tab_is a14 l14 rfl lc14 hv14
  obtain ⟨hd14, tb14⟩ := PySem.W.tab_of G.T X r14 t14
  have t29 := tab_is a29 l29 rfl lc29 hv29
  obtain ⟨hd29, tb29⟩ := PySem.W.tab_of G.T X r29 t29
  have t30 := tab_is a30 l30 rfl lc30 hv30
  obtain ⟨hd30, tb30⟩ := PySem.W.tab_of G.T X r30 t30
  have t31 := tab_is a31 l31 rfl lc31 hv31
  obtain ⟨hd31, tb31⟩ := PySem.W.tab_of G.T X r31 t31
  have DF : KDict K w aFo esFo nFo := ⟨LFo, litFo, lowFo⟩
  have hF : ∀ e : Ent, ∃ aS, KDct K w aFo e.word (.ref aS) ∧ ∀ H, SqT K H aS (e.sorts.map V.str) := fun e => by
    cases e
    · exact ⟨_, ⟨esFo, nFo, _, LFo, litFo, gFo1, rfl⟩, fun H => .inr ⟨_, _, _, LFo1, rfl, rfl, zFo1, vFo1⟩⟩
    · exact ⟨_, ⟨esFo, nFo, _, LFo, litFo, gFo2, rfl⟩, fun H => .inr ⟨_, _, _, LFo2, rfl, rfl, zFo2, vFo2⟩⟩
    · exact ⟨_, ⟨esFo, nFo, _, LFo, litFo, gFo3, rfl⟩, fun H => .inr ⟨_, _, _, LFo3, rfl, rfl, zFo3, vFo3⟩⟩
    · exact ⟨_, ⟨esFo, nFo, _, LFo, litFo, gFo4, rfl⟩, fun H => .inr ⟨_, _, _, LFo4, rfl, rfl, zFo4, vFo4⟩⟩
    · exact ⟨_, ⟨esFo, nFo, _, LFo, litFo, gFo5, rfl⟩, fun H => .inr ⟨_, _, _, LFo5, rfl, rfl, zFo5, vFo5⟩⟩
    · exact ⟨_, ⟨esFo, nFo, _, LFo, litFo, gFo6, rfl⟩, fun H => .inr ⟨_, _, _, LFo6, rfl, rfl, zFo6, vFo6⟩⟩
    · exact ⟨_, ⟨esFo, nFo, _, LFo, litFo, gFo7, rfl⟩, fun H => .inr ⟨_, _, _, LFo7, rfl, rfl, zFo7, vFo7⟩⟩
  have hB : ∀ x ∈ sorts4, ∃ aT, KDct K w aBo x (.ref aT) ∧ ∀ H, SqT K H aT [.int (bnd x).1, .int (bnd x).2] := fun x hx => by
    simp only [sorts4, List.mem_cons, List.not_mem_nil, or_false] at hx
    rcases hx with rfl | rfl | rfl | rfl
    · exact ⟨_, ⟨esBo, nBo, _, LBo, litBo, gBo1, rfl⟩, fun H => .inr ⟨_, _, _, LBo1, rfl, rfl, zBo1, vBo1⟩⟩
    · exact ⟨_, ⟨esBo, nBo, _, LBo, litBo, gBo2, rfl⟩, fun H => .inr ⟨_, _, _, LBo2, rfl, rfl, zBo2, vBo2⟩⟩
    · exact ⟨_, ⟨esBo, nBo, _, LBo, litBo, gBo3, rfl⟩, fun H => .inr ⟨_, _, _, LBo3, rfl, rfl, zBo3, vBo3⟩⟩
    · exact ⟨_, ⟨esBo, nBo, _, LBo, litBo, gBo4, rfl⟩, fun H => .inr ⟨_, _, _, LBo4, rfl, rfl, zBo4, vBo4⟩⟩
  have hR : ∀ e : Ent, KDct K w aRa e.word (.int e.rank) := fun e => by
    cases e
    · exact ⟨esRa, nRa, _, LRa, litRa, gRa1, ⟨_, rfl⟩⟩
    · exact ⟨esRa, nRa, _, LRa, litRa, gRa2, ⟨_, rfl⟩⟩
    · exact ⟨esRa, nRa, _, LRa, litRa, gRa3, ⟨_, rfl⟩⟩
    · exact ⟨esRa, nRa, _, LRa, litRa, gRa4, ⟨_, rfl⟩⟩
    · exact ⟨esRa, nRa, _, LRa, litRa, gRa5, ⟨_, rfl⟩⟩
    · exact ⟨esRa, nRa, _, LRa, litRa, gRa6, ⟨_, rfl⟩⟩
    · exact ⟨esRa, nRa, _, LRa, litRa, gRa7, ⟨_, rfl⟩⟩
  refine ⟨PySem.W.fnOf "law" "law" (defArgs sLaw) (defBody sLaw) (defScope sLaw) .none kV32 dc32 pm32 an32 cd32 ct32, [(c1, T1), (c3, T3), (c5, T5), (c12, T12), (c13, T13), (c14, T14), (c29, T29), (c30, T30), (c31, T31)], spLaw K [T1, T3, T5, T12, T13, T14] T29 T30 T31, ⟨fun p hp => ?_, fun p hp => ?_, fun p hp => ?_⟩, fun s v => .of_eq rfl, fun H a ns hlen hT hS => ?_, fun base _ _ TB => ?_⟩
  · simp only [List.mem_cons, List.not_mem_nil, or_false] at hp
    rcases hp with rfl | rfl | rfl | rfl | rfl | rfl | rfl | rfl | rfl
    · exact tb1
    · exact tb3
    · exact tb5
    · exact tb12
    · exact tb13
    · exact tb14
    · exact tb29
    · exact tb30
    · exact tb31
  · simp only [List.mem_cons, List.not_mem_nil, or_false] at hp
    rcases hp with rfl | rfl | rfl | rfl | rfl | rfl | rfl | rfl | rfl
    · exact nT1
    · exact nT3
    · exact nT5
    · exact nT12
    · exact nT13
    · exact nT14
    · exact nT29
    · exact nT30
    · exact nT31
  · simp only [List.mem_cons, List.not_mem_nil, or_false] at hp
    rcases hp with rfl | rfl | rfl | rfl | rfl | rfl | rfl | rfl | rfl
    · exact hd1
    · exact hd3
    · exact hd5
    · exact hd12
    · exact hd13
    · exact hd14
    · exact hd29
    · exact hd30
    · exact hd31
  · refine ⟨a, ns, rfl, hS, fun T hT' => ?_, LamX.TabS.nil (hT (c29, _) (by simp)), LamX.TabS.nil (hT (c30, _) (by simp)), LamX.TabS.nil (hT (c31, _) (by simp)), fun _ => rfl⟩
    simp only [List.mem_cons, List.not_mem_nil, or_false] at hT'
    rcases hT' with rfl | rfl | rfl | rfl | rfl | rfl
    · exact ⟨#[], hT (c1, _) (by simp), trivial⟩
    · exact ⟨#[], hT (c3, _) (by simp), trivial⟩
    · exact ⟨#[], hT (c5, _) (by simp), trivial⟩
    · exact ⟨#[], hT (c12, _) (by simp), trivial⟩
    · exact ⟨#[], hT (c13, _) (by simp), trivial⟩
    · exact ⟨#[], hT (c14, _) (by simp), trivial⟩
  · have B1 := TB (c1, T1) (by simp)
    have B3 := TB (c3, T3) (by simp)
    have B5 := TB (c5, T5) (by simp)
    have B12 := TB (c12, T12) (by simp)
    have B13 := TB (c13, T13) (by simp)
    have B14 := TB (c14, T14) (by simp)
    have B29 := TB (c29, T29) (by simp)
    have B30 := TB (c30, T30) (by simp)
    have B31 := TB (c31, T31) (by simp)
    have nPt1 : T29 ∉ [T1, T3, T5, T12, T13, T14] := by
          simp only [List.mem_cons, List.not_mem_nil, or_false, not_or]
          exact ⟨fun z => ne129 z.symm, fun z => ne329 z.symm, fun z => ne529 z.symm, fun z => ne1229 z.symm, fun z => ne1329 z.symm, fun z => ne1429 z.symm⟩
    have nPt2 : T30 ∉ [T1, T3, T5, T12, T13, T14] := by
          simp only [List.mem_cons, List.not_mem_nil, or_false, not_or]
          exact ⟨fun z => ne130 z.symm, fun z => ne330 z.symm, fun z => ne530 z.symm, fun z => ne1230 z.symm, fun z => ne1330 z.symm, fun z => ne1430 z.symm⟩
    have nPt3 : T31 ∉ [T1, T3, T5, T12, T13, T14] := by
          simp only [List.mem_cons, List.not_mem_nil, or_false, not_or]
          exact ⟨fun z => ne131 z.symm, fun z => ne331 z.symm, fun z => ne531 z.symm, fun z => ne1231 z.symm, fun z => ne1331 z.symm, fun z => ne1431 z.symm⟩
    have XNe : Err K mg "NoEntry" cxNe := ⟨PySem.W.mg_of X Gg HNe, exNe, kpNe, sbNe, tyNe⟩
    have XTw : Err K mg "Twice" cxTw := ⟨PySem.W.mg_of X Gg HTw, exTw, kpTw, sbTw, tyTw⟩
    have XTm : Err K mg "TooMany" cxTm := ⟨PySem.W.mg_of X Gg HTm, exTm, kpTm, sbTm, tyTm⟩
    have XNn : Err K mg "NoName" cxNn := ⟨PySem.W.mg_of X Gg HNn, exNn, kpNn, sbNn, tyNn⟩
    have XNm : Err K mg "NoMove" cxNm := ⟨PySem.W.mg_of X Gg HNm, exNm, kpNm, sbNm, tyNm⟩
    have CG : G7 mg ⟨cxNe, cxTw, cxTm, cxNn, cxNm⟩ ⟨cxCl, cxCd, cxNd, cxNf, cxNg, cxNgd, cxNh, cxNp, cxNr, cxNt, cxNth, cxNti⟩ cE := ⟨PySem.W.mg_of X Gg HNe, PySem.W.mg_of X Gg HTw, PySem.W.mg_of X Gg HTm, PySem.W.mg_of X Gg HNn, PySem.W.mg_of X Gg HNm, PySem.W.mg_of X Gg HCl, PySem.W.mg_of X Gg HCd, PySem.W.mg_of X Gg HNd, PySem.W.mg_of X Gg HNf, PySem.W.mg_of X Gg HNg, PySem.W.mg_of X Gg HNgd, PySem.W.mg_of X Gg HNh, PySem.W.mg_of X Gg HNp, PySem.W.mg_of X Gg HNr, PySem.W.mg_of X Gg HNt, PySem.W.mg_of X Gg HNth, PySem.W.mg_of X Gg HNti, PySem.W.mg_of X Gg HE⟩
    have DD : D7 K ⟨cxNe, cxTw, cxTm, cxNn, cxNm⟩ ⟨cxCl, cxCd, cxNd, cxNf, cxNg, cxNgd, cxNh, cxNp, cxNr, cxNt, cxNth, cxNti⟩ cE := fun r => by
          cases r with
          | entry => exact ⟨⟨e1Ne, e2Ne, sbNe, e4Ne, e5Ne, e6, e7, e8Ne⟩, qNeNe, qNeTw, qNeTm, qNeNn, qNeNm, oaNe, obNe, vNe, cmNe⟩
          | twice => exact ⟨⟨e1Tw, e2Tw, sbTw, e4Tw, e5Tw, e6, e7, e8Tw⟩, qTwNe, qTwTw, qTwTm, qTwNn, qTwNm, oaTw, obTw, vTw, cmTw⟩
          | many => exact ⟨⟨e1Tm, e2Tm, sbTm, e4Tm, e5Tm, e6, e7, e8Tm⟩, qTmNe, qTmTw, qTmTm, qTmNn, qTmNm, oaTm, obTm, vTm, cmTm⟩
          | name => exact ⟨⟨e1Nn, e2Nn, sbNn, e4Nn, e5Nn, e6, e7, e8Nn⟩, qNnNe, qNnTw, qNnTm, qNnNn, qNnNm, oaNn, obNn, vNn, cmNn⟩
          | move => exact ⟨⟨e1Nm, e2Nm, sbNm, e4Nm, e5Nm, e6, e7, e8Nm⟩, qNmNe, qNmTw, qNmTm, qNmNn, qNmNm, oaNm, obNm, vNm, cmNm⟩
    have TT : TakeT l.prog w K mg base f16 _ := ⟨ok_take F16 n_len n_abs, g16, k16, b16⟩
    have NA : DefT l.prog w K mg base "_law_names" 2 f17 _ _ (spNames) := ⟨ok_names F17 TT n_len n_range, g17, k17, b17⟩
    have MY : DefT l.prog w K mg base "_law_many" 2 f20 _ _ (spMany) := ⟨ok_many F20 TT, g20, k20, b20⟩
    have EO : DefT l.prog w K mg base "_law_entry_of" 3 f21 _ _ (spEntryOf) := ⟨ok_entryOf F21 TT MY n_len, g21, k21, b21⟩
    have EN : DefT l.prog w K mg base "_law_entry" 4 f22 _ _ (spEntry) := ⟨ok_entry F22 TT EO, g22, k22, b22⟩
    have GP : DefT l.prog w K mg base "_law_pen" 1 f15 _ _ (spPen K) := ⟨ok_pen F15 n_list, g15, k15, b15⟩
    have WD : DefT l.prog w K mg base "_law_words" 3 f18 _ _ (spWords) := ⟨ok_words F18 TT NA, g18, k18, b18⟩
    have MO : DefT l.prog w K mg base "_law_moments" 2 f19 _ _ (spMoments) := ⟨ok_moments F19 TT n_len n_range n_int, g19, k19, b19⟩
    have NM : DefT l.prog w K mg base "is_name" 1 f1 _ _ (spName K T1) := ⟨ok_name l1 c_1 ⟨B1.code, B1.bm, B1.gP⟩ n_isinstance n_str n_len n_all ⟨_, m_L⟩ ⟨_, m_N⟩, g1, k1, b1⟩
    have WH : DefT l.prog w K mg base "is_whole" 1 f2 _ _ (spWhole) := ⟨ok_whole F2 n_isinstance n_int n_bool, g2, k2, b2⟩
    have WHA : DefT l.prog w K mg base "is_whole" 1 f2 _ _ (spWholeA) := ⟨ok_wholeA F2 n_isinstance n_int n_bool, g2, k2, b2⟩
    have FI : DefT l.prog w K mg base "fits" 2 f4 _ _ (spFits T1) := ⟨ok_fits F4 NM WH m_Bo hB, g4, k4, b4⟩
    have FIA : DefT l.prog w K mg base "fits" 2 f4 _ _ (spFitsA T1) := ⟨ok_fitsA F4 NM WHA m_Bo hB, g4, k4, b4⟩
    have PO : DefT l.prog w K mg base "places_of" 1 f7 _ _ (spPlaces) := ⟨ok_placesOf F7, g7, k7, b7⟩
    have GO : DefT l.prog w K mg base "good_of" 1 f6 _ _ (spGood) := ⟨ok_good F6, g6, k6, b6⟩
    have IE : DefT l.prog w K mg base "is_entry" 4 f3 _ _ (spIsEntry T1 T3) := ⟨ok_isEntry l3 c_3 ⟨B3.code, B3.bm, B3.gP⟩ ne13 FI PO n_isinstance n_tuple n_len n_str n_all n_zip n_set m_Fo DF hF, g3, k3, b3⟩
    have IEA : DefT l.prog w K mg base "is_entry" 4 f3 _ _ (spIsEntryA T1 T3) := ⟨ok_isEntryA l3 c_3 ⟨B3.code, B3.bm, B3.gP⟩ ne13 FIA PO n_isinstance n_tuple n_len n_str n_all n_zip n_set m_Fo DF hF (forms_only LFo xFo), g3, k3, b3⟩
    have IO : DefT l.prog w K mg base "is_entry_of" 5 f5 _ _ (spIsEntryOf [T1, T3, T5, T12, T13, T14]) := ⟨ok_isEntryOf l5 c_5 ⟨B5.code, B5.bm, B5.gP⟩ (by simp) (by simp) (by simp) IE GO PO n_all, g5, k5, b5⟩
    have IO1 : DefT l.prog w K mg base "is_entry_of" 5 f5 _ _ (spNoE1 [T1, T3, T5, T12, T13, T14]) := ⟨ok_noEntry1 l5 c_5 ⟨B5.code, B5.bm, B5.gP⟩ (by simp) (by simp) (by simp) IEA GO PO n_all, g5, k5, b5⟩
    have ION : DefT l.prog w K mg base "is_entry_of" 5 f5 _ _ (spNoEntryOf [T1, T3, T5, T12, T13, T14]) := ⟨(FnOk.or IO.ok IO1.ok).imp fun _ _ _ _ h => noE_split h, g5, k5, b5⟩
    have IOB : DefT l.prog w K mg base "is_entry_of" 5 f5 _ _ (fun vs H Q E => spIsEntryOf [T1, T3, T5, T12, T13, T14] vs H Q E ∨ spNoEntryOf [T1, T3, T5, T12, T13, T14] vs H Q E) := ⟨FnOk.or IO.ok ION.ok, g5, k5, b5⟩
    have OR : DefT l.prog w K mg base "order_of" 1 f8 _ _ (spOrd) := ⟨ok_ord F8 m_Ra hR, g8, k8, b8⟩
    have IN : DefT l.prog w K mg base "in_order" 4 f10 _ _ (spInOrderT) := ⟨ok_inOrderT F10 OR n_sorted n_tuple, g10, k10, b10⟩
    have WP : DefT l.prog w K mg base "with_places" 1 f9 _ _ (spWithPl) := ⟨ok_withPl F9 n_len, g9, k9, b9⟩
    have CAX : DefX l.prog w K mg base "entry_called" 1 f11 _ _ (spCalled7 K cxNn) := ⟨ok_called F11 XNn, g11, k11, b11⟩
    have CA : DefT l.prog w K mg base "entry_called" 1 f11 _ _ (fun vs H Q _ => spCalled7 K cxNn vs H Q (fun _ _ _ => False)) := ⟨FnOk.calm CAX.ok, g11, k11, b11⟩
    have WEX : DefX l.prog w K mg base "with_entry" 6 f12 _ _ (spWithE [T1, T3, T5, T12, T13, T14] cxNe cxTw cxTm) := ⟨ok_withE l12 c_12 ⟨B12.code, B12.bm, B12.gP⟩ (by simp) IOB IN XNe XTw XTm n_any n_len ⟨_, m_ME⟩, g12, k12, b12⟩
    have WE : DefT l.prog w K mg base "with_entry" 6 f12 _ _ (fun vs H Q _ => spWithE [T1, T3, T5, T12, T13, T14] cxNe cxTw cxTm vs H Q (fun _ _ _ => False)) := ⟨FnOk.calm WEX.ok, g12, k12, b12⟩
    have WOX : DefX l.prog w K mg base "without_entry" 2 f13 _ _ (spWithout K [T1, T3, T5, T12, T13, T14] cxNn) := ⟨ok_without l13 c_13 ⟨B13.code, B13.bm, B13.gP⟩ (by simp) CAX n_tuple, g13, k13, b13⟩
    have WO : DefT l.prog w K mg base "without_entry" 2 f13 _ _ (fun vs H Q _ => spWithout K [T1, T3, T5, T12, T13, T14] cxNn vs H Q (fun _ _ _ => False)) := ⟨FnOk.calm WOX.ok, g13, k13, b13⟩
    have WTX : DefX l.prog w K mg base "with_turned" 2 f14 _ _ (spTurned K [T1, T3, T5, T12, T13, T14] cxNn cxNm) := ⟨ok_turned l14 c_14 ⟨B14.code, B14.bm, B14.gP⟩ (by simp) CAX WP XNm n_tuple, g14, k14, b14⟩
    have CL : DefT l.prog w K mg base "_law_class" 1 f24 _ _ (spClass ⟨cxNe, cxTw, cxTm, cxNn, cxNm⟩) := ⟨ok_class F24 CG DD n_isinstance n_ValueError n_len, g24, k24, b24⟩
    have LT : ToldD l.prog w K mg base ⟨cxNe, cxTw, cxTm, cxNn, cxNm⟩ ⟨cxCl, cxCd, cxNd, cxNf, cxNg, cxNgd, cxNh, cxNp, cxNr, cxNt, cxNth, cxNti⟩ cE f25 f24 _ _ _ _ _ _ _ _ _ _ := ⟨l25, c_25, g25, k25, b25, CG, DD, CL⟩
    have OD : DefT l.prog w K mg base "_law_order" 1 f23 _ _ (spOrd) := ⟨ok_own F23 n_int, g23, k23, b23⟩
    have LS : DefT l.prog w K mg base "_law_sorted" 4 f26 _ _ (spSorted) := ⟨ok_sorted F26 OD n_sorted n_tuple, g26, k26, b26⟩
    have TW : DefT l.prog w K mg base "_law_twin" 2 f27 _ _ (spTwin) := ⟨ok_twin F27 TT n_len n_range n_isinstance n_int, g27, k27, b27⟩
    have PI : DefT l.prog w K mg base "_law_put_in" 3 f28 _ _ (spPutIn K) := ⟨ok_putIn F28 TT TW n_len n_list n_int, g28, k28, b28⟩
    have PR : DefG l.prog w K mg base "_law_put_right" 9 f29 _ _ (spPutR [T1, T3, T5, T12, T13, T14] T29) := ⟨ok_putR l29 c_29 B29 nPt1 LT PI WEX LS n_repr n_len, g29, k29, b29⟩
    have LR : DefG l.prog w K mg base "_law_left_right" 9 f30 _ _ (spLeftR [T1, T3, T5, T12, T13, T14] T30) := ⟨ok_leftR l30 c_30 B30 nPt2 LT CA WE WO WTX LS n_repr, g30, k30, b30⟩
    have NN : DefT l.prog w K mg base "_law_no_name" 9 f31 _ _ (spNoNm K [T1, T3, T5, T12, T13, T14] T31) := ⟨ok_noName l31 c_31 B31 nPt3 LT CAX WOX WTX, g31, k31, b31⟩
    exact ok_law F32 nPt1 nPt2 nPt3 ne2930 ne2931 ne3031 GP TT WD MO EN LS PR LR NN n_range n_tuple n_sorted n_repr
end Shelf
open PySem PySem.W PyProof.Rows
set_option maxHeartbeats 0 in
theorem PySem.Challenge.cw_shelfcounts_k07_entries_put_in_and_left_holds : PySem.Challenge.rw_shelfcounts_k07_entries_put_in_and_left.Holds := by
  w_on; o_law; k_head; (case hw => w_witness2)
  k_fill
  refine Shelf.end_G (l := PySem.Challenge.rw_shelfcounts_k07_entries_put_in_and_left) (n := 63) (k := 10) (x := "_law_script") rfl (by decide) rfl ⟨rfl, by decide, by decide⟩ (fun w h Y => PySem.W.km_in_of Y) ?F
  case F =>
    intro w s0 mg mb fa h G KX hmg
    refine' Shelf.all_mk G KX hmg ?a1 ?l1 ?c_1 ?k1 ?lc1 ?hv1 ?nT1 ?r1 ?a2 ?l2 ?c_2 ?k2 ?a3 ?l3 ?c_3 ?k3 ?lc3 ?hv3 ?nT3 ?r3 ?a4 ?l4 ?c_4 ?k4 ?a5 ?l5 ?c_5 ?k5 ?lc5 ?hv5 ?nT5 ?r5 ?a6 ?l6 ?c_6 ?k6 ?a7 ?l7 ?c_7 ?k7 ?a8 ?l8 ?c_8 ?k8 ?a9 ?l9 ?c_9 ?k9 ?a10 ?l10 ?c_10 ?k10 ?a11 ?l11 ?c_11 ?k11 ?a12 ?l12 ?c_12 ?k12 ?lc12 ?hv12 ?nT12 ?r12 ?a13 ?l13 ?c_13 ?k13 ?lc13 ?hv13 ?nT13 ?r13 ?a14 ?l14 ?c_14 ?k14 ?lc14 ?hv14 ?nT14 ?r14 ?a15 ?l15 ?c_15 ?k15 ?a16 ?l16 ?c_16 ?k16 ?a17 ?l17 ?c_17 ?k17 ?a18 ?l18 ?c_18 ?k18 ?a19 ?l19 ?c_19 ?k19 ?a20 ?l20 ?c_20 ?k20 ?a21 ?l21 ?c_21 ?k21 ?a22 ?l22 ?c_22 ?k22 ?a23 ?l23 ?c_23 ?k23 ?a24 ?l24 ?c_24 ?k24 ?a25 ?l25 ?c_25 ?k25 ?a26 ?l26 ?c_26 ?k26 ?a27 ?l27 ?c_27 ?k27 ?a28 ?l28 ?c_28 ?k28 ?a29 ?l29 ?c_29 ?k29 ?lc29 ?hv29 ?nT29 ?r29 ?a30 ?l30 ?c_30 ?k30 ?lc30 ?hv30 ?nT30 ?r30 ?a31 ?l31 ?c_31 ?k31 ?lc31 ?hv31 ?nT31 ?r31 ?a32 ?l32 ?c_32 ?k32 ?ne13 ?ne15 ?ne35 ?ne112 ?ne312 ?ne512 ?ne113 ?ne313 ?ne513 ?ne1213 ?ne114 ?ne314 ?ne514 ?ne1214 ?ne1314 ?ne129 ?ne329 ?ne529 ?ne1229 ?ne1329 ?ne1429 ?ne130 ?ne330 ?ne530 ?ne1230 ?ne1330 ?ne1430 ?ne2930 ?ne131 ?ne331 ?ne531 ?ne1231 ?ne1331 ?ne1431 ?ne2931 ?ne3031 ?AFo ?LFo ?litFo ?lowFo ?gFo1 ?LFo1 ?zFo1 ?vFo1 ?gFo2 ?LFo2 ?zFo2 ?vFo2 ?gFo3 ?LFo3 ?zFo3 ?vFo3 ?gFo4 ?LFo4 ?zFo4 ?vFo4 ?gFo5 ?LFo5 ?zFo5 ?vFo5 ?gFo6 ?LFo6 ?zFo6 ?vFo6 ?gFo7 ?LFo7 ?zFo7 ?vFo7 ?ABo ?LBo ?litBo ?lowBo ?gBo1 ?LBo1 ?zBo1 ?vBo1 ?gBo2 ?LBo2 ?zBo2 ?vBo2 ?gBo3 ?LBo3 ?zBo3 ?vBo3 ?gBo4 ?LBo4 ?zBo4 ?vBo4 ?ARa ?LRa ?litRa ?lowRa ?gRa1 ?gRa2 ?gRa3 ?gRa4 ?gRa5 ?gRa6 ?gRa7 ?zL ?zN ?zME ?xFo ?HE ?HNe ?HTw ?HTm ?HNn ?HNm ?HCl ?HCd ?HNd ?HNf ?HNg ?HNgd ?HNh ?HNp ?HNr ?HNt ?HNth ?HNti ?e6 ?e7 ?exNe ?kpNe ?sbNe ?tyNe ?e1Ne ?e2Ne ?e4Ne ?e5Ne ?e8Ne ?qNeNe ?qNeTw ?qNeTm ?qNeNn ?qNeNm ?oaNe ?obNe ?vNe ?cmNe ?exTw ?kpTw ?sbTw ?tyTw ?e1Tw ?e2Tw ?e4Tw ?e5Tw ?e8Tw ?qTwNe ?qTwTw ?qTwTm ?qTwNn ?qTwNm ?oaTw ?obTw ?vTw ?cmTw ?exTm ?kpTm ?sbTm ?tyTm ?e1Tm ?e2Tm ?e4Tm ?e5Tm ?e8Tm ?qTmNe ?qTmTw ?qTmTm ?qTmNn ?qTmNm ?oaTm ?obTm ?vTm ?cmTm ?exNn ?kpNn ?sbNn ?tyNn ?e1Nn ?e2Nn ?e4Nn ?e5Nn ?e8Nn ?qNnNe ?qNnTw ?qNnTm ?qNnNn ?qNnNm ?oaNn ?obNn ?vNn ?cmNn ?exNm ?kpNm ?sbNm ?tyNm ?e1Nm ?e2Nm ?e4Nm ?e5Nm ?e8Nm ?qNmNe ?qNmTw ?qNmTm ?qNmNn ?qNmNm ?oaNm ?obNm ?vNm ?cmNm ?y_abs ?y_all ?y_any ?y_bool ?y_int ?y_isinstance ?y_len ?y_list ?y_range ?y_repr ?y_set ?y_sorted ?y_str ?y_tuple ?y_zip ?y_ValueError
    (case a1 => k_is); (case l1 => k_is); (case c_1 => k_is); (case k1 => k_is); (case lc1 => k_is); (case hv1 => rfl)
    (case nT1 => kernel_rfl); (case r1 => rfl); (case a2 => k_is); (case l2 => k_is); (case c_2 => k_is); (case k2 => k_is)
    (case a3 => k_is); (case l3 => k_is); (case c_3 => k_is); (case k3 => k_is); (case lc3 => k_is); (case hv3 => rfl)
    (case nT3 => kernel_rfl); (case r3 => rfl); (case a4 => k_is); (case l4 => k_is); (case c_4 => k_is); (case k4 => k_is)
    (case a5 => k_is); (case l5 => k_is); (case c_5 => k_is); (case k5 => k_is); (case lc5 => k_is); (case hv5 => rfl)
    (case nT5 => kernel_rfl); (case r5 => rfl); (case a6 => k_is); (case l6 => k_is); (case c_6 => k_is); (case k6 => k_is)
    (case a7 => k_is); (case l7 => k_is); (case c_7 => k_is); (case k7 => k_is); (case a8 => k_is); (case l8 => k_is)
    (case c_8 => k_is); (case k8 => k_is); (case a9 => k_is); (case l9 => k_is); (case c_9 => k_is); (case k9 => k_is)
    (case a10 => k_is); (case l10 => k_is); (case c_10 => k_is); (case k10 => k_is); (case a11 => k_is); (case l11 => k_is)
    (case c_11 => k_is); (case k11 => k_is); (case a12 => k_is); (case l12 => k_is); (case c_12 => k_is); (case k12 => k_is)
    (case lc12 => k_is); (case hv12 => rfl); (case nT12 => kernel_rfl); (case r12 => rfl); (case a13 => k_is); (case l13 => k_is)
    (case c_13 => k_is); (case k13 => k_is); (case lc13 => k_is); (case hv13 => rfl); (case nT13 => kernel_rfl); (case r13 => rfl)
    (case a14 => k_is); (case l14 => k_is); (case c_14 => k_is); (case k14 => k_is); (case lc14 => k_is); (case hv14 => rfl)
    (case nT14 => kernel_rfl); (case r14 => rfl); (case a15 => k_is); (case l15 => k_is); (case c_15 => k_is); (case k15 => k_is)
    (case a16 => k_is); (case l16 => k_is); (case c_16 => k_is); (case k16 => k_is); (case a17 => k_is); (case l17 => k_is)
    (case c_17 => k_is); (case k17 => k_is); (case a18 => k_is); (case l18 => k_is); (case c_18 => k_is); (case k18 => k_is)
    (case a19 => k_is); (case l19 => k_is); (case c_19 => k_is); (case k19 => k_is); (case a20 => k_is); (case l20 => k_is)
    (case c_20 => k_is); (case k20 => k_is); (case a21 => k_is); (case l21 => k_is); (case c_21 => k_is); (case k21 => k_is)
    (case a22 => k_is); (case l22 => k_is); (case c_22 => k_is); (case k22 => k_is); (case a23 => k_is); (case l23 => k_is)
    (case c_23 => k_is); (case k23 => k_is); (case a24 => k_is); (case l24 => k_is); (case c_24 => k_is); (case k24 => k_is)
    (case a25 => k_is); (case l25 => k_is); (case c_25 => k_is); (case k25 => k_is); (case a26 => k_is); (case l26 => k_is)
    (case c_26 => k_is); (case k26 => k_is); (case a27 => k_is); (case l27 => k_is); (case c_27 => k_is); (case k27 => k_is)
    (case a28 => k_is); (case l28 => k_is); (case c_28 => k_is); (case k28 => k_is); (case a29 => k_is); (case l29 => k_is)
    (case c_29 => k_is); (case k29 => k_is); (case lc29 => k_is); (case hv29 => rfl); (case nT29 => kernel_rfl); (case r29 => rfl)
    (case a30 => k_is); (case l30 => k_is); (case c_30 => k_is); (case k30 => k_is); (case lc30 => k_is); (case hv30 => rfl)
    (case nT30 => kernel_rfl); (case r30 => rfl); (case a31 => k_is); (case l31 => k_is); (case c_31 => k_is); (case k31 => k_is)
    (case lc31 => k_is); (case hv31 => rfl); (case nT31 => kernel_rfl); (case r31 => rfl); (case a32 => k_is); (case l32 => k_is)
    (case c_32 => k_is); (case k32 => k_is); (case ne13 => decide); (case ne15 => decide); (case ne35 => decide); (case ne112 => decide)
    (case ne312 => decide); (case ne512 => decide); (case ne113 => decide); (case ne313 => decide); (case ne513 => decide); (case ne1213 => decide)
    (case ne114 => decide); (case ne314 => decide); (case ne514 => decide); (case ne1214 => decide); (case ne1314 => decide); (case ne129 => decide)
    (case ne329 => decide); (case ne529 => decide); (case ne1229 => decide); (case ne1329 => decide); (case ne1429 => decide); (case ne130 => decide)
    (case ne330 => decide); (case ne530 => decide); (case ne1230 => decide); (case ne1330 => decide); (case ne1430 => decide); (case ne2930 => decide)
    (case ne131 => decide); (case ne331 => decide); (case ne531 => decide); (case ne1231 => decide); (case ne1331 => decide); (case ne1431 => decide)
    (case ne2931 => decide); (case ne3031 => decide); (case AFo => k_is); (case LFo => k_is); (case litFo => repeat' (first | exact True.intro | refine ⟨⟨_, _, rfl, rfl⟩, ?_⟩)); (case lowFo => rfl)
    (case gFo1 => k_is); (case LFo1 => k_is); (case zFo1 => decide); (case vFo1 => repeat' (first | exact .nil | refine .cons ⟨_, rfl⟩ ?_)); (case gFo2 => k_is); (case LFo2 => k_is)
    (case zFo2 => decide); (case vFo2 => repeat' (first | exact .nil | refine .cons ⟨_, rfl⟩ ?_)); (case gFo3 => k_is); (case LFo3 => k_is); (case zFo3 => decide); (case vFo3 => repeat' (first | exact .nil | refine .cons ⟨_, rfl⟩ ?_))
    (case gFo4 => k_is); (case LFo4 => k_is); (case zFo4 => decide); (case vFo4 => repeat' (first | exact .nil | refine .cons ⟨_, rfl⟩ ?_)); (case gFo5 => k_is); (case LFo5 => k_is)
    (case zFo5 => decide); (case vFo5 => repeat' (first | exact .nil | refine .cons ⟨_, rfl⟩ ?_)); (case gFo6 => k_is); (case LFo6 => k_is); (case zFo6 => decide); (case vFo6 => repeat' (first | exact .nil | refine .cons ⟨_, rfl⟩ ?_))
    (case gFo7 => k_is); (case LFo7 => k_is); (case zFo7 => decide); (case vFo7 => repeat' (first | exact .nil | refine .cons ⟨_, rfl⟩ ?_)); (case ABo => k_is); (case LBo => k_is)
    (case litBo => repeat' (first | exact True.intro | refine ⟨⟨_, _, rfl, rfl⟩, ?_⟩)); (case lowBo => rfl); (case gBo1 => k_is); (case LBo1 => k_is); (case zBo1 => decide); (case vBo1 => repeat' (first | exact .nil | refine .cons ⟨_, rfl⟩ ?_))
    (case gBo2 => k_is); (case LBo2 => k_is); (case zBo2 => decide); (case vBo2 => repeat' (first | exact .nil | refine .cons ⟨_, rfl⟩ ?_)); (case gBo3 => k_is); (case LBo3 => k_is)
    (case zBo3 => decide); (case vBo3 => repeat' (first | exact .nil | refine .cons ⟨_, rfl⟩ ?_)); (case gBo4 => k_is); (case LBo4 => k_is); (case zBo4 => decide); (case vBo4 => repeat' (first | exact .nil | refine .cons ⟨_, rfl⟩ ?_))
    (case ARa => k_is); (case LRa => k_is); (case litRa => repeat' (first | exact True.intro | refine ⟨⟨_, _, rfl, rfl⟩, ?_⟩)); (case lowRa => rfl); (case gRa1 => k_is); (case gRa2 => k_is)
    (case gRa3 => k_is); (case gRa4 => k_is); (case gRa5 => k_is); (case gRa6 => k_is); (case gRa7 => k_is); (case zL => k_is)
    (case zN => k_is); (case zME => k_is); (case xFo => rfl); (case HE => k_is); (case HNe => k_is); (case HTw => k_is)
    (case HTm => k_is); (case HNn => k_is); (case HNm => k_is); (case HCl => k_is); (case HCd => k_is); (case HNd => k_is)
    (case HNf => k_is); (case HNg => k_is); (case HNgd => k_is); (case HNh => k_is); (case HNp => k_is); (case HNr => k_is)
    (case HNt => k_is); (case HNth => k_is); (case HNti => k_is); (case e6 => k_is); (case e7 => k_is); (case exNe => k_exc)
    (case kpNe => k_is); (case sbNe => k_is); (case tyNe => k_is); (case e1Ne => k_is); (case e2Ne => k_is); (case e4Ne => k_is)
    (case e5Ne => k_is); (case e8Ne => k_is); (case qNeNe => kernel_rfl); (case qNeTw => kernel_rfl); (case qNeTm => kernel_rfl); (case qNeNn => kernel_rfl)
    (case qNeNm => kernel_rfl); (case oaNe => kernel_rfl); (case obNe => kernel_rfl); (case vNe => kernel_rfl); (case cmNe => kernel_rfl); (case exTw => k_exc)
    (case kpTw => k_is); (case sbTw => k_is); (case tyTw => k_is); (case e1Tw => k_is); (case e2Tw => k_is); (case e4Tw => k_is)
    (case e5Tw => k_is); (case e8Tw => k_is); (case qTwNe => kernel_rfl); (case qTwTw => kernel_rfl); (case qTwTm => kernel_rfl); (case qTwNn => kernel_rfl)
    (case qTwNm => kernel_rfl); (case oaTw => kernel_rfl); (case obTw => kernel_rfl); (case vTw => kernel_rfl); (case cmTw => kernel_rfl); (case exTm => k_exc)
    (case kpTm => k_is); (case sbTm => k_is); (case tyTm => k_is); (case e1Tm => k_is); (case e2Tm => k_is); (case e4Tm => k_is)
    (case e5Tm => k_is); (case e8Tm => k_is); (case qTmNe => kernel_rfl); (case qTmTw => kernel_rfl); (case qTmTm => kernel_rfl); (case qTmNn => kernel_rfl)
    (case qTmNm => kernel_rfl); (case oaTm => kernel_rfl); (case obTm => kernel_rfl); (case vTm => kernel_rfl); (case cmTm => kernel_rfl); (case exNn => k_exc)
    (case kpNn => k_is); (case sbNn => k_is); (case tyNn => k_is); (case e1Nn => k_is); (case e2Nn => k_is); (case e4Nn => k_is)
    (case e5Nn => k_is); (case e8Nn => k_is); (case qNnNe => kernel_rfl); (case qNnTw => kernel_rfl); (case qNnTm => kernel_rfl); (case qNnNn => kernel_rfl)
    (case qNnNm => kernel_rfl); (case oaNn => kernel_rfl); (case obNn => kernel_rfl); (case vNn => kernel_rfl); (case cmNn => kernel_rfl); (case exNm => k_exc)
    (case kpNm => k_is); (case sbNm => k_is); (case tyNm => k_is); (case e1Nm => k_is); (case e2Nm => k_is); (case e4Nm => k_is)
    (case e5Nm => k_is); (case e8Nm => k_is); (case qNmNe => kernel_rfl); (case qNmTw => kernel_rfl); (case qNmTm => kernel_rfl); (case qNmNn => kernel_rfl)
    (case qNmNm => kernel_rfl); (case oaNm => kernel_rfl); (case obNm => kernel_rfl); (case vNm => kernel_rfl); (case cmNm => kernel_rfl); (case y_abs => k_is)
    (case y_all => k_is); (case y_any => k_is); (case y_bool => k_is); (case y_int => k_is); (case y_isinstance => k_is); (case y_len => k_is)
    (case y_list => k_is); (case y_range => k_is); (case y_repr => k_is); (case y_set => k_is); (case y_sorted => k_is); (case y_str => k_is)
    (case y_tuple => k_is); (case y_zip => k_is); (case y_ValueError => k_is)
